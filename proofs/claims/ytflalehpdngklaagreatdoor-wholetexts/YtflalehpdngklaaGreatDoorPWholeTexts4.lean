/- Walks and plain facts that the proof of the statement WholeTexts uses, joined: OrdI OrdJ OrdF OrdK OrdM OrdY HisO TxnI TxnJ TxnK HisP OrdR OrdS OrdX RelP RelG RelH RelI RelN RelJ RelK RelL RelO SetH SetI RelQ OrdO HisQ HisR OrdV OrdZ OrdAC OrdAA OrdAH LeaA RelR LeaC LeaD RelS RelT LeaE LeaB LevA LevB RelU LeaH RelX RelY LeaF. Conditions: each theorem's own. -/
import Derived.Test.YtflalehpdngklaaGreatDoorProg
import Derived.Deep.MidRow
import Derived.BigQuiet
import Derived.Deep.QuietTactic
import Derived.Deep.RegionHeld3
import Derived.Deep.CutRange
import Derived.Deep.RegionWith
import Derived.Deep.RegionHeld
import Derived.Deep.AppendLies
import Derived.Deep.LoopGhost
import Derived.ChangeKeysEq
import Derived.Laws.Bits128
import Derived.WalkKit
import Derived.WalkSpells
import Derived.WalkLawsBesides
import Derived.Lib.Hide
import Derived.Deep.RegionLaw
import Derived.Test.YtflalehpdngklaaGreatDoorPWholeTexts0
import Derived.Test.YtflalehpdngklaaGreatDoorPWholeTexts1
import Derived.Test.YtflalehpdngklaaGreatDoorPWholeTexts2
import Derived.Test.YtflalehpdngklaaGreatDoorPWholeTexts3
namespace Go.Proofs.YtflalehpdngklaaGreatDoor
set_option maxRecDepth 100000
open Go.RowKit

/-- The cells of the block, one by one. -/
def ordF (n : Int) (S T F : Mat) (vm vk vr : Value) (sd : Bool) (i : Nat) : Value :=
  if i = 0 then .int .i64 n else if i < 65 then .int .u64 ((mkS (S (i - 1)) : Nat) : Int) else if i < 129 then .int .u64 ((mkS (T (i - 65)) : Nat) : Int) else if i < 193 then .int .u64 ((mkS (F (i - 129)) : Nat) : Int) else
  if i = 193 then vm else if i = 194 then vk else if i = 195 then vr else .bool sd
/-- The block that holds what follows of a history. -/
def OrdAt (w : World) (B : Nat) (n : Int) (S T F : Mat) (vm vk vr : Value) (sd : Bool) : Prop := ∀ i, i < 197 → w.cell? ⟨B, i, none⟩ = some (ordF n S T F vm vk vr sd i) ∧ w.frozen? ⟨B, i, none⟩ = false
section
variable {w : World} {B : Nat} {n : Int} {S T F : Mat} {vm vk vr : Value} {sd : Bool}
theorem OrdAt.lt (h : OrdAt w B n S T F vm vk vr sd) : B < w.heap.size := block_lt (h 0 (by omega)).1
theorem OrdAt.below {w' : World} {B' : Nat} (h : OrdAt w B n S T F vm vk vr sd) (hb : Below B' w w') (hB : B < B') : OrdAt w' B n S T F vm vk vr sd := fun i hi => by
  rw [hb.cell (p := ⟨B, i, none⟩) hB, hb.frozen (p := ⟨B, i, none⟩) hB]; exact h i hi
theorem OrdAt.alloc (h : OrdAt w B n S T F vm vk vr sd) (o : Obj) : OrdAt (w.alloc o) B n S T F vm vk vr sd := h.below ((Below.refl w.heap.size w).alloc (Nat.le_refl _) o) h.lt
theorem OrdAt.drew (h : OrdAt w B n S T F vm vk vr sd) : OrdAt w.drew B n S T F vm vk vr sd := h.below ((Below.refl w.heap.size w).drew) h.lt
theorem OrdAt.grown {w' : World} {row : Option Nat} (h : OrdAt w B n S T F vm vk vr sd) (hg : w.grownBy w' row) (hne : some B ≠ row) : OrdAt w' B n S T F vm vk vr sd := fun i hi => by
  obtain ⟨h1, h2⟩ := h i hi
  have hb := hg.block B h.lt hne
  have e1 : w'.cell? ⟨B, i, none⟩ = w.cell? ⟨B, i, none⟩ := by simp only [World.cell?]; rw [hb]
  have e2 : w'.frozen? ⟨B, i, none⟩ = w.frozen? ⟨B, i, none⟩ := by simp only [World.frozen?]; rw [hb]
  rw [e1, e2]; exact ⟨h1, h2⟩
theorem OrdAt.cM (h : OrdAt w B n S T F vm vk vr sd) : w.cell? ⟨B, 193, none⟩ = some vm := (h 193 (by omega)).1
theorem OrdAt.cK (h : OrdAt w B n S T F vm vk vr sd) : w.cell? ⟨B, 194, none⟩ = some vk := (h 194 (by omega)).1
theorem OrdAt.cR (h : OrdAt w B n S T F vm vk vr sd) : w.cell? ⟨B, 195, none⟩ = some vr := (h 195 (by omega)).1
theorem OrdAt.cS (h : OrdAt w B n S T F vm vk vr sd) : w.cell? ⟨B, 196, none⟩ = some (.bool sd) := (h 196 (by omega)).1
theorem OrdAt.free (h : OrdAt w B n S T F vm vk vr sd) {i : Nat} (hi : i < 197) : w.frozen? ⟨B, i, none⟩ = false := (h i hi).2
theorem OrdAt.put (h : OrdAt w B n S T F vm vk vr sd) (k : Nat) (hk : k < 197) (v : Value) {n' : Int} {S' T' F' : Mat} {vm' vk' vr' : Value} {sd' : Bool} (h1 : ordF n' S' T' F' vm' vk' vr' sd' k = v)
    (h2 : ∀ i, i < 197 → i ≠ k → ordF n' S' T' F' vm' vk' vr' sd' i = ordF n S T F vm vk vr sd i) : OrdAt (w.setCell ⟨B, k, none⟩ v) B n' S' T' F' vm' vk' vr' sd' := fun i hi => by
  refine ⟨?_, by rw [World.frozen?_setCell]; exact (h i hi).2⟩
  by_cases e : i = k
  · subst e
    rw [World.cell?_setCell_same _ _ _ (h i hi).1, h1]
  · have hne : (⟨B, k, none⟩ : Addr) ≠ ⟨B, i, none⟩ := by
      intro q
      injection q with _ q2
      exact e q2.symm
    rw [World.cell?_setCell_other _ _ _ _ hne, h2 i hi e]
    exact (h i hi).1
theorem OrdAt.setM (h : OrdAt w B n S T F vm vk vr sd) (v : Value) : OrdAt (w.setCell ⟨B, 193, none⟩ v) B n S T F v vk vr sd := h.put 193 (by omega) v rfl (fun i _ e => by unfold ordF; simp [e])
theorem OrdAt.setK (h : OrdAt w B n S T F vm vk vr sd) (v : Value) : OrdAt (w.setCell ⟨B, 194, none⟩ v) B n S T F vm v vr sd := h.put 194 (by omega) v rfl (fun i _ e => by unfold ordF; simp [e])
theorem OrdAt.setR (h : OrdAt w B n S T F vm vk vr sd) (v : Value) : OrdAt (w.setCell ⟨B, 195, none⟩ v) B n S T F vm vk v sd := h.put 195 (by omega) v rfl (fun i _ e => by unfold ordF; simp [e])
theorem OrdAt.setS (h : OrdAt w B n S T F vm vk vr sd) (v : Bool) : OrdAt (w.setCell ⟨B, 196, none⟩ (.bool v)) B n S T F vm vk vr v := h.put 196 (by omega) (.bool v) rfl (fun i hi e => by
  unfold ordF
  by_cases e1 : i < 193
  · by_cases a0 : i = 0
    · simp only [a0, if_true]
    · by_cases a1 : i < 65
      · simp only [a0, a1, if_true, if_false]
      · by_cases a2 : i < 129
        · simp only [a0, a1, a2, if_true, if_false]
        · simp only [a0, a1, a2, e1, if_true, if_false]
  · have e3 : i = 193 ∨ i = 194 ∨ i = 195 := by omega
    rcases e3 with rfl | rfl | rfl <;> rfl)
theorem OrdAt.other (h : OrdAt w B n S T F vm vk vr sd) {k : Addr} (hk : B ≠ k.block) (v : Value) : OrdAt (w.setCell k v) B n S T F vm vk vr sd := fun i hi => by
  rw [World.frozen?_setCell, World.cell?_setCell_other _ _ _ _ (fun e => hk (by rw [e]))]; exact h i hi
theorem OrdAt.put64 (h : OrdAt w B n S T F vm vk vr sd) (o : Nat) (ho : o + 64 ≤ 197) (R : Mat) {S' T' F' : Mat} (h1 : ∀ j, j < 64 → ordF n S' T' F' vm vk vr sd (o + j) = .int .u64 ((mkS (R j) : Nat) : Int))
    (h2 : ∀ i, i < 197 → (i < o ∨ o + 64 ≤ i) → ordF n S' T' F' vm vk vr sd i = ordF n S T F vm vk vr sd i) : OrdAt (w.setCells B o (rowsA R).toList) B n S' T' F' vm vk vr sd := fun i hi => by
  have hl : (rowsA R).toList.length = 64 := by simp [rowsA_size]
  refine ⟨?_, by rw [World.frozen?_setCells]; exact (h i hi).2⟩
  by_cases e : i < o ∨ o + 64 ≤ i
  · rw [World.cell?_setCells_out B (rowsA R).toList o w ⟨B, i, none⟩ (fun _ _ => by simp only [hl]; exact e), h2 i hi e]
    exact (h i hi).1
  · obtain ⟨j, rfl⟩ : ∃ j, i = o + j := ⟨i - o, by omega⟩
    have hj : j < 64 := by omega
    rw [World.cell?_setCells_in B (rowsA R).toList o w (fun q hq => by rw [(h (o + q) (by omega)).1]; rfl) j (by omega), h1 j hj]
    have := rowsA_at R hj
    rw [← Array.getElem?_toList, List.getElem?_eq_getElem (by omega)] at this
    exact this
theorem OrdAt.setS1 (h : OrdAt w B n S T F vm vk vr sd) (R : Mat) : OrdAt (w.setCells B 1 (rowsA R).toList) B n R T F vm vk vr sd := h.put64 1 (by omega) R (fun j hj => by unfold ordF; rw [if_neg (by omega), if_pos (by omega)]; simp) (fun i _ e => by
  unfold ordF
  by_cases e0 : i = 0
  · simp only [e0, if_true]
  · have e1 : ¬ i < 65 := by omega
    simp only [e0, e1, if_false])
theorem OrdAt.setT1 (h : OrdAt w B n S T F vm vk vr sd) (R : Mat) : OrdAt (w.setCells B 65 (rowsA R).toList) B n S R F vm vk vr sd := h.put64 65 (by omega) R (fun j hj => by unfold ordF; rw [if_neg (by omega), if_neg (by omega), if_pos (by omega)]; simp) (fun i _ e => by
  unfold ordF
  by_cases e0 : i = 0
  · simp only [e0, if_true]
  · by_cases e1 : i < 65
    · simp only [e0, e1, if_true, if_false]
    · have e2 : ¬ i < 129 := by omega
      simp only [e0, e1, e2, if_false])
theorem OrdAt.setF1 (h : OrdAt w B n S T F vm vk vr sd) (R : Mat) : OrdAt (w.setCells B 129 (rowsA R).toList) B n S T R vm vk vr sd := h.put64 129 (by omega) R (fun j hj => by unfold ordF; rw [if_neg (by omega), if_neg (by omega), if_neg (by omega), if_pos (by omega)]; simp) (fun i _ e => by
  unfold ordF
  by_cases e0 : i = 0
  · simp only [e0, if_true]
  · by_cases e1 : i < 65
    · simp only [e0, e1, if_true, if_false]
    · by_cases e2 : i < 129
      · simp only [e0, e1, e2, if_true, if_false]
      · have e3 : ¬ i < 193 := by omega
        simp only [e0, e1, e2, e3, if_false])
theorem OrdAt.range (h : OrdAt w B n S T F vm vk vr sd) (o : Nat) (ho : o + 64 ≤ 197) (R : Mat) (h1 : ∀ j, j < 64 → ordF n S T F vm vk vr sd (o + j) = .int .u64 ((mkS (R j) : Nat) : Int)) : w.rangeAt B o (rowsA R).toList := fun j v hv => by
  have hl : (rowsA R).toList.length = 64 := by simp [rowsA_size]
  have hj : j < 64 := by have := (List.getElem?_eq_some_iff.1 hv).1; omega
  rw [Array.getElem?_toList, rowsA_at R hj] at hv
  rw [(h (o + j) (by omega)).1, h1 j hj]; exact hv
theorem OrdAt.rS (h : OrdAt w B n S T F vm vk vr sd) : w.rangeAt B 1 (rowsA S).toList := h.range 1 (by omega) S (fun j hj => by unfold ordF; rw [if_neg (by omega), if_pos (by omega)]; simp)
theorem OrdAt.rT (h : OrdAt w B n S T F vm vk vr sd) : w.rangeAt B 65 (rowsA T).toList := h.range 65 (by omega) T (fun j hj => by unfold ordF; rw [if_neg (by omega), if_neg (by omega), if_pos (by omega)]; simp)
theorem OrdAt.rF (h : OrdAt w B n S T F vm vk vr sd) : w.rangeAt B 129 (rowsA F).toList := h.range 129 (by omega) F (fun j hj => by unfold ordF; rw [if_neg (by omega), if_neg (by omega), if_neg (by omega), if_pos (by omega)]; simp)
theorem OrdAt.there (h : OrdAt w B n S T F vm vk vr sd) (o : Nat) (ho : o + 64 ≤ 197) : w.there B o 64 := fun j hj => by
  obtain ⟨h1, h2⟩ := h (o + j) (by omega)
  exact ⟨by rw [h1]; rfl, h2⟩
end
theorem zeroOrd (n : Int) : (Tryz.zeroCells93.setIfInBounds 0 (.int .i64 n)).setIfInBounds 196 (.bool true) = ((List.range 197).map (ordF n noR noR noR (.map none) (.slice none 0 0) (.slice none 0 0) true)).toArray := by kernel_rfl
theorem OrdAt.made (w : World) (n : Int) (t : TypeId) {B : Nat} {cs : Array Value} (hB : B = w.heap.size) (hc : cs = (Tryz.zeroCells93.setIfInBounds 0 (.int .i64 n)).setIfInBounds 196 (.bool true)) : OrdAt (w.alloc (.cells cs t)) B n noR noR noR (.map none) (.slice none 0 0) (.slice none 0 0) true := by
  subst hB hc
  rw [zeroOrd]
  have hh := heap_alloc_new w (.cells ((List.range 197).map (ordF n noR noR noR (.map none) (.slice none 0 0) (.slice none 0 0) true)).toArray t)
  intro i hi
  refine ⟨?_, frozen_of_row _ _ _ _ _ hh⟩
  rw [cell_of_row _ _ _ _ _ _ hh]
  simp [hi]
end Go.Proofs.YtflalehpdngklaaGreatDoor

namespace Go.Proofs.YtflalehpdngklaaGreatDoor
set_option maxRecDepth 100000
open Go.RowKit

/-- Two rows over memory of unlike types are apart. -/
theorem owns_apart {w : World} {b1 b2 : Nat} {e1 e2 : TypeId} {s1 s2 : Nat} {v1 v2 : Value} {n1 n2 : Nat} {x1 x2 : List Value} (h1 : w.ownsRow b1 e1 s1 v1 n1 x1) (h2 : w.ownsRow b2 e2 s2 v2 n2 x2) (he : e1 ≠ e2) : v1.ownBlock = none ∨ v1.ownBlock ≠ v2.ownBlock := by
  obtain ⟨_, h1⟩ := h1
  obtain ⟨_, h2⟩ := h2
  rcases h1 with ⟨rfl, _⟩ | ⟨g1, c1, cur1, rfl, _, hh1, _⟩
  · exact .inl rfl
  · right
    rcases h2 with ⟨rfl, _⟩ | ⟨g2, c2, cur2, rfl, _, hh2, _⟩
    · simp [Value.ownBlock]
    · intro e
      simp [Value.ownBlock] at e
      subst e
      rw [hh1] at hh2
      injection hh2 with hh2
      injection hh2 with _ hh2
      exact he hh2
theorem owns_cell_any {w : World} {base : Nat} {e : TypeId} {size : Nat} {v : Value} {n : Nat} {xs : List Value} (h : w.ownsRow base e size v n xs) {a : Addr} (hg : a.block < base) (x : Value) : (w.setCell a x).ownsRow base e size v n xs := by
  refine h.kept (row := some a.block) ⟨rfl, rfl, rfl, by simp, fun k hk hne => ?_⟩ ?_
  · exact heap_setCell_other w a k x (fun e3 => hne (by rw [e3]))
  · rcases h.2 with ⟨rfl, _⟩ | ⟨g, cap, cur, rfl, hb, _⟩
    · exact .inl rfl
    · right
      simp [Value.ownBlock]; omega
theorem owns_cells {base : Nat} {e : TypeId} {size : Nat} {v : Value} {n : Nat} {xs : List Value} {g : Nat} (hg : g < base) : ∀ (vs : List Value) (o : Nat) (w : World), w.ownsRow base e size v n xs → (w.setCells g o vs).ownsRow base e size v n xs
  | [], _, _, h => h
  | x :: r, o, w, h => by rw [World.setCells]; exact owns_cells hg r (o + 1) _ (owns_cell_any h hg x)
abbrev KRow := Value × List Int
abbrev RRow := Value × List (Int × Int)
/-- The rows of keys, and of reads, that the call has made. -/
structure OfR (b : Nat) (w : World) (vk vr : Value) (K : List KRow) (R : List RRow) : Prop where
  kr : w.ownsRow b 34 1 vk K.length (K.map (·.1))
  ke : ∀ p ∈ K, w.ownsRow b 3 1 p.1 p.2.length (p.2.map (Value.int .i64))
  rr : w.ownsRow b 89 1 vr R.length (R.map (·.1))
  re : ∀ p ∈ R, w.ownsRow b 95 2 p.1 p.2.length (frV p.2)
section
variable {b : Nat} {w : World} {vk vr : Value} {K : List KRow} {R : List RRow}
theorem OfR.nil (b : Nat) (w : World) : OfR b w (.slice none 0 0) (.slice none 0 0) [] [] := ⟨World.ownsRow_nil _ _ _ _, fun p hp => (by cases hp), World.ownsRow_nil _ _ _ _, fun p hp => (by cases hp)⟩
theorem OfR.below {w' : World} (h : OfR b w vk vr K R) (hb : Below w.heap.size w w') : OfR b w' vk vr K R := ⟨owns_below h.kr hb, fun p hp => owns_below (h.ke p hp) hb, owns_below h.rr hb, fun p hp => owns_below (h.re p hp) hb⟩
theorem OfR.cell (h : OfR b w vk vr K R) {a : Addr} (ha : a.block < b) (x : Value) : OfR b (w.setCell a x) vk vr K R := ⟨owns_cell_any h.kr ha x, fun p hp => owns_cell_any (h.ke p hp) ha x, owns_cell_any h.rr ha x, fun p hp => owns_cell_any (h.re p hp) ha x⟩
theorem OfR.cells (h : OfR b w vk vr K R) {g : Nat} (hg : g < b) (o : Nat) (vs : List Value) : OfR b (w.setCells g o vs) vk vr K R := ⟨owns_cells hg vs o w h.kr, fun p hp => owns_cells hg vs o w (h.ke p hp), owns_cells hg vs o w h.rr, fun p hp => owns_cells hg vs o w (h.re p hp)⟩
theorem OfR.addK {w2 : World} {o : Obj} {v v' : Value} {l : List Int} (h : OfR b w vk vr K R) (hv : w.ownsRow b 3 1 v l.length (l.map (Value.int .i64))) (hown : w2.ownsRow b 34 1 v' (K.length + 1) (K.map (·.1) ++ [v]))
    (hg : (w.alloc o).grownBy w2 vk.ownBlock) : OfR b w2 v' vr (K ++ [(v, l)]) R := by
  refine ⟨by simpa using hown, fun p hp => ?_, (h.rr.alloc o).kept hg (owns_apart h.rr h.kr (by decide)), fun p hp => ((h.re p hp).alloc o).kept hg (owns_apart (h.re p hp) h.kr (by decide))⟩
  rcases List.mem_append.1 hp with hp | hp
  · exact ((h.ke p hp).alloc o).kept hg (owns_apart (h.ke p hp) h.kr (by decide))
  · obtain rfl := List.mem_singleton.1 hp
    exact (hv.alloc o).kept hg (owns_apart hv h.kr (by decide))
theorem OfR.addR {w2 : World} {o : Obj} {v v' : Value} {l : List (Int × Int)} (h : OfR b w vk vr K R) (hv : w.ownsRow b 95 2 v l.length (frV l)) (hown : w2.ownsRow b 89 1 v' (R.length + 1) (R.map (·.1) ++ [v]))
    (hg : (w.alloc o).grownBy w2 vr.ownBlock) : OfR b w2 vk v' K (R ++ [(v, l)]) := by
  refine ⟨(h.kr.alloc o).kept hg (owns_apart h.kr h.rr (by decide)), fun p hp => ((h.ke p hp).alloc o).kept hg (owns_apart (h.ke p hp) h.rr (by decide)), by simpa using hown, fun p hp => ?_⟩
  rcases List.mem_append.1 hp with hp | hp
  · exact ((h.re p hp).alloc o).kept hg (owns_apart (h.re p hp) h.rr (by decide))
  · obtain rfl := List.mem_singleton.1 hp
    exact (hv.alloc o).kept hg (owns_apart hv h.rr (by decide))
theorem OfR.rws (h : OfR b w vk vr K R) : Rws w vk K := ⟨Row.of_owns h.kr, fun p hp => Ints.of_owns (h.ke p hp)⟩
theorem OfR.frws (h : OfR b w vk vr K R) : FRws w vr R := ⟨Row.of_owns h.rr, fun p hp => Row.of_owns (h.re p hp)⟩
end
/-- What each transaction writes to, what it reads of others, and whether it reads what it may. -/
def keysOf (l : List OpV) : List Int := (refWrites l).map OpV.key
def readsOf (h : List TxnV) (i : Nat) : List (Int × Int) := rdFr (wrTo h h.length) (i : Int) (refReads (opsAt h i))
def soundOf (h : List TxnV) (i : Nat) : Bool := !(refReads (opsAt h i)).any (badFr (wrTo h h.length) (i : Int)) && steadyL (opsAt h i)
def keysTo (h : List TxnV) (k : Nat) : List (List Int) := (List.range k).map fun i => keysOf (opsAt h i)
def readsTo (h : List TxnV) (k : Nat) : List (List (Int × Int)) := (List.range k).map (readsOf h)
def soundTo (h : List TxnV) (k : Nat) : Bool := (List.range k).all (soundOf h)
theorem keysTo_succ (h : List TxnV) (k : Nat) : keysTo h (k + 1) = keysTo h k ++ [keysOf (opsAt h k)] := by simp [keysTo, List.range_succ]
theorem readsTo_succ (h : List TxnV) (k : Nat) : readsTo h (k + 1) = readsTo h k ++ [readsOf h k] := by simp [readsTo, List.range_succ]
theorem soundTo_succ (h : List TxnV) (k : Nat) : soundTo h (k + 1) = (soundTo h k && soundOf h k) := by simp [soundTo, List.range_succ]
/-- Of a history that may be. -/
theorem check_zero {h : List TxnV} (hc : checkI h = 0) : h.length ≤ 64 ∧ opsN h ≤ 1024 ∧ okW h = true ∧ ∀ t ∈ h, keysIn t.l := by
  unfold checkI at hc
  by_cases hb : 64 < h.length ∨ 1024 < opsN h
  · rw [if_pos hb] at hc; omega
  · rw [if_neg hb] at hc
    cases hr : rightB h
    · rw [hr] at hc; simp at hc
    · unfold rightB valuesB at hr
      simp only [Bool.and_eq_true] at hr
      exact ⟨by omega, by omega, hr.2.1.1, parts_keys hr.1⟩
end Go.Proofs.YtflalehpdngklaaGreatDoor

namespace Go.Proofs.YtflalehpdngklaaGreatDoor
set_option maxRecDepth 100000
open Go.RowKit

set_option maxHeartbeats 4000000 in
theorem oftime_any (va : Value) (h : List TxnV) (p a b : Nat) (w : World) (hp : w.cell? ⟨p, 0, none⟩ = some va) (hT : Txns w va h) (ha : a < h.length) (hb : b < h.length) :
    Calls Tryz.prog 68 #[.int .i64 a, .int .i64 b, .pointer (some ⟨p, 0, none⟩)] w fun e w' => e = .returned (.bool (decide (h[a].c < h[b].b))) ∧ Below w.heap.size w w' := by
  obtain ⟨ao, cap, rfl, hal⟩ := hT.form
  obtain ⟨g, o, hao, c0, c1, c2, c3⟩ := hT.at ha
  cases hao
  obtain ⟨g', o', hao, d0, d1, d2, d3⟩ := hT.at hb
  cases hao
  have hai : (a : Int) < (h.length : Int) := by omega
  have hbi : (b : Int) < (h.length : Int) := by omega
  generalize h[a].c = x at *
  generalize h[b].b = y at *
  clear c0 c1 c3 d0 d2 d3 hT
  go_enter Tryz.func68, Tryz.ntmps68
  go_wp2_with fail
  go_quiet (fail)
  go_wp2_with fail
  go_ret
  exact ⟨rfl, below_drewN (Below.refl _ _) _⟩
set_option maxHeartbeats 4000000 in
theorem ofsession_any (va : Value) (h : List TxnV) (p a b : Nat) (w : World) (hp : w.cell? ⟨p, 0, none⟩ = some va) (hT : Txns w va h) (ha : a < h.length) (hb : b < h.length) :
    Calls Tryz.prog 67 #[.int .i64 a, .int .i64 b, .pointer (some ⟨p, 0, none⟩)] w fun e w' => e = .returned (.bool (decide (a < b) && decide (h[a].s = h[b].s))) ∧ Below w.heap.size w w' := by
  obtain ⟨ao, cap, rfl, hal⟩ := hT.form
  obtain ⟨g, o, hao, c0, c1, c2, c3⟩ := hT.at ha
  cases hao
  obtain ⟨g', o', hao, d0, d1, d2, d3⟩ := hT.at hb
  cases hao
  have hai : (a : Int) < (h.length : Int) := by omega
  have hbi : (b : Int) < (h.length : Int) := by omega
  generalize h[a].s = x at *
  generalize h[b].s = y at *
  clear c1 c2 c3 d1 d2 d3 hT
  by_cases hab : a < b
  · have H : Hid ((decide (a < b) && decide (x = y)) = decide (x = y)) := Lib.hid (by rw [decide_eq_true hab]; rfl)
    have habi : (a : Int) < (b : Int) := by omega
    rw [H.out]
    clear hab H
    go_enter Tryz.func67, Tryz.ntmps67
    go_wp2_with fail
    go_quiet (fail)
    go_wp2_with fail
    go_ret
    exact ⟨rfl, below_drewN (Below.refl _ _) _⟩
  · have H : Hid ((decide (a < b) && decide (x = y)) = false) := Lib.hid (by rw [decide_eq_false hab]; rfl)
    have habi : ¬ (a : Int) < (b : Int) := by omega
    have hd : decide ((a : Int) < (b : Int)) = false := decide_eq_false habi
    have hle : (b : Int) ≤ (a : Int) := by omega
    have hdn : decide (a < b) = false := decide_eq_false hab
    rw [H.out]
    clear H
    go_enter Tryz.func67, Tryz.ntmps67
    go_wp2_with fail
    go_quiet (fail)
    go_wp2_with fail
    go_ret
    exact ⟨rfl, below_drewN (Below.refl _ _) _⟩
end Go.Proofs.YtflalehpdngklaaGreatDoor

namespace Go.Proofs.YtflalehpdngklaaGreatDoor
set_option maxRecDepth 100000
open Go.RowKit

theorem infoLI : (Tryz.prog.info? 34).map (fun i => (i.zero, i.size, i.bytes)) = some (some (.slice none 0 0), 1, 24) := by kernel_rfl
theorem infoLR : (Tryz.prog.info? 89).map (fun i => (i.zero, i.size, i.bytes)) = some (some (.slice none 0 0), 1, 24) := by kernel_rfl
theorem owns_form {w : World} {b : Nat} {e : TypeId} {s : Nat} {v : Value} {n : Nat} {xs : List Value} (h : w.ownsRow b e s v n xs) : ∃ ao cap, v = .slice ao n cap := by
  rcases h.2 with ⟨rfl, rfl⟩ | ⟨g, cap, cur, rfl, _⟩
  · exact ⟨_, _, rfl⟩
  · exact ⟨_, _, rfl⟩
theorem row_ne {w : World} {b : Nat} {e : TypeId} {s : Nat} {v : Value} {n : Nat} {xs : List Value} (h : w.ownsRow b e s v n xs) {g : Nat} (hg : g < b) : some g ≠ v.ownBlock := fun e2 => by have := (h.lt g e2.symm).1; omega
theorem row_ne_box {w : World} {b : Nat} {e : TypeId} {s : Nat} {v : Value} {n : Nat} {xs : List Value} (h : w.ownsRow b e s v n xs) {g : Nat} {cs : Array Value} {t : TypeId} (hg : w.heap[g]? = some (.cells cs t (0, 0))) (he : e ≠ t) : some g ≠ v.ownBlock := by
  rcases h.2 with ⟨rfl, _⟩ | ⟨g1, c1, cur1, rfl, _, hh1, _⟩
  · simp [Value.ownBlock]
  · intro q
    simp [Value.ownBlock] at q
    subst q
    rw [hg] at hh1
    injection hh1 with hh1
    injection hh1 with _ hh1
    exact he hh1.symm
/-- What the regions of the loop read, and don't write. -/
def SB (C B gx : Nat) (ts tb tc : Int) (tv : Value) (w : World) : Prop := w.cell? ⟨C, 0, none⟩ = some (.pointer (some ⟨B, 0, none⟩)) ∧ w.cell? ⟨gx, 0, none⟩ = some (.int .i64 ts) ∧ w.cell? ⟨gx, 1, none⟩ = some (.int .i64 tb) ∧ w.cell? ⟨gx, 2, none⟩ = some (.int .i64 tc) ∧ w.cell? ⟨gx, 3, none⟩ = some tv
section
variable {C B gx : Nat} {ts tb tc : Int} {tv : Value} {w w' : World}
theorem SB.below (h : SB C B gx ts tb tc tv w) (hb : Below w.heap.size w w') : SB C B gx ts tb tc tv w' := by
  obtain ⟨h0, h1, h2, h3, h4⟩ := h
  exact ⟨(hb.cell (p := ⟨C, 0, none⟩) (block_lt h0)).trans h0, (hb.cell (p := ⟨gx, 0, none⟩) (block_lt h1)).trans h1, (hb.cell (p := ⟨gx, 1, none⟩) (block_lt h2)).trans h2, (hb.cell (p := ⟨gx, 2, none⟩) (block_lt h3)).trans h3, (hb.cell (p := ⟨gx, 3, none⟩) (block_lt h4)).trans h4⟩
theorem SB.drew (h : SB C B gx ts tb tc tv w) : SB C B gx ts tb tc tv w.drew := h.below (Below.refl _ _).drew
theorem SB.alloc (h : SB C B gx ts tb tc tv w) (o : Obj) : SB C B gx ts tb tc tv (w.alloc o) := h.below (box_below w o)
theorem SB.grown {row : Option Nat} (h : SB C B gx ts tb tc tv w) (hg : w.grownBy w' row) (hC : some C ≠ row) (hX : some gx ≠ row) : SB C B gx ts tb tc tv w' := by
  obtain ⟨h0, h1, h2, h3, h4⟩ := h
  exact ⟨hg.cell h0 hC, hg.cell h1 hX, hg.cell h2 hX, hg.cell h3 hX, hg.cell h4 hX⟩
theorem SB.cell (h : SB C B gx ts tb tc tv w) {a : Addr} (hC : C ≠ a.block) (hX : gx ≠ a.block) (v : Value) : SB C B gx ts tb tc tv (w.setCell a v) := by
  obtain ⟨h0, h1, h2, h3, h4⟩ := h
  refine ⟨?_, ?_, ?_, ?_, ?_⟩
  · rw [World.cell?_setCell_other _ _ _ _ (fun e => hC (by rw [e]))]; exact h0
  · rw [World.cell?_setCell_other _ _ _ _ (fun e => hX (by rw [e]))]; exact h1
  · rw [World.cell?_setCell_other _ _ _ _ (fun e => hX (by rw [e]))]; exact h2
  · rw [World.cell?_setCell_other _ _ _ _ (fun e => hX (by rw [e]))]; exact h3
  · rw [World.cell?_setCell_other _ _ _ _ (fun e => hX (by rw [e]))]; exact h4
end
/-- What holds in the loop of order.Of: the block, the rows, what is read. -/
structure OfS (W : World) (gx : Nat) (ts tb tc : Int) (tv : Value) (n : Int) (vk vr : Value) (sd : Bool) (K : List KRow) (R : List RRow) (w : World) : Prop where
  o : OrdAt w W.heap.size n noR noR noR (.map none) vk vr sd
  s : SB (W.heap.size + 1) W.heap.size gx ts tb tc tv w
  r : OfR (W.heap.size + 2) w vk vr K R
  b : Below W.heap.size W w
  z : W.heap.size + 2 ≤ w.heap.size
  x : ∃ cs, w.heap[gx]? = some (.cells cs 106 (0, 0))
  g : W.heap.size + 2 ≤ gx
section
variable {W w w' : World} {gx : Nat} {ts tb tc : Int} {tv : Value} {n : Int} {vk vr : Value} {sd : Bool} {K : List KRow} {R : List RRow}
theorem OfS.below (h : OfS W gx ts tb tc tv n vk vr sd K R w) (hb : Below w.heap.size w w') : OfS W gx ts tb tc tv n vk vr sd K R w' := by
  obtain ⟨cs, hx⟩ := h.x
  have hl : gx < w.heap.size := by
    by_cases h0 : gx < w.heap.size
    · exact h0
    · rw [Array.getElem?_eq_none (Nat.le_of_not_lt h0)] at hx; cases hx
  exact ⟨h.o.below hb h.o.lt, h.s.below hb, h.r.below hb, h.b.trans (hb.mono h.b.size), Nat.le_trans h.z hb.size, ⟨cs, (hb.block gx hl).trans hx⟩, h.g⟩
/-- A key's row appended, and stored. -/
theorem OfS.addK {wx w5 : World} {v v5 : Value} {t : TypeId} {l : List Int} (h : OfS W gx ts tb tc tv n vk vr sd K R w) (hb : Below w.heap.size w wx) (hv : wx.ownsRow (W.heap.size + 2) 3 1 v l.length (l.map (Value.int .i64)))
    (hown : w5.ownsRow (W.heap.size + 2) 34 1 v5 (K.length + 1) (K.map (·.1) ++ [v])) (hg : (wx.alloc (.cells #[v] t)).grownBy w5 vk.ownBlock) :
    OfS W gx ts tb tc tv n v5 vr sd (K ++ [(v, l)]) R (w5.setCell ⟨W.heap.size, 194, none⟩ v5) ∧ SB (W.heap.size + 1) W.heap.size gx ts tb tc tv w5 ∧ w5.frozen? ⟨W.heap.size, 194, none⟩ = false ∧ w5.cell? ⟨W.heap.size, 194, none⟩ = some vk := by
  have hx := h.below hb
  have hsx := hx.b.size
  obtain ⟨cs, hgx⟩ := hx.x
  have hlx : gx < wx.heap.size := by
    by_cases h0 : gx < wx.heap.size
    · exact h0
    · rw [Array.getElem?_eq_none (Nat.le_of_not_lt h0)] at hgx; cases hgx
  have nC := row_ne hx.r.kr (g := W.heap.size + 1) (by omega)
  have nB := row_ne hx.r.kr (g := W.heap.size) (by omega)
  have nX := row_ne_box hx.r.kr hgx (by decide)
  have hz := hx.z
  have hgg := hx.g
  have s5 := (hx.s.alloc (.cells #[v] t)).grown hg nC nX
  have o5 := (hx.o.alloc (.cells #[v] t)).grown hg nB
  have r5 := hx.r.addK hv hown hg
  have b5 : Below W.heap.size W w5 := (hx.b.alloc hsx (.cells #[v] t)).grown hg (by simp; omega) (fun k hk => by have := (hx.r.kr.lt k hk).1; omega)
  refine ⟨⟨o5.setK v5, s5.cell (by simp) (by simp; omega) v5, r5.cell (by simp) v5, b5.setCell (Nat.le_refl _) v5, ?_, ⟨cs, ?_⟩, hgg⟩, s5, o5.free (by omega), o5.cK⟩
  · have := hg.size; simp at this ⊢; omega
  · rw [heap_setCell_other w5 ⟨W.heap.size, 194, none⟩ gx v5 (by simp; omega), hg.block gx (by simp; omega) nX, Below.heap_alloc wx _ gx hlx]
    exact hgx
/-- A row of what is read, appended, and stored. -/
theorem OfS.addR {wx w5 : World} {v v5 : Value} {t : TypeId} {l : List (Int × Int)} (h : OfS W gx ts tb tc tv n vk vr sd K R w) (hb : Below w.heap.size w wx) (hv : wx.ownsRow (W.heap.size + 2) 95 2 v l.length (frV l))
    (hown : w5.ownsRow (W.heap.size + 2) 89 1 v5 (R.length + 1) (R.map (·.1) ++ [v])) (hg : (wx.alloc (.cells #[v] t)).grownBy w5 vr.ownBlock) :
    OfS W gx ts tb tc tv n vk v5 sd K (R ++ [(v, l)]) (w5.setCell ⟨W.heap.size, 195, none⟩ v5) ∧ SB (W.heap.size + 1) W.heap.size gx ts tb tc tv w5 ∧ w5.frozen? ⟨W.heap.size, 195, none⟩ = false ∧ w5.cell? ⟨W.heap.size, 195, none⟩ = some vr := by
  have hx := h.below hb
  have hsx := hx.b.size
  obtain ⟨cs, hgx⟩ := hx.x
  have hlx : gx < wx.heap.size := by
    by_cases h0 : gx < wx.heap.size
    · exact h0
    · rw [Array.getElem?_eq_none (Nat.le_of_not_lt h0)] at hgx; cases hgx
  have nC := row_ne hx.r.rr (g := W.heap.size + 1) (by omega)
  have nB := row_ne hx.r.rr (g := W.heap.size) (by omega)
  have nX := row_ne_box hx.r.rr hgx (by decide)
  have hz := hx.z
  have hgg := hx.g
  have s5 := (hx.s.alloc (.cells #[v] t)).grown hg nC nX
  have o5 := (hx.o.alloc (.cells #[v] t)).grown hg nB
  have r5 := hx.r.addR hv hown hg
  have b5 : Below W.heap.size W w5 := (hx.b.alloc hsx (.cells #[v] t)).grown hg (by simp; omega) (fun k hk => by have := (hx.r.rr.lt k hk).1; omega)
  refine ⟨⟨o5.setR v5, s5.cell (by simp) (by simp; omega) v5, r5.cell (by simp) v5, b5.setCell (Nat.le_refl _) v5, ?_, ⟨cs, ?_⟩, hgg⟩, s5, o5.free (by omega), o5.cR⟩
  · have := hg.size; simp at this ⊢; omega
  · rw [heap_setCell_other w5 ⟨W.heap.size, 195, none⟩ gx v5 (by simp; omega), hg.block gx (by simp; omega) nX, Below.heap_alloc wx _ gx hlx]
    exact hgx
theorem OfS.setS (h : OfS W gx ts tb tc tv n vk vr sd K R w) (v : Bool) : OfS W gx ts tb tc tv n vk vr v K R (w.setCell ⟨W.heap.size, 196, none⟩ (.bool v)) := by
  obtain ⟨cs, hgx⟩ := h.x
  have hgg := h.g
  exact ⟨h.o.setS v, h.s.cell (by simp) (by simp; omega) _, h.r.cell (by simp) _, h.b.setCell (Nat.le_refl _) _, by have := h.z; simpa using this, ⟨cs, by rw [heap_setCell_other w ⟨W.heap.size, 196, none⟩ gx _ (by simp; omega)]; exact hgx⟩, hgg⟩
end
end Go.Proofs.YtflalehpdngklaaGreatDoor

namespace Go.Proofs.YtflalehpdngklaaGreatDoor
set_option maxRecDepth 100000
open Go.RowKit

theorem run_enters {f : FuncId} {fn : Func} {c : Code} (hf : Tryz.prog.funcs[f]? = some fn) (hname : (fn.name == "runtime.NumGoroutine") = false) (hb : fn.body = some c) (args : Array Value) (w : World) : Sem.run Tryz.prog (callFunc f args) w = .ok (.enter f args) w := by
  have h1 : fn.name ≠ "runtime.NumGoroutine" := by simpa using hname
  simp [callFunc, hf, h1, hb]
theorem enters_ses (args : Array Value) (w : World) : Sem.run Tryz.prog (callFunc 67 args) w = .ok (.enter 67 args) w := run_enters Tryz.func67 (by kernel_rfl) rfl args w
theorem enters_tim (args : Array Value) (w : World) : Sem.run Tryz.prog (callFunc 68 args) w = .ok (.enter 68 args) w := run_enters Tryz.func68 (by kernel_rfl) rfl args w
theorem enters_fro (args : Array Value) (w : World) : Sem.run Tryz.prog (callFunc 69 args) w = .ok (.enter 69 args) w := run_enters Tryz.func69 (by kernel_rfl) rfl args w
theorem MapI.cell {α : Type} {e : α → Value} {P : Program} {k : TypeId} {w : World} {b n : Nat} {f : Int → Option α} {c : Nat} (h : MapI e P k w b n f c) {a : Addr} (hb : b ≠ a.block) (v : Value) : MapI e P k (w.setCell a v) b n f c :=
  h.kept (row := some a.block) ⟨rfl, rfl, rfl, by simp, fun j hj hne => heap_setCell_other w a j v (fun e => hne (by rw [e]))⟩ (fun e => hb (by injection e))
theorem MapI.cells {α : Type} {e : α → Value} {P : Program} {k : TypeId} {b n : Nat} {f : Int → Option α} {c : Nat} {g : Nat} (hb : b ≠ g) : ∀ (vs : List Value) (o : Nat) (w : World), MapI e P k w b n f c → MapI e P k (w.setCells g o vs) b n f c
  | [], _, _, h => h
  | v :: r, o, w, h => by rw [World.setCells]; exact MapI.cells hb r (o + 1) _ (h.cell hb v)
/-- What the end of order.Of reads and does not write. -/
def SA (C B A : Nat) (va : Value) (w : World) : Prop := w.cell? ⟨C, 0, none⟩ = some (.pointer (some ⟨B, 0, none⟩)) ∧ w.cell? ⟨A, 0, none⟩ = some va
theorem below_putC {B g : Nat} {W : World} (hg : B ≤ g) : ∀ (vs : List Value) (o : Nat) (w : World), Below B W w → Below B W (w.setCells g o vs)
  | [], _, _, h => h
  | v :: r, o, w, h => by rw [World.setCells]; exact below_putC hg r (o + 1) _ (h.setCell hg v)
theorem cell_put {g : Nat} {p : Addr} (hp : p.block ≠ g) (vs : List Value) (o : Nat) (w : World) : (w.setCells g o vs).cell? p = w.cell? p := World.cell?_setCells_out g vs o w p (fun e _ => absurd e hp)
theorem size_put (g : Nat) : ∀ (vs : List Value) (o : Nat) (w : World), (w.setCells g o vs).heap.size = w.heap.size
  | [], _, _ => rfl
  | v :: r, o, w => by rw [World.setCells, size_put g r]; simp
/-- What holds behind order.Of's loop: the block, the rows, what is read. -/
structure OfT (W : World) (A : Nat) (va : Value) (n : Int) (S T F : Mat) (vm vk vr : Value) (sd : Bool) (K : List KRow) (R : List RRow) (w : World) : Prop where
  o : OrdAt w W.heap.size n S T F vm vk vr sd
  s : SA (W.heap.size + 1) W.heap.size A va w
  r : OfR (W.heap.size + 2) w vk vr K R
  b : Below W.heap.size W w
  a : A < W.heap.size
section
variable {W w w' : World} {A : Nat} {va : Value} {n : Int} {S T F : Mat} {vm vk vr : Value} {sd : Bool} {K : List KRow} {R : List RRow}
theorem OfT.below (h : OfT W A va n S T F vm vk vr sd K R w) (hb : Below w.heap.size w w') : OfT W A va n S T F vm vk vr sd K R w' := by
  obtain ⟨h0, h1⟩ := h.s
  exact ⟨h.o.below hb h.o.lt, ⟨(hb.cell (p := ⟨W.heap.size + 1, 0, none⟩) (block_lt h0)).trans h0, (hb.cell (p := ⟨A, 0, none⟩) (block_lt h1)).trans h1⟩, h.r.below hb, h.b.trans (hb.mono h.b.size), h.a⟩
theorem OfT.drew (h : OfT W A va n S T F vm vk vr sd K R w) : OfT W A va n S T F vm vk vr sd K R w.drew := h.below (Below.refl _ _).drew
theorem OfT.setM (h : OfT W A va n S T F vm vk vr sd K R w) (v : Value) : OfT W A va n S T F v vk vr sd K R (w.setCell ⟨W.heap.size, 193, none⟩ v) := by
  obtain ⟨h0, h1⟩ := h.s
  have ha := h.a
  refine ⟨h.o.setM v, ⟨?_, ?_⟩, h.r.cell (by simp) v, h.b.setCell (Nat.le_refl _) v, ha⟩
  · rw [World.cell?_setCell_other _ _ _ _ (fun e => by injection e with e; omega)]; exact h0
  · rw [World.cell?_setCell_other _ _ _ _ (fun e => by injection e with e; omega)]; exact h1
theorem OfT.sput (h : OfT W A va n S T F vm vk vr sd K R w) (o : Nat) (vs : List Value) : SA (W.heap.size + 1) W.heap.size A va (w.setCells W.heap.size o vs) := by
  have ha := h.a
  exact ⟨by rw [cell_put (by simp)]; exact h.s.1, by rw [cell_put (by simp; omega)]; exact h.s.2⟩
theorem OfT.setS (h : OfT W A va n S T F vm vk vr sd K R w) (M : Mat) : OfT W A va n M T F vm vk vr sd K R (w.setCells W.heap.size 1 (rowsA M).toList) := ⟨h.o.setS1 M, h.sput _ _, h.r.cells (by simp) _ _, below_putC (Nat.le_refl _) _ _ _ h.b, h.a⟩
theorem OfT.setT (h : OfT W A va n S T F vm vk vr sd K R w) (M : Mat) : OfT W A va n S M F vm vk vr sd K R (w.setCells W.heap.size 65 (rowsA M).toList) := ⟨h.o.setT1 M, h.sput _ _, h.r.cells (by simp) _ _, below_putC (Nat.le_refl _) _ _ _ h.b, h.a⟩
theorem OfT.setF (h : OfT W A va n S T F vm vk vr sd K R w) (M : Mat) : OfT W A va n S T M vm vk vr sd K R (w.setCells W.heap.size 129 (rowsA M).toList) := ⟨h.o.setF1 M, h.sput _ _, h.r.cells (by simp) _ _, below_putC (Nat.le_refl _) _ _ _ h.b, h.a⟩
end
/-- A transaction's session, beginning and end, by its number. -/
def sAt (h : List TxnV) (k : Nat) : Int := ((h[k]?).map (·.s)).getD 0
def bAt (h : List TxnV) (k : Nat) : Int := ((h[k]?).map (·.b)).getD 0
def cAt (h : List TxnV) (k : Nat) : Int := ((h[k]?).map (·.c)).getD 0
theorem sAt_eq {h : List TxnV} {k : Nat} (hk : k < h.length) : sAt h k = h[k].s := by unfold sAt; rw [List.getElem?_eq_getElem hk]; rfl
theorem bAt_eq {h : List TxnV} {k : Nat} (hk : k < h.length) : bAt h k = h[k].b := by unfold bAt; rw [List.getElem?_eq_getElem hk]; rfl
theorem cAt_eq {h : List TxnV} {k : Nat} (hk : k < h.length) : cAt h k = h[k].c := by unfold cAt; rw [List.getElem?_eq_getElem hk]; rfl
/-- The three relations. -/
def sesP (h : List TxnV) (a b : Nat) : Bool := decide (a < b) && decide (sAt h a = sAt h b)
def timP (h : List TxnV) (a b : Nat) : Bool := decide (cAt h a < bAt h b)
def froP (h : List TxnV) (a b : Nat) : Bool := (readsOf h b).any fun r => decide (r.2 = (a : Int))
def sesM (h : List TxnV) : Mat := prsTo (sesP h) h.length h.length
def timM (h : List TxnV) : Mat := prsTo (timP h) h.length h.length
def froM (h : List TxnV) : Mat := prsTo (froP h) h.length h.length
theorem ses_calls (va : Value) (h : List TxnV) (p a b : Nat) (w : World) (hp : w.cell? ⟨p, 0, none⟩ = some va) (hT : Txns w va h) (ha : a < h.length) (hb : b < h.length) :
    Calls Tryz.prog 67 (#[.int .i64 a, .int .i64 b] ++ #[.pointer (some ⟨p, 0, none⟩)]) w fun e w' => e = .returned (.bool (sesP h a b)) ∧ Below w.heap.size w w' := by
  have hh := ofsession_any va h p a b w hp hT ha hb
  unfold sesP
  rw [sAt_eq ha, sAt_eq hb]
  exact hh
theorem tim_calls (va : Value) (h : List TxnV) (p a b : Nat) (w : World) (hp : w.cell? ⟨p, 0, none⟩ = some va) (hT : Txns w va h) (ha : a < h.length) (hb : b < h.length) :
    Calls Tryz.prog 68 (#[.int .i64 a, .int .i64 b] ++ #[.pointer (some ⟨p, 0, none⟩)]) w fun e w' => e = .returned (.bool (timP h a b)) ∧ Below w.heap.size w w' := by
  have hh := oftime_any va h p a b w hp hT ha hb
  unfold timP
  rw [cAt_eq ha, bAt_eq hb]
  exact hh
theorem fro_calls (vr : Value) (h : List TxnV) (R : List RRow) (p ob a b : Nat) (w : World) (hp : w.cell? ⟨p, 0, none⟩ = some (.pointer (some ⟨ob, 0, none⟩))) (hr : w.cell? ⟨ob, 195, none⟩ = some vr) (hT : FRws w vr R) (hR : R.map (·.2) = readsTo h h.length) (hb : b < h.length) :
    Calls Tryz.prog 69 (#[.int .i64 a, .int .i64 b] ++ #[.pointer (some ⟨p, 0, none⟩)]) w fun e w' => e = .returned (.bool (froP h a b)) ∧ Below w.heap.size w w' := by
  have hl : R.length = h.length := by have := congrArg List.length hR; simpa [readsTo] using this
  have hbR : b < R.length := by omega
  have he : R[b].2 = readsOf h b := by
    have := congrArg (·[b]?) hR
    simp only [List.getElem?_map, List.getElem?_eq_getElem hbR, readsTo, List.getElem?_range hb, Option.map_some] at this
    exact Option.some.inj this
  have hh := offrom_any vr R a b p ob w hp hr hT hbR
  unfold froP
  rw [← he]
  exact hh
/-- The block that holds what follows of a history, with all that it reaches. -/
def OrdIs (w : World) (B b : Nat) (h : List TxnV) : Prop := ∃ (bm m c : Nat) (vk vr : Value) (K : List KRow) (R : List RRow), OrdAt w B h.length (sesM h) (timM h) (froM h) (.map (some bm)) vk vr (soundTo h h.length) ∧
  MapI eS Tryz.prog 3 w bm m (wrsTo K K.length) c ∧ AllSet (wrsTo K K.length) ∧ OfR b w vk vr K R ∧ K.map (·.2) = keysTo h h.length ∧ R.map (·.2) = readsTo h h.length
theorem OrdIs.below {w w' : World} {B b : Nat} {h : List TxnV} (hO : OrdIs w B b h) (hb : Below w.heap.size w w') : OrdIs w' B b h := by
  obtain ⟨bm, m, c, vk, vr, K, R, h1, h2, h3, h4, h5, h6⟩ := hO
  exact ⟨bm, m, c, vk, vr, K, R, h1.below hb h1.lt, h2.below hb, h3, h4.below hb, h5, h6⟩
end Go.Proofs.YtflalehpdngklaaGreatDoor

namespace Go.Proofs.YtflalehpdngklaaGreatDoor
set_option maxRecDepth 100000
open Go.RowKit

/-- Who writes to one of these keys. -/
def rivS (F : Int → Option Nat) (xs : List Int) : Nat := xs.foldl (fun s x => s ||| (F x).getD 0) 0
theorem rivS_snoc (F : Int → Option Nat) (xs : List Int) (k : Nat) (hk : k < xs.length) : rivS F (xs.take (k + 1)) = rivS F (xs.take k) ||| (F xs[k]).getD 0 := by
  unfold rivS; rw [List.take_succ_eq_append_getElem hk, List.foldl_append]; rfl
theorem isSet_or2 {a b : Nat} (ha : IsSet a) (hb : IsSet b) : IsSet (a ||| b) := by
  unfold IsSet at *
  exact Nat.or_lt_two_pow (n := 64) ha hb
theorem rivS_set {F : Int → Option Nat} (hA : AllSet F) (xs : List Int) : ∀ k, k ≤ xs.length → IsSet (rivS F (xs.take k))
  | 0, _ => by unfold rivS IsSet; simp
  | k + 1, hk => by rw [rivS_snoc F xs k (by omega)]; exact isSet_or2 (rivS_set hA xs k (by omega)) (hA _)
section
variable {w : World} {B bm m c : Nat} {n : Int} {S T F : Mat} {vk vr : Value} {sd : Bool} {Fm : Int → Option Nat} {K : List KRow}
set_option maxHeartbeats 8000000 in
theorem orivals_none (i : Int) (hO : OrdAt w B n S T F (.map (some bm)) vk vr sd) (hK : Rws w vk K) (hi : i < 0 ∨ K.length ≤ i) :
    Calls Tryz.prog 50 #[.pointer (some ⟨B, 0, none⟩), .int .i64 i] w fun e w' => e = .returned (.int .u64 0) ∧ Below w.heap.size w w' := by
  have q1 := hO.cK
  obtain ⟨ao, cap, rfl⟩ := hK.form
  have hf : hi = hi := rfl
  clear hO hK hf
  by_cases h0 : i < 0
  · go_enter Tryz.func50, Tryz.ntmps50
    go_wp2_with fail
    go_ret
    exact ⟨rfl, Below.refl _ _⟩
  · have h1 : (K.length : Int) ≤ i := by omega
    go_enter Tryz.func50, Tryz.ntmps50
    go_wp2_with fail
    go_ret
    exact ⟨rfl, Below.refl _ _⟩
set_option maxHeartbeats 8000000 in
theorem orivals_any (i : Nat) (hO : OrdAt w B n S T F (.map (some bm)) vk vr sd) (hM : MapI eS Tryz.prog 3 w bm m Fm c) (hA : AllSet Fm) (hK : Rws w vk K) (hk : ∀ p ∈ K, ∀ x ∈ p.2, InI x) (hi : i < K.length) :
    Calls Tryz.prog 50 #[.pointer (some ⟨B, 0, none⟩), .int .i64 i] w fun e w' => e = .returned (.int .u64 ((woS (rivS Fm K[i].2) (i : Int) : Nat) : Int)) ∧ Below w.heap.size w w' := by
  have q1 := hO.cK
  have q2 := hO.cM
  obtain ⟨ao, cap, rfl⟩ := hK.form
  obtain ⟨g, o, hao, c0, hin⟩ := hK.at hi
  cases hao
  have hii : (i : Int) < (K.length : Int) := by omega
  have HIK := Lib.hid (hk _ (List.getElem_mem hi))
  have HIN := Lib.hid (fun wx (hx : Below w.heap.size w wx) => hin.below hx)
  have HM := Lib.hid (fun wx (hx : Below w.heap.size w wx) => hM.below hx)
  have HC := Lib.hid (fun wx (hx : Below w.heap.size w wx) => (hx.cell (p := ⟨B, 193, none⟩) (block_lt q2)).trans q2)
  have HA := Lib.hid hA
  generalize K[i] = p at *
  obtain ⟨v, xs⟩ := p
  simp only at c0 hin HIK HIN
  obtain ⟨ax, cx, rfl, hxl⟩ := hin.form
  clear hO hM hA hK hk hin
  go_enter Tryz.func50, Tryz.ntmps50
  go_wp2_with fail
  have e1 : decide ((i : Int) < 0) = false := decide_eq_false (by omega)
  have e2 : decide (K.length ≤ i) = false := decide_eq_false (by omega)
  simp only [e1, e2, Bool.or_self]
  clear e1 e2 c0 q1 hii
  go_loopw [5, 27] (fun s j wr => ∃ k : Nat, k ≤ xs.length ∧ j = .int .i64 k ∧ s = .int .u64 ((rivS Fm (xs.take k) : Nat) : Int) ∧ Below w.heap.size w wr) (fun _ j _ => xs.length - (intOf j).toNat)
  case atStart => exact ⟨0, by omega, rfl, rfl, Below.refl _ _⟩
  case round =>
    obtain ⟨k, hk, rfl, rfl, hb⟩ := hrel
    have hset := rivS_set HA.out xs k hk
    by_cases hlt : k < xs.length
    · have hki : (k : Int) < (xs.length : Int) := by omega
      obtain ⟨g2, o2, hao2, e0⟩ := (HIN.out _ hb).at hlt
      cases hao2
      have HS := Lib.hid (rivS_snoc Fm xs k hlt)
      have hkv := HIK.out xs[k] (List.getElem_mem hlt)
      have hset2 := HA.out xs[k]
      have hM2 := HM.out _ hb
      have q3 := HC.out _ hb
      generalize xs[k] = x at *
      generalize rivS Fm (xs.take k) = a at *
      have HR := Lib.hid (Go.bits_or_u64_nat a ((Fm x).getD 0) hset hset2)
      go_wp2_with (at_lookup; refine wpList_lookI _ rfl _ _ 90 rfl 3 36 keyI mapIS 0 (zeroS _) _ _ _ _ rfl hM2 _ rfl hkv ?_; simp only [eS])
      go_roundw
      case rel => exact ⟨k + 1, by omega, by go_num, by rw [HS.out]; exact congrArg _ HR.out, hb⟩
      case measure => simp [intOf]; omega
    · have hk2 : k = xs.length := by omega
      subst hk2
      rw [List.take_length] at *
      have CW := Lib.hid (fun wx => wo_any (rivS Fm xs) (i : Int) wx hset)
      go_wp2_with fail
      refine (CW.out _).mono ?_
      rintro e w1 ⟨rfl, rfl⟩
      go_wp2_with fail
      go_ret
      exact ⟨rfl, hb⟩
end
end Go.Proofs.YtflalehpdngklaaGreatDoor

namespace Go.Proofs.YtflalehpdngklaaGreatDoor
set_option maxRecDepth 100000
open Go.RowKit

/-- The place of the last write so far. -/
def LastAt (l : List OpV) (k j : Nat) (i : Int) : Prop := (i = -1 ∧ lastW (l.take j) k = none) ∨ ∃ p : Nat, ∃ h : p < l.length, i = p ∧ lastW (l.take j) k = some l[p]
theorem LastAt.yes {l : List OpV} {k j : Nat} (h : j < l.length) (h1 : l[j].key = k) (h2 : l[j].wr = true) : LastAt l k (j + 1) j :=
  .inr ⟨j, h, rfl, by rw [take_snoc l j h, lastW_snoc, if_pos h2, h1, putF_same]⟩
theorem LastAt.no {l : List OpV} {k j : Nat} {i : Int} (hL : LastAt l k j i) (h : j < l.length) (h1 : ¬ (l[j].key = k ∧ l[j].wr = true)) : LastAt l k (j + 1) i := by
  have e : lastW (l.take (j + 1)) k = lastW (l.take j) k := by
    rw [take_snoc l j h, lastW_snoc]
    cases hw : l[j].wr
    · rfl
    · simp only [if_true]; rw [putF_other]; exact fun e => h1 ⟨e.symm, hw⟩
  unfold LastAt at *
  rw [e]; exact hL
end Go.Proofs.YtflalehpdngklaaGreatDoor

namespace Go.Proofs.YtflalehpdngklaaGreatDoor
set_option maxRecDepth 100000
open Go.RowKit

/-- What a transaction leaves at a key. -/
def vOf (l : List OpV) (k : Int) : Int := (((refWrites l).find? fun o => o.key == k).map (·.val)).getD 0
theorem wv_cons (a : OpV) (l : List OpV) : wv (a :: l) = (if a.wr then [a.val] else []) ++ wv l := by
  unfold wv; cases h : a.wr <;> simp [h]
theorem addF_cons (i : Int) (F : Int → Option WV) (a : OpV) (l : List OpV) : addF i F (a :: l) = addF i (addOne i F a) l := rfl
theorem finF_cons (i : Int) (F : Int → Option WV) (a : OpV) (l : List OpV) : finF i F (a :: l) = finF i (putF F a.val ⟨i, a.key, true⟩) l := rfl
theorem addF_out (i : Int) {x : Int} : ∀ (l : List OpV) (F : Int → Option WV), ¬ x ∈ wv l → addF i F l x = F x
  | [], _, _ => rfl
  | a :: l, F, h => by
    rw [wv_cons] at h
    rw [addF_cons, addF_out i l _ (fun hh => h (List.mem_append_right _ hh))]
    unfold addOne
    cases hw : a.wr
    · rfl
    · simp only [if_true]
      exact putF_other _ _ (fun e => h (by rw [hw, e]; simp))
theorem addF_in (i : Int) {o : OpV} (ho : o.wr = true) : ∀ (l : List OpV) (F : Int → Option WV), (wv l).Nodup → o ∈ l → addF i F l o.val = some ⟨i, o.key, false⟩
  | a :: l, F, hn, hin => by
    rw [wv_cons] at hn
    rw [addF_cons]
    rcases List.mem_cons.1 hin with rfl | h
    · rw [ho] at hn
      simp only [if_true, List.singleton_append, List.nodup_cons] at hn
      rw [addF_out i l _ hn.1]
      unfold addOne
      rw [ho]
      simp only [if_true]
      exact putF_same _ _ _
    · exact addF_in i ho l _ (List.nodup_append.1 hn).2.1 h
theorem finF_out (i : Int) {x : Int} : ∀ (R : List OpV) (F : Int → Option WV), (∀ o ∈ R, o.val ≠ x) → finF i F R x = F x
  | [], _, _ => rfl
  | a :: R, F, h => by
    rw [finF_cons, finF_out i R _ (fun o ho => h o (List.mem_cons_of_mem _ ho))]
    exact putF_other _ _ (fun e => h a List.mem_cons_self e.symm)
theorem finF_in (i : Int) {x k : Int} : ∀ (R : List OpV) (F : Int → Option WV), (∀ o ∈ R, o.val = x → o.key = k) → (∃ o ∈ R, o.val = x) → finF i F R x = some ⟨i, k, true⟩
  | a :: R, F, h, hex => by
    rw [finF_cons]
    by_cases hr : ∃ o ∈ R, o.val = x
    · exact finF_in i R _ (fun o ho => h o (List.mem_cons_of_mem _ ho)) hr
    · have hn : ∀ o ∈ R, o.val ≠ x := fun o ho e => hr ⟨o, ho, e⟩
      obtain ⟨o, ho, e⟩ := hex
      rcases List.mem_cons.1 ho with rfl | h1
      · rw [finF_out i R _ hn, e, putF_same, h _ List.mem_cons_self e]
      · exact (hn o h1 e).elim
theorem wv_inj {l : List OpV} (hn : (wv l).Nodup) {o p : OpV} (ho : o ∈ l) (hp : p ∈ l) (wo : o.wr = true) (wp : p.wr = true) (e : o.val = p.val) : o.key = p.key := by
  have h1 := addF_in 0 wo l (fun _ => none) hn ho
  have h2 := addF_in 0 wp l (fun _ => none) hn hp
  rw [e, h2] at h1
  have := Option.some.inj h1
  exact (congrArg WV.key this).symm
theorem lastW_some (l : List OpV) {o : OpV} (wo : o.wr = true) : ∀ k, k ≤ l.length → o ∈ l.take k → (lastW (l.take k) o.key).isSome = true
  | 0, _, h => by simp at h
  | k + 1, hk, h => by
    have hlt : k < l.length := by omega
    rw [take_snoc l k hlt] at h ⊢
    rw [lastW_snoc]
    cases hw : l[k].wr with
    | false =>
      simp only [Bool.false_eq_true, if_false]
      rcases List.mem_append.1 h with h1 | h1
      · exact lastW_some l wo k (by omega) h1
      · simp at h1; rw [h1, hw] at wo; cases wo
    | true =>
      simp only [if_true]
      by_cases e : o.key = l[k].key
      · rw [e, putF_same]; rfl
      · rw [putF_other _ _ e]
        rcases List.mem_append.1 h with h1 | h1
        · exact lastW_some l wo k (by omega) h1
        · simp at h1; rw [h1] at e; exact (e rfl).elim
/-- What one transaction's turn lays at the value of one of its writes. -/
theorem turn_at (i : Int) (F : Int → Option WV) {l : List OpV} (hk : keysIn l) (hn : (wv l).Nodup) {o : OpV} (ho : o ∈ l) (wo : o.wr = true) :
    finF i (addF i F l) (refWrites l) o.val = some ⟨i, o.key, vOf l o.key == o.val⟩ := by
  have hR := refWrites_rise hk
  have hmem : ∀ p ∈ refWrites l, p ∈ l ∧ p.wr = true := fun p hp => refWrites_mem hp
  have huq : ∀ p ∈ refWrites l, ∀ q ∈ refWrites l, p.key = q.key → p = q := fun p hp q hq e => by
    have h1 := ((hR.2 p).1 hp).1
    have h2 := ((hR.2 q).1 hq).1
    rw [e, h2] at h1
    exact (Option.some.inj h1).symm
  have hex : ∃ p ∈ refWrites l, p.key = o.key := by
    have h1 := lastW_some l wo l.length (Nat.le_refl _) (by rw [List.take_length]; exact ho)
    rw [List.take_length] at h1
    obtain ⟨p, hp⟩ := Option.isSome_iff_exists.1 h1
    have h2 := lastW_key hp
    exact ⟨p, (hR.2 p).2 ⟨by rw [h2.1]; exact hp, h2.2.1⟩, h2.1⟩
  obtain ⟨p, hp, hpk⟩ := hex
  have hv : vOf l o.key = p.val := by
    unfold vOf
    cases hf : (refWrites l).find? (fun q => q.key == o.key) with
    | none => have := List.find?_eq_none.1 hf p hp; simp [hpk] at this
    | some q =>
      have h1 := List.find?_some hf
      have h2 := List.mem_of_find?_eq_some hf
      have : q = p := huq q h2 p hp (by simpa [hpk] using h1)
      rw [this]; rfl
  by_cases he : p.val = o.val
  · rw [finF_in (k := o.key) i _ _ (fun q hq e => wv_inj hn (hmem q hq).1 ho (hmem q hq).2 wo e) ⟨p, hp, he⟩, hv, he]
    simp
  · rw [finF_out i _ _ (fun q hq e => he ?_), addF_in i wo l F hn ho, hv]
    · simp [he]
    · have := wv_inj hn (hmem q hq).1 ho (hmem q hq).2 wo e
      rw [← huq q hq p hp (by rw [this, hpk])]; exact e
theorem wrTo_at {h : List TxnV} (hk : ∀ t ∈ h, keysIn t.l) : ∀ n, n ≤ h.length → (wvH (h.take n)).Nodup → ∀ i, ∀ hi : i < h.length, i < n → ∀ o ∈ h[i].l, o.wr = true → wrTo h n o.val = some ⟨i, o.key, vOf h[i].l o.key == o.val⟩
  | 0, _, _, i, _, hin, _, _, _ => by omega
  | n + 1, hn, hd, i, hi, hin, o, ho, wo => by
    have hlt : n < h.length := by omega
    rw [wvH_succ h n hlt] at hd
    have hd3 := List.nodup_append.1 hd
    rw [wrTo_succ, opsAt_eq hlt]
    by_cases e : i = n
    · subst e
      exact turn_at _ _ (hk _ (List.getElem_mem _)) hd3.2.1 ho wo
    · have hin2 : o.val ∈ wvH (h.take n) := by
        unfold wvH
        rw [List.mem_flatMap]
        refine ⟨h[i], ?_, wv_mem.2 ⟨o, ho, wo, rfl⟩⟩
        rw [List.mem_take_iff_getElem]
        exact ⟨i, by omega, rfl⟩
      have hout : ¬ o.val ∈ wv h[n].l := fun hh => hd3.2.2 _ hin2 _ hh rfl
      have hR := refWrites_rise (hk _ (List.getElem_mem hlt))
      rw [finF_out _ _ _ (fun q hq e2 => hout (by rw [← e2]; exact wv_mem.2 ⟨q, (refWrites_mem hq).1, (refWrites_mem hq).2, rfl⟩)), addF_out _ _ _ hout]
      exact wrTo_at hk n (by omega) hd3.1 i hi (by omega) o ho wo
end Go.Proofs.YtflalehpdngklaaGreatDoor

namespace Go.Proofs.YtflalehpdngklaaGreatDoor
set_option maxRecDepth 100000
open Go.RowKit

/-- Of whom a value is read, and what is read of others, as the reference says it. -/
def fromR (h : List TxnV) (o : OpV) : Int := if o.val = 0 then -1 else wrI o.key o.val h
def rdR (h : List TxnV) (i : Int) (l : List OpV) : List (Int × Int) := (l.filter fun o => fromR h o != i).map fun o => (o.key, fromR h o)
end Go.Proofs.YtflalehpdngklaaGreatDoor

namespace Go.Proofs.YtflalehpdngklaaGreatDoor
set_option maxRecDepth 100000
open Go.RowKit

/-- Does transaction i write to a key; do two write to one key, as the reference says it? -/
def wrsR (h : List TxnV) (i : Nat) (key : Int) : Bool := vOf (opsAt h i) key != 0
def rivR (h : List TxnV) (i k : Nat) : Bool := (List.range 64).any fun n => wrsR h i (n : Int) && wrsR h k (n : Int)
end Go.Proofs.YtflalehpdngklaaGreatDoor

namespace Go.Proofs.YtflalehpdngklaaGreatDoor
set_option maxRecDepth 100000
open Go.RowKit

abbrev Pr := Int × Int
def prV (l : List Pr) : List Value := l.flatMap fun p => [.int .i64 p.1, .int .i64 p.2]
theorem prV_len (l : List Pr) : (prV l).length = l.length * 2 := by
  induction l with
  | nil => rfl
  | cons a l ih => unfold prV at *; rw [List.flatMap_cons, List.length_append, ih, List.length_cons]; simp; omega
theorem prV_at : ∀ (l : List Pr) (k : Nat) (hk : k < l.length), (prV l)[2 * k]? = some (.int .i64 l[k].1) ∧ (prV l)[2 * k + 1]? = some (.int .i64 l[k].2)
  | [], k, hk => by simp at hk
  | a :: l, 0, _ => by unfold prV; simp
  | a :: l, k + 1, hk => by
    have := prV_at l k (by simpa using hk)
    unfold prV at *
    rw [List.flatMap_cons, show 2 * (k + 1) = 2 * k + 2 by omega]
    simpa using this
/-- The slice v holds these pairs. -/
def Prs (w : World) (v : Value) (l : List Pr) : Prop := Row w v l.length 2 (prV l)
theorem Prs.below {w w' : World} {v : Value} {l : List Pr} (h : Prs w v l) (hb : Below w.heap.size w w') : Prs w' v l := Row.below h hb
theorem Prs.of_owns {w : World} {base : Nat} {e : TypeId} {v : Value} {n : Nat} {l : List Pr} (h : w.ownsRow base e 2 v n (prV l)) : Prs w v l := by
  have hr := Row.of_owns h
  have hn : n = l.length := by have := h.1; rw [prV_len] at this; omega
  subst hn; exact hr
theorem Prs.form {w : World} {v : Value} {l : List Pr} (h : Prs w v l) : ∃ ao cap, v = .slice ao l.length cap ∧ l.length ≤ 9223372036854775807 := by
  obtain ⟨_, ao, cap, rfl, hm, _, _⟩ := h
  exact ⟨ao, cap, rfl, Nat.le_trans hm.1 hm.2⟩
theorem Prs.at {w : World} {ao : Option Addr} {n cap : Nat} {l : List Pr} (h : Prs w (.slice ao n cap) l) {k : Nat} (hk : k < l.length) :
    ∃ b off, ao = some ⟨b, off, none⟩ ∧ w.cell? ⟨b, off + k * 2, none⟩ = some (.int .i64 l[k].1) ∧ w.cell? ⟨b, off + k * 2 + 1, none⟩ = some (.int .i64 l[k].2) := by
  obtain ⟨_, ao', cap', he, hm, _, hc⟩ := h
  obtain ⟨rfl, _, _⟩ : ao = ao' ∧ n = l.length ∧ cap = cap' := by simpa using he
  obtain ⟨b, off, rfl, hcell⟩ := hc (by omega)
  obtain ⟨h1, h2⟩ := prV_at l k hk
  refine ⟨b, off, rfl, ?_, ?_⟩
  · rw [Nat.mul_comm k 2, hcell (2 * k) (by omega), h1]
  · rw [Nat.mul_comm k 2, Nat.add_assoc, hcell (2 * k + 1) (by omega), h2]

def hasP (l : List Pr) (a b : Int) : Bool := l.any fun p => p.1 == a && p.2 == b
theorem hasP_iff {l : List Pr} {a b : Int} : hasP l a b = true ↔ (a, b) ∈ l := by
  unfold hasP
  rw [List.any_eq_true]
  constructor
  · rintro ⟨⟨x, y⟩, h, e⟩
    simp at e
    obtain ⟨rfl, rfl⟩ := e
    exact h
  · intro h; exact ⟨(a, b), h, by simp⟩
def putP (l : List Pr) (a b : Int) : List Pr := if hasP l a b then l else l ++ [(a, b)]
theorem mem_putP {l : List Pr} {a b : Int} {p : Pr} : p ∈ putP l a b ↔ p ∈ l ∨ p = (a, b) := by
  unfold putP
  split
  · rename_i h
    rw [hasP_iff] at h
    exact ⟨.inl, fun h' => h'.elim id (fun e => e ▸ h)⟩
  · simp
theorem putP_nodup {l : List Pr} {a b : Int} (h : l.Nodup) : (putP l a b).Nodup := by
  unfold putP
  split
  · exact h
  · rename_i hn
    rw [List.nodup_append]
    refine ⟨h, by simp, ?_⟩
    intro x hx y hy
    simp at hy
    subst hy
    rintro rfl
    exact hn (hasP_iff.2 hx)
/-- Pairs put in, one by one. -/
def putAll (o l : List Pr) : List Pr := l.foldl (fun o p => putP o p.1 p.2) o
theorem mem_putAll {p : Pr} : ∀ (l o : List Pr), p ∈ putAll o l ↔ p ∈ o ∨ p ∈ l
  | [], o => by simp [putAll]
  | q :: l, o => by
    have := mem_putAll (p := p) l (putP o q.1 q.2)
    unfold putAll at *
    rw [List.foldl_cons, this, mem_putP, List.mem_cons, or_assoc]
theorem putAll_nodup : ∀ (l : List Pr) {o : List Pr}, o.Nodup → (putAll o l).Nodup
  | [], _, h => h
  | _ :: l, _, h => putAll_nodup l (putP_nodup h)
/-- One pair, and then any of some, put in. -/
def thenOne (o : List Pr) (p : Pr) (m : List Pr) : List Pr := m.foldl (fun o q => if p.2 == q.1 then putP o p.1 q.2 else o) o
def thenP (l m : List Pr) : List Pr := l.foldl (fun o p => thenOne o p m) []
theorem mem_thenOne {x : Pr} {p : Pr} : ∀ (m o : List Pr), x ∈ thenOne o p m ↔ x ∈ o ∨ ∃ q ∈ m, p.2 = q.1 ∧ x = (p.1, q.2)
  | [], o => by simp [thenOne]
  | q :: m, o => by
    have h := mem_thenOne (x := x) (p := p) m (if p.2 == q.1 then putP o p.1 q.2 else o)
    have e : thenOne o p (q :: m) = thenOne (if p.2 == q.1 then putP o p.1 q.2 else o) p m := rfl
    rw [e, h]
    by_cases hpq : p.2 = q.1
    · have : (p.2 == q.1) = true := by simpa using hpq
      rw [if_pos this, mem_putP, or_assoc]
      apply or_congr Iff.rfl
      constructor
      · rintro (rfl | ⟨r, hr, h1, h2⟩)
        · exact ⟨q, List.mem_cons_self, hpq, rfl⟩
        · exact ⟨r, List.mem_cons_of_mem _ hr, h1, h2⟩
      · rintro ⟨r, hr, h1, h2⟩
        rcases List.mem_cons.1 hr with rfl | hr
        · exact .inl h2
        · exact .inr ⟨r, hr, h1, h2⟩
    · have : ¬ (p.2 == q.1) = true := by simpa using hpq
      rw [if_neg this]
      apply or_congr Iff.rfl
      constructor
      · rintro ⟨r, hr, h1, h2⟩; exact ⟨r, List.mem_cons_of_mem _ hr, h1, h2⟩
      · rintro ⟨r, hr, h1, h2⟩
        rcases List.mem_cons.1 hr with rfl | hr
        · exact absurd h1 hpq
        · exact ⟨r, hr, h1, h2⟩
theorem mem_thenAll {x : Pr} {m : List Pr} : ∀ (l o : List Pr), x ∈ l.foldl (fun o p => thenOne o p m) o ↔ x ∈ o ∨ ∃ p ∈ l, ∃ q ∈ m, p.2 = q.1 ∧ x = (p.1, q.2)
  | [], o => by simp
  | p :: l, o => by
    rw [List.foldl_cons, mem_thenAll l, mem_thenOne, or_assoc]
    apply or_congr Iff.rfl
    constructor
    · rintro (⟨q, hq, h⟩ | ⟨r, hr, q, hq, h⟩)
      · exact ⟨p, List.mem_cons_self, q, hq, h⟩
      · exact ⟨r, List.mem_cons_of_mem _ hr, q, hq, h⟩
    · rintro ⟨r, hr, q, hq, h⟩
      rcases List.mem_cons.1 hr with rfl | hr
      · exact .inl ⟨q, hq, h⟩
      · exact .inr ⟨r, hr, q, hq, h⟩
theorem mem_thenP {x : Pr} {l m : List Pr} : x ∈ thenP l m ↔ ∃ p ∈ l, ∃ q ∈ m, p.2 = q.1 ∧ x = (p.1, q.2) := by
  unfold thenP; rw [mem_thenAll]; simp
/-- A list without repeats that lies in another one is no longer. -/
theorem nodup_le {α : Type} [BEq α] [LawfulBEq α] : ∀ (l m : List α), l.Nodup → (∀ x ∈ l, x ∈ m) → l.length ≤ m.length
  | [], _, _, _ => by simp
  | a :: l, m, hn, hs => by
    rw [List.nodup_cons] at hn
    have ha := hs a List.mem_cons_self
    have := nodup_le l (m.erase a) hn.2 (fun x hx => by
      have hxa : x ≠ a := by rintro rfl; exact hn.1 hx
      exact (List.mem_erase_of_ne hxa).2 (hs x (List.mem_cons_of_mem _ hx)))
    rw [List.length_erase_of_mem ha] at this
    have hpos : 0 < m.length := List.length_pos_of_mem ha
    rw [List.length_cons]; omega
/-- One comes from a to b, by the pairs of a list, in one step or more. -/
inductive PathP (l : List Pr) : Int → Int → Prop
  | one {a b : Int} : (a, b) ∈ l → PathP l a b
  | more {a b c : Int} : PathP l a b → (b, c) ∈ l → PathP l a c
theorem PathP.ends {l : List Pr} {a b : Int} (h : PathP l a b) : (∃ y, (a, y) ∈ l) ∧ ∃ x, (x, b) ∈ l := by
  induction h with
  | one h => exact ⟨⟨_, h⟩, ⟨_, h⟩⟩
  | more _ h ih => exact ⟨ih.1, ⟨_, h⟩⟩
/-- One more round of the reference's closing. -/
def cloNext (o l : List Pr) : List Pr := putAll o (thenP o l)
/-- What holds of the reference's list from its first round on. -/
structure CloInv (l o : List Pr) : Prop where
  nodup : o.Nodup
  has : ∀ p ∈ l, p ∈ o
  path : ∀ a b, (a, b) ∈ o → PathP l a b
theorem CloInv.next {l o : List Pr} (h : CloInv l o) : CloInv l (cloNext o l) where
  nodup := putAll_nodup _ h.nodup
  has := fun p hp => (mem_putAll _ _).2 (.inl (h.has p hp))
  path := fun a b hab => by
    rcases (mem_putAll _ _).1 hab with h' | h'
    · exact h.path a b h'
    · obtain ⟨⟨x, y⟩, hp, ⟨u, v⟩, hq, h1, h2⟩ := mem_thenP.1 h'
      simp at h1 h2
      obtain ⟨rfl, rfl⟩ := h2
      subst h1
      exact .more (h.path _ _ hp) hq
theorem CloInv.len {l o : List Pr} (h : CloInv l o) : o.length ≤ l.length * l.length := by
  have := nodup_le o (l.flatMap fun p => l.map fun q => (p.1, q.2)) h.nodup (fun x hx => by
    obtain ⟨⟨y, hy⟩, ⟨z, hz⟩⟩ := (h.path x.1 x.2 hx).ends
    exact List.mem_flatMap.2 ⟨_, hy, List.mem_map.2 ⟨_, hz, rfl⟩⟩)
  have e : (l.flatMap fun p => l.map fun q => (p.1, q.2)).length = l.length * l.length := by
    rw [List.length_flatMap]
    have : (l.map fun p => (l.map fun q => ((p.1, q.2) : Pr)).length) = l.map fun _ => l.length := by simp
    rw [this, List.map_const']
    have hr : ∀ n k : Nat, (List.replicate n k).sum = n * k := by
      intro n k; induction n with
      | zero => simp
      | succ n ih => rw [List.replicate_succ, List.sum_cons, ih, Nat.succ_mul]; omega
    exact hr _ _
  rw [e] at this; exact this
theorem CloInv.done {l o : List Pr} (h : CloInv l o) (hd : (cloNext o l).length = o.length) (a b : Int) : (a, b) ∈ o ↔ PathP l a b := by
  constructor
  · exact h.path a b
  · intro hp
    have hsub : ∀ x ∈ cloNext o l, x ∈ o := by
      intro x hx
      by_cases hxo : x ∈ o
      · exact hxo
      · have h2 := nodup_le (x :: o) (cloNext o l) (List.nodup_cons.2 ⟨hxo, h.nodup⟩) (fun y hy => by
          rcases List.mem_cons.1 hy with rfl | hy
          · exact hx
          · exact (mem_putAll _ _).2 (.inl hy))
        rw [List.length_cons] at h2; omega
    induction hp with
    | one h' => exact h.has _ h'
    | more _ h' ih => exact hsub _ ((mem_putAll _ _).2 (.inr (mem_thenP.2 ⟨_, ih, _, h', rfl, rfl⟩)))
end Go.Proofs.YtflalehpdngklaaGreatDoor

namespace Go.Proofs.YtflalehpdngklaaGreatDoor
set_option maxRecDepth 100000
open Go.RowKit

theorem Prs.lit (w : World) (base : Nat) (a b : Int) (hb : base ≤ w.heap.size) : (w.alloc (.cells #[.int .i64 a, .int .i64 b] 42)).ownsRow base 42 2 (.slice (some ⟨w.heap.size, 0, none⟩) 1 1) 1 (prV [(a, b)]) :=
  World.ownsRow_lit (base := base) (size := 2) w #[.int .i64 a, .int .i64 b] 1 hb (by decide) rfl
end Go.Proofs.YtflalehpdngklaaGreatDoor

namespace Go.Proofs.YtflalehpdngklaaGreatDoor
set_option maxRecDepth 100000
open Go.RowKit

/-- Pairs are no sets: a store into a relation's block leaves them. -/
theorem Prs.grown {w w' : World} {v : Value} {l : List Pr} {g : Nat} {t : TypeId} {R : Mat} (h : Prs w v l) (hr : RelAt w g t R) (hg : w.grownBy w' (some g)) : Prs w' v l := by
  obtain ⟨hl, ao, cap, rfl, hm, hno, hc⟩ := h
  refine ⟨hl, ao, cap, rfl, hm, hno, fun hn => ?_⟩
  obtain ⟨b, off, rfl, hcell⟩ := hc hn
  refine ⟨b, off, rfl, fun i hi => ?_⟩
  have h1 := hcell i hi
  have hi' : i < (prV l).length := by rw [prV_len]; omega
  rw [List.getElem?_eq_getElem hi'] at h1 ⊢
  have hb : b ≠ g := by
    rintro rfl
    rw [cell_of_row w b _ _ _ _ hr] at h1
    have hmem : (prV l)[i] ∈ prV l := List.getElem_mem hi'
    unfold prV at hmem
    obtain ⟨p, _, hp⟩ := List.mem_flatMap.1 hmem
    by_cases ho : off + i < 64
    · rw [rowsA_at R ho] at h1
      have := Option.some.inj h1
      unfold prV at this
      rw [← this] at hp
      simp at hp
    · rw [Array.getElem?_eq_none (by rw [rowsA_size]; omega)] at h1
      cases h1
  exact hg.cell h1 (by simpa using hb)
end Go.Proofs.YtflalehpdngklaaGreatDoor

namespace Go.Proofs.YtflalehpdngklaaGreatDoor
set_option maxRecDepth 100000
open Go.RowKit

/-- Does nothing of a set follow on a number? -/
def emp (R : Mat) (s i : Nat) : Bool := (mkS (R i) &&& s) == 0
theorem emp_no {R : Mat} {s i : Nat} (hs : IsSet s) (h : emp R s i = false) : ∃ j, j ∈ lst s ∧ R i j = true := by
  unfold emp at h
  rw [beq_eq_false_iff_ne] at h
  have hset : IsSet (mkS (R i) &&& s) := isSet_and (isSet_mkS _)
  have hne : lst (mkS (R i) &&& s) ≠ [] := fun e => h (lst_nil hset e)
  have hm := mem_lst.1 (fst_mem hne)
  rw [Nat.testBit_and, testBit_mkS, Bool.and_eq_true, Bool.and_eq_true] at hm
  exact ⟨_, (mem_lst' hs).2 hm.2.2, hm.2.1.2⟩
theorem emp_yes {R : Mat} {s i j : Nat} (hj : j ∈ lst s) (h : R i j = true) : emp R s i = false := by
  unfold emp
  rw [beq_eq_false_iff_ne]
  intro e
  have hj' := mem_lst.1 hj
  have := congrArg (fun x => Nat.testBit x j) e
  simp [Nat.testBit_and, testBit_mkS, hj'.1, hj'.2, h] at this
/-- A set each of whose numbers stands to one of it. -/
def Suff (R : Mat) (F : Nat → Prop) : Prop := ∀ a, F a → a < 64 ∧ ∃ b, F b ∧ R a b = true
structure EndInv (R : Mat) (s : Nat) : Prop where
  set : IsSet s
  all : ∀ F, Suff R F → ∀ a, F a → a ∈ lst s
/-- One round done for the first k numbers. -/
def NxTo (R : Mat) (s : Nat) (k : Nat) (x : Nat) : Prop := IsSet x ∧ ∀ i, x.testBit i = (s.testBit i && !(((lst s).take k).contains i && emp R s i))
theorem nxTo_end {R : Mat} {s x : Nat} (hs : IsSet s) (h : NxTo R s (lst s).length x) (i : Nat) : x.testBit i = (s.testBit i && !emp R s i) := by
  rw [h.2 i, List.take_length]
  cases hb : s.testBit i
  · simp
  · have : (lst s).contains i = true := by rw [List.contains_iff_mem]; exact (mem_lst' hs).2 hb
    rw [this]; simp
theorem EndInv.next {R : Mat} {s x : Nat} (h : EndInv R s) (hx : NxTo R s (lst s).length x) : EndInv R x where
  set := hx.1
  all := fun F hF a ha => by
    obtain ⟨hlt, b, hb, hab⟩ := hF a ha
    rw [mem_lst' hx.1, nxTo_end h.set hx, (mem_lst' h.set).1 (h.all F hF a ha), emp_yes (h.all F hF b hb) hab]; rfl
theorem EndInv.done {R : Mat} {s : Nat} (h : EndInv R s) (hx : NxTo R s (lst s).length s) : ∀ a ∈ lst s, ∃ b ∈ lst s, R a b = true := by
  intro a ha
  have hb := (mem_lst' h.set).1 ha
  have := nxTo_end h.set hx a
  rw [hb] at this
  simp at this
  exact emp_no h.set this
end Go.Proofs.YtflalehpdngklaaGreatDoor

namespace Go.Proofs.YtflalehpdngklaaGreatDoor
set_option maxRecDepth 100000
open Go.RowKit

theorem getD_at (l : List Nat) (i : Nat) (h : i < l.length) : l.getD i 0 = l[i] := by simp [List.getD, h]
/-- Each number of a list stands to the next one. -/
def Edges (R : Mat) (l : List Nat) : Prop := ∀ i, i + 1 < l.length → R (l.getD i 0) (l.getD (i + 1) 0) = true
/-- The row that one has gone, and where one stands. -/
structure GoOK (R : Mat) (E : Nat) (Q : List Nat) (n : Nat) : Prop where
  nodup : Q.Nodup
  mem : ∀ x ∈ Q, x ∈ lst E
  at_ : n ∈ lst E
  edges : Edges R (Q ++ [n])
theorem GoOK.len {R : Mat} {E : Nat} {Q : List Nat} {n : Nat} (h : GoOK R E Q n) : Q.length ≤ 64 := by
  have := nodup_le Q (lst E) h.nodup h.mem
  have := lstTo_len E 64
  have : (lst E).length ≤ 64 := this
  omega
theorem GoOK.next {R : Mat} {E : Nat} {Q : List Nat} {n m : Nat} (h : GoOK R E Q n) (hn : n ∉ Q) (hm : m ∈ lst E) (hR : R n m = true) : GoOK R E (Q ++ [n]) m where
  nodup := by
    rw [List.nodup_append]
    exact ⟨h.nodup, by simp, fun x hx y hy => by simp at hy; subst hy; rintro rfl; exact hn hx⟩
  mem := fun x hx => by
    rcases List.mem_append.1 hx with hx | hx
    · exact h.mem x hx
    · simp at hx; subst hx; exact h.at_
  at_ := hm
  edges := by
    intro i hi
    have hlen : (Q ++ [n] ++ [m]).length = Q.length + 2 := by simp
    by_cases hi2 : i + 1 < (Q ++ [n]).length
    · have := h.edges i hi2
      have e1 : (Q ++ [n] ++ [m]).getD i 0 = (Q ++ [n]).getD i 0 := by
        rw [getD_at _ _ (by omega), getD_at _ _ (by omega), List.getElem_append_left]
      have e2 : (Q ++ [n] ++ [m]).getD (i + 1) 0 = (Q ++ [n]).getD (i + 1) 0 := by
        rw [getD_at _ _ (by omega), getD_at _ _ (by omega), List.getElem_append_left]
      rw [e1, e2]; exact this
    · have hi3 : i = Q.length := by simp at hi2 hi; omega
      subst hi3
      have e1 : (Q ++ [n] ++ [m]).getD Q.length 0 = n := by simp [List.getD]
      have e2 : (Q ++ [n] ++ [m]).getD (Q.length + 1) 0 = m := by simp [List.getD]
      rw [e1, e2]; exact hR
theorem Ints.drop {w : World} {g n cap : Nat} {l : List Int} (h : Ints w (.slice (some ⟨g, 0, none⟩) n cap) l) (k : Nat) (hk : k < l.length) :
    Ints w (.slice (some ⟨g, k, none⟩) (l.length - k) (cap - k)) (l.drop k) := by
  have hlen : (l.drop k).length = l.length - k := by simp
  obtain ⟨_, ao, cap', he, hm, _, hc⟩ := h
  obtain ⟨rfl, rfl, rfl⟩ : some (⟨g, 0, none⟩ : Addr) = ao ∧ n = l.length ∧ cap = cap' := by simpa using he
  refine ⟨by simp, some ⟨g, k, none⟩, cap - k, by rw [hlen], by rw [hlen]; unfold maxLen at *; omega, (fun h => by cases h), fun _ => ⟨g, k, rfl, fun i hi => ?_⟩⟩
  obtain ⟨b, off, he2, hcell⟩ := hc (by omega)
  obtain ⟨rfl, rfl⟩ : g = b ∧ 0 = off := by simpa using he2
  have := hcell (k + i) (by omega)
  rw [Nat.zero_add] at this
  rw [this, List.map_drop, List.getElem?_drop]
end Go.Proofs.YtflalehpdngklaaGreatDoor

namespace Go.Proofs.YtflalehpdngklaaGreatDoor
set_option maxRecDepth 100000
open Go.RowKit

theorem inB_iff {s t : Nat} (hs : IsSet s) : inB s t = true ↔ ∀ i, i < 64 → s.testBit i = true → t.testBit i = true := by
  unfold inB
  rw [beq_iff_eq]
  constructor
  · intro h i _ hi
    have := congrArg (fun x => Nat.testBit x i) h
    simp [Nat.testBit_xor, Nat.testBit_and, hi] at this
    exact this
  · intro h
    apply set_ext (isSet_xor hs (isSet_and hs)) (by unfold IsSet; omega)
    intro i hi
    rw [Nat.testBit_xor, Nat.testBit_and]
    cases hb : s.testBit i
    · simp
    · simp [h i hi hb]
end Go.Proofs.YtflalehpdngklaaGreatDoor

namespace Go.Proofs.YtflalehpdngklaaGreatDoor
set_option maxRecDepth 100000
open Go.RowKit

theorem addM_iff (R : Mat) (a b : Int) (i j : Nat) (hi : i < 64) (hj : j < 64) : addM R a b i j = true ↔ R i j = true ∨ (a = (i : Int) ∧ b = (j : Int)) := by
  unfold addM
  split
  · rename_i h
    have h1 := (mayB_iff a).1 h.1
    have h2 := (mayB_iff b).1 h.2
    unfold rowSet
    by_cases e : i = a.toNat
    · rw [if_pos e, ← e, Bool.or_eq_true, decide_eq_true_iff]
      apply or_congr Iff.rfl
      constructor
      · intro h; omega
      · intro h; omega
    · rw [if_neg e]
      constructor
      · exact .inl
      · rintro (h | h)
        · exact h
        · omega
  · rename_i h
    constructor
    · exact .inl
    · rintro (h' | ⟨rfl, rfl⟩)
      · exact h'
      · exact absurd ⟨(mayB_iff _).2 (by omega), (mayB_iff _).2 (by omega)⟩ h
theorem PathP.cons {l : List Pr} {a b c : Int} (h : (a, b) ∈ l) (k : PathP l b c) : PathP l a c := by
  induction k with
  | one h' => exact .more (.one h) h'
  | more _ h' ih => exact .more ih h'
end Go.Proofs.YtflalehpdngklaaGreatDoor

namespace Go.Proofs.YtflalehpdngklaaGreatDoor
set_option maxRecDepth 100000
open Go.RowKit

theorem prsRow_iff (S : Nat → Nat → Bool) (a : Nat) (R : Mat) (i j : Nat) (hi : i < 64) (hj : j < 64) : ∀ b, prsRow S a R b i j = true ↔ R i j = true ∨ (i = a ∧ j < b ∧ S i j = true)
  | 0 => by simp [prsRow]
  | b + 1 => by
    have ih := prsRow_iff S a R i j hi hj b
    cases hs : S a b with
    | true =>
      rw [prsRow_hit R hs, addM_iff _ _ _ _ _ hi hj, ih]
      constructor
      · rintro ((h | ⟨h1, h2, h3⟩) | ⟨h1, h2⟩)
        · exact .inl h
        · exact .inr ⟨h1, by omega, h3⟩
        · have e1 : i = a := by omega
          have e2 : j = b := by omega
          subst e1 e2
          exact .inr ⟨rfl, by omega, hs⟩
      · rintro (h | ⟨h1, h2, h3⟩)
        · exact .inl (.inl h)
        · by_cases e : j = b
          · exact .inr ⟨by omega, by omega⟩
          · exact .inl (.inr ⟨h1, by omega, h3⟩)
    | false =>
      rw [prsRow_miss R hs, ih]
      constructor
      · rintro (h | ⟨h1, h2, h3⟩)
        · exact .inl h
        · exact .inr ⟨h1, by omega, h3⟩
      · rintro (h | ⟨h1, h2, h3⟩)
        · exact .inl h
        · refine .inr ⟨h1, ?_, h3⟩
          by_cases e : j = b
          · subst h1 e; rw [hs] at h3; cases h3
          · omega
theorem prsTo_iff (S : Nat → Nat → Bool) (n : Nat) (i j : Nat) (hi : i < 64) (hj : j < 64) : ∀ a, prsTo S n a i j = true ↔ i < a ∧ j < n ∧ S i j = true
  | 0 => by simp [prsTo, noR]
  | a + 1 => by
    have ih := prsTo_iff S n i j hi hj a
    show prsRow S a (prsTo S n a) n i j = true ↔ _
    rw [prsRow_iff S a _ i j hi hj, ih]
    constructor
    · rintro (⟨h1, h2⟩ | ⟨h1, h2⟩)
      · exact ⟨by omega, h2⟩
      · exact ⟨by omega, h2⟩
    · rintro ⟨h1, h2⟩
      by_cases e : i = a
      · exact .inr ⟨e, h2⟩
      · exact .inl ⟨by omega, h2⟩
theorem hasR_prs (S : Nat → Nat → Bool) (n : Nat) (hn : n ≤ 64) (i j : Nat) (hi : i < n) (hj : j < n) : hasR (prsTo S n n) (i : Int) (j : Int) = S i j := by
  have h := prsTo_iff S n i j (by omega) (by omega) n
  unfold hasR mayB
  rw [Int.toNat_natCast, hasB_mkS _ _ (by omega)]
  have e : decide (0 ≤ (i : Int) ∧ (i : Int) < 64) = true := by simp; omega
  rw [e, Bool.true_and]
  cases hs : S i j with
  | true => exact h.2 ⟨hi, hj, hs⟩
  | false =>
    cases hp : prsTo S n n i j with
    | false => rfl
    | true => have := (h.1 hp).2.2; rw [hs] at this; cases this
end Go.Proofs.YtflalehpdngklaaGreatDoor

namespace Go.Proofs.YtflalehpdngklaaGreatDoor
set_option maxRecDepth 100000
open Go.RowKit

theorem may_parts {h : List TxnV} (hm : mayRef h = true) : okW h = true ∧ ∀ t ∈ h, keysIn t.l := by
  rw [← right_ref] at hm
  unfold rightB valuesB at hm
  simp only [Bool.and_eq_true] at hm
  exact ⟨hm.2.1.1, parts_keys hm.1⟩
end Go.Proofs.YtflalehpdngklaaGreatDoor

namespace Go.Proofs.YtflalehpdngklaaGreatDoor
set_option maxRecDepth 100000
open Go.RowKit

theorem wrI_at {key x : Int} {h : List TxnV} (hn : ¬ wrI key x h < 0) : ∃ i, ∃ hi : i < h.length, wrI key x h = i ∧ ∃ o ∈ h[i].l, isWr key x o = true := by
  unfold wrI at hn ⊢
  cases hf : h.findIdx? (fun t => t.l.any (isWr key x)) with
  | none => rw [hf] at hn; exact absurd (by decide) hn
  | some i =>
    rw [List.findIdx?_eq_some_iff_getElem] at hf
    obtain ⟨hi, h1, _⟩ := hf
    obtain ⟨o, ho, hw⟩ := List.any_eq_true.1 h1
    exact ⟨i, hi, rfl, o, ho, hw⟩
theorem isWr_iff {key x : Int} {o : OpV} : isWr key x o = true ↔ o.wr = true ∧ o.key = key ∧ o.val = x := by unfold isWr; simp
theorem may_rows {h : List TxnV} (hm : mayRef h = true) : ∀ k, ∀ hk : k < h.length, rowR h k h[k] = true := fun k hk => by
  have := List.all_eq_true.1 hm k (List.mem_range.2 hk)
  rwa [List.getElem?_eq_getElem hk] at this
theorem rowR_iff {h : List TxnV} {k : Nat} {t : TxnV} : rowR h k t = true ↔ mayT t.s t.b t.c t.l = true ∧ (h.take k).all (fun a => apartB a t) = true ∧ ∀ o ∈ t.l, opR h o = true := by
  unfold rowR
  rw [Bool.and_eq_true, Bool.and_eq_true, List.all_eq_true (p := opR h)]
theorem may_wr {h : List TxnV} (hm : mayRef h = true) {i : Nat} (hi : i < h.length) {o : OpV} (ho : o ∈ h[i].l) (wo : o.wr = true) : wrTo h h.length o.val = some ⟨i, o.key, vOf h[i].l o.key == o.val⟩ := by
  obtain ⟨hw, hk⟩ := may_parts hm
  exact wrTo_at hk h.length (Nat.le_refl _) (by rw [List.take_length]; unfold okW at hw; simpa using hw) i hi hi o ho wo
/-- What is told of a value that is read: who wrote it, to that key; of 0 nothing. -/
theorem reads_F {h : List TxnV} (hm : mayRef h = true) {k : Nat} (hk : k < h.length) {o : OpV} (ho : o ∈ h[k].l) (wo : o.wr = false) :
    (o.val = 0 ∧ wrTo h h.length 0 = none) ∨ (o.val ≠ 0 ∧ ∃ u, wrTo h h.length o.val = some u ∧ u.key = o.key ∧ wrI o.key o.val h = u.i) := by
  by_cases h0 : o.val = 0
  · refine .inl ⟨h0, ?_⟩
    cases hF : wrTo h h.length 0 with
    | none => rfl
    | some u =>
      obtain ⟨p, hp, hpv, _⟩ := real_wr h h.length (Nat.le_refl _) 0 u hF
      obtain ⟨t, ht, hpt, hpw⟩ := wrs_mem.1 hp
      obtain ⟨i, hi, rfl⟩ := List.getElem_of_mem ht
      have h1 := (rowR_iff.1 (may_rows hm i hi)).1
      unfold mayT at h1
      simp only [Bool.and_eq_true] at h1
      have h2 := (mayO_iff p).1 (List.all_eq_true.1 h1.2 p hpt)
      exact absurd hpv (h2.2.2 hpw)
  · refine .inr ⟨h0, ?_⟩
    have h1 := (rowR_iff.1 (may_rows hm k hk)).2.2 o ho
    unfold opR at h1
    rw [wo] at h1
    have h2 : ¬ wrI o.key o.val h < 0 := by simpa [h0] using h1
    obtain ⟨i, hi, he, p, hp, hpw⟩ := wrI_at h2
    obtain ⟨q1, q2, q3⟩ := isWr_iff.1 hpw
    have h3 := may_wr hm hi hp q1
    rw [q3, q2] at h3
    exact ⟨_, h3, rfl, he⟩
end Go.Proofs.YtflalehpdngklaaGreatDoor

namespace Go.Proofs.YtflalehpdngklaaGreatDoor
set_option maxRecDepth 100000
open Go.RowKit

theorem may_of {h : List TxnV} (hc : checkI h = 0) : mayRef h = true := by
  rw [← right_ref]
  unfold checkI at hc
  split at hc
  · cases hc
  · cases hr : rightB h with
    | true => rfl
    | false => rw [hr] at hc; cases hc
theorem from_same {h : List TxnV} (hc : checkI h = 0) {k : Nat} (hk : k < h.length) {o : OpV} (ho : o ∈ h[k].l) (wo : o.wr = false) : fromO (wrTo h h.length) o.val = fromR h o := by
  unfold fromO fromR
  rcases reads_F (may_of hc) hk ho wo with ⟨h0, hn⟩ | ⟨h0, u, hu, _, hw⟩
  · rw [if_pos h0, h0, hn]; rfl
  · rw [if_neg h0, hu, hw]; rfl
theorem rd_congr {h : List TxnV} {F : Int → Option WV} {i : Int} : ∀ (l : List OpV), (∀ o ∈ l, fromO F o.val = fromR h o) → rdFr F i l = rdR h i l
  | [], _ => rfl
  | a :: l, hl => by
    have ih := rd_congr (i := i) l (fun o ho => hl o (List.mem_cons_of_mem _ ho))
    have ha := hl a List.mem_cons_self
    unfold rdFr rdR at *
    rw [List.filter_cons, List.filter_cons, ha]
    split
    · rw [List.map_cons, List.map_cons, ih, ha]
    · exact ih
theorem refReads_in {l : List OpV} {o : OpV} (ho : o ∈ refReads l) : o ∈ l ∧ o.wr = false := by
  obtain ⟨k, _, hk⟩ := upTo_mem.1 ho
  obtain ⟨h1, h2⟩ := rdK_some.1 hk
  exact ⟨(firstO_key h1).2, h2⟩
theorem reads_same {h : List TxnV} (hc : checkI h = 0) {k : Nat} (hk : k < h.length) : readsOf h k = rdR h k (refReads h[k].l) := by
  unfold readsOf
  rw [opsAt_eq hk]
  refine rd_congr _ fun o ho => ?_
  obtain ⟨h1, h2⟩ := refReads_in ho
  exact from_same hc hk h1 h2
end Go.Proofs.YtflalehpdngklaaGreatDoor

namespace Go.Proofs.YtflalehpdngklaaGreatDoor
set_option maxRecDepth 100000
open Go.RowKit

theorem rivS_bit (F : Int → Option Nat) (j : Nat) : ∀ (xs : List Int) (s : Nat), (xs.foldl (fun s x => s ||| (F x).getD 0) s).testBit j = (s.testBit j || xs.any fun x => ((F x).getD 0).testBit j)
  | [], s => by simp
  | x :: xs, s => by
    rw [List.foldl_cons, rivS_bit F j xs, Nat.testBit_or, List.any_cons, Bool.or_assoc]
theorem wrsRow_bit (i : Nat) (hi : i < 64) (j : Nat) (y : Int) : ∀ (xs : List Int) (F : Int → Option Nat), ((wrsRow i F xs y).getD 0).testBit j = (((F y).getD 0).testBit j || (decide (y ∈ xs) && decide (i = j)))
  | [], F => by simp [wrsRow]
  | x :: xs, F => by
    have ih := wrsRow_bit i hi j y xs (putF F x (withS ((F x).getD 0) i))
    show ((wrsRow i (putF F x (withS ((F x).getD 0) i)) xs y).getD 0).testBit j = _
    rw [ih]
    by_cases e : y = x
    · subst e
      rw [putF_same, Option.getD_some, testBit_withS, Int.toNat_natCast]
      have : decide (0 ≤ (i : Int) ∧ (i : Int) < 64) = true := by simp; omega
      rw [this]
      cases ((F y).getD 0).testBit j <;> by_cases h : i = j <;> simp [h]
    · rw [putF_other F _ e]
      simp [e]
theorem wrsTo_bit (K : List KRow) (j : Nat) (y : Int) : ∀ m, m ≤ 64 → m ≤ K.length → ((wrsTo K m y).getD 0).testBit j = (decide (j < m) && decide (y ∈ ((K[j]?).map (·.2)).getD []))
  | 0, _, _ => by simp [wrsTo]
  | m + 1, h64, hm => by
    have ih := wrsTo_bit K j y m (by omega) (by omega)
    have hlt : m < K.length := by omega
    rw [wrsTo_succ hlt, wrsRow_bit m (by omega) j y, ih]
    by_cases e : m = j
    · subst e
      simp [List.getElem?_eq_getElem hlt]
    · by_cases h : j < m
      · have h2 : j < m + 1 := by omega
        simp [h, h2, e]
      · have h2 : ¬ j < m + 1 := by omega
        simp [h, h2, e]
theorem keysOf_iff {h : List TxnV} (hc : checkI h = 0) {i : Nat} (hi : i < h.length) (y : Int) : y ∈ keysOf (opsAt h i) ↔ wrsR h i y = true := by
  unfold keysOf wrsR vOf
  generalize hl : opsAt h i = l
  rw [opsAt_eq hi] at hl
  constructor
  · intro hy
    obtain ⟨o, ho, rfl⟩ := List.mem_map.1 hy
    cases hf : (refWrites l).find? (fun p => p.key == o.key) with
    | none => have := List.find?_eq_none.1 hf o ho; simp at this
    | some p =>
      have hp := List.mem_of_find?_eq_some hf
      obtain ⟨h1, h2⟩ := refWrites_mem hp
      have h3 := (rowR_iff.1 (may_rows (may_of hc) i hi)).1
      unfold mayT at h3
      simp only [Bool.and_eq_true] at h3
      have h4 := (mayO_iff p).1 (List.all_eq_true.1 h3.2 p (by rw [hl]; exact h1))
      simpa using h4.2.2 h2
  · intro hy
    cases hf : (refWrites l).find? (fun p => p.key == y) with
    | none => rw [hf] at hy; simp at hy
    | some p =>
      have hp := List.mem_of_find?_eq_some hf
      have hk := List.find?_some hf
      exact List.mem_map.2 ⟨p, hp, by simpa using hk⟩
theorem keys_at {h : List TxnV} {K : List KRow} (hK : K.map (·.2) = keysTo h h.length) {k : Nat} (hk : k < h.length) : ((K[k]?).map (·.2)).getD [] = keysOf (opsAt h k) := by
  rw [← List.getElem?_map, hK]
  unfold keysTo
  simp [hk]
theorem keys_len {h : List TxnV} {K : List KRow} (hK : K.map (·.2) = keysTo h h.length) : K.length = h.length := by
  have := congrArg List.length hK
  simpa [keysTo] using this
theorem riv_same {h : List TxnV} {K : List KRow} (hc : checkI h = 0) (hK : K.map (·.2) = keysTo h h.length) {i k : Nat} (hi : i < h.length) (hk : k < h.length) (hne : i ≠ k) :
    hasB (woS (rivS (wrsTo K K.length) (((K[i]?).map (·.2)).getD [])) (i : Int)) (k : Int) = rivR h i k := by
  obtain ⟨h64, _, _, hks⟩ := check_zero hc
  have hl := keys_len hK
  unfold hasB
  rw [Int.toNat_natCast, testBit_woS, Int.toNat_natCast]
  have e1 : decide (0 ≤ (k : Int) ∧ (k : Int) < 64) = true := by simp; omega
  rw [e1, Bool.true_and]
  have e2 : decide (i = k) = false := decide_eq_false hne
  rw [e2, Bool.and_false, Bool.not_false, Bool.and_true]
  unfold rivS
  rw [rivS_bit, Nat.zero_testBit, Bool.false_or, keys_at hK hi, Bool.eq_iff_iff, List.any_eq_true]
  unfold rivR
  rw [List.any_eq_true]
  have hb : ∀ y, ((wrsTo K K.length y).getD 0).testBit k = true ↔ wrsR h k y = true := fun y => by
    rw [wrsTo_bit K k y K.length (by omega) (Nat.le_refl _), keys_at hK hk]
    have : k < K.length := by omega
    simp only [this, decide_true, Bool.true_and, decide_eq_true_eq]
    exact keysOf_iff hc hk y
  constructor
  · rintro ⟨y, hy, hbt⟩
    have h1 := (keysOf_iff hc hi y).1 hy
    have h2 := (hb y).1 hbt
    obtain ⟨o, ho, rfl⟩ := List.mem_map.1 hy
    have h3 := (refWrites_mem ho).1
    rw [opsAt_eq hi] at h3
    obtain ⟨h4, h5⟩ := hks _ (List.getElem_mem hi) o h3
    refine ⟨o.key.toNat, List.mem_range.2 (by omega), ?_⟩
    rw [Int.toNat_of_nonneg h4, h1, h2]; rfl
  · rintro ⟨n, _, hn⟩
    rw [Bool.and_eq_true] at hn
    exact ⟨(n : Int), (keysOf_iff hc hi _).2 hn.1, (hb _).2 hn.2⟩
end Go.Proofs.YtflalehpdngklaaGreatDoor

namespace Go.Proofs.YtflalehpdngklaaGreatDoor
set_option maxRecDepth 100000
open Go.RowKit

/-- Who writes to a key that a transaction writes to. -/
def rivB (h : List TxnV) (i k : Nat) : Bool := decide (i < h.length) && (decide (k < h.length) && (decide (i ≠ k) && rivR h i k))
def rivN (h : List TxnV) (i : Nat) : Nat := mkS (rivB h i)
theorem rivN_set (h : List TxnV) (i : Nat) : IsSet (rivN h i) := isSet_mkS _
theorem rivN_none {h : List TxnV} {i : Nat} (hi : h.length ≤ i) : rivN h i = 0 := by
  unfold rivN
  have : rivB h i = fun _ => false := by
    funext k
    unfold rivB
    rw [decide_eq_false (by omega)]; rfl
  rw [this]; exact mkS_false
theorem keys_int {h : List TxnV} {K : List KRow} (hc : checkI h = 0) (hK : K.map (·.2) = keysTo h h.length) : ∀ p ∈ K, ∀ x ∈ p.2, InI x := by
  obtain ⟨_, _, _, hks⟩ := check_zero hc
  intro p hp x hx
  have h1 : p.2 ∈ keysTo h h.length := by rw [← hK]; exact List.mem_map.2 ⟨p, hp, rfl⟩
  unfold keysTo at h1
  obtain ⟨i, hi, e⟩ := List.mem_map.1 h1
  have hi := List.mem_range.1 hi
  rw [← e] at hx
  unfold keysOf at hx
  obtain ⟨o, ho, rfl⟩ := List.mem_map.1 hx
  have h2 := (refWrites_mem ho).1
  rw [opsAt_eq hi] at h2
  obtain ⟨h3, h4⟩ := hks _ (List.getElem_mem hi) o h2
  refine inI_of ?_
  unfold IntOk
  omega
theorem riv_eq {h : List TxnV} {K : List KRow} (hc : checkI h = 0) (hK : K.map (·.2) = keysTo h h.length) {i : Nat} (hi : i < h.length) (hA : AllSet (wrsTo K K.length)) :
    woS (rivS (wrsTo K K.length) (((K[i]?).map (·.2)).getD [])) (i : Int) = rivN h i := by
  have hl := keys_len hK
  have h64 := (check_zero hc).1
  refine mkS_eq ?_ (fun k hk => ?_)
  · have h1 : IsSet (rivS (wrsTo K K.length) (((K[i]?).map (·.2)).getD [])) := by
      have := rivS_set hA (((K[i]?).map (·.2)).getD []) (((K[i]?).map (·.2)).getD []).length (Nat.le_refl _)
      rwa [List.take_length] at this
    exact isSet_woS h1
  · by_cases hkn : k < h.length
    · by_cases e : i = k
      · subst e
        unfold rivB
        rw [testBit_woS, Int.toNat_natCast]
        simp; intros; omega
      · have h2 := riv_same hc hK hi hkn e
        unfold hasB at h2
        rw [Int.toNat_natCast] at h2
        have e1 : decide (0 ≤ (k : Int) ∧ (k : Int) < 64) = true := by simp; omega
        rw [e1, Bool.true_and] at h2
        rw [h2]
        unfold rivB
        simp [hi, hkn, e]
    · rw [testBit_woS]
      have h3 : (rivS (wrsTo K K.length) (((K[i]?).map (·.2)).getD [])).testBit k = false := by
        unfold rivS
        rw [rivS_bit, Nat.zero_testBit, Bool.false_or]
        refine List.any_eq_false.2 (fun y _ => ?_)
        rw [wrsTo_bit K k y K.length (by omega) (Nat.le_refl _)]
        have : ¬ k < K.length := by omega
        simp [this]
      rw [h3]
      unfold rivB
      simp [hkn]
theorem ordis_rivals {w : World} {B b : Nat} {h : List TxnV} (hO : OrdIs w B b h) (hc : checkI h = 0) (i : Nat) :
    Calls Tryz.prog 50 #[.pointer (some ⟨B, 0, none⟩), .int .i64 i] w fun e w' => e = .returned (.int .u64 ((rivN h i : Nat) : Int)) ∧ Below w.heap.size w w' := by
  obtain ⟨bm, m, c, vk, vr, K, R, h1, h2, h3, h4, h5, h6⟩ := hO
  have hl := keys_len h5
  by_cases hi : i < h.length
  · have hiK : i < K.length := by omega
    have hh := orivals_any i h1 h2 h3 h4.rws (keys_int hc h5) hiK
    have e := riv_eq hc h5 hi h3
    rw [List.getElem?_eq_getElem hiK] at e
    simp only [Option.map_some, Option.getD_some] at e
    rw [e] at hh
    exact hh
  · rw [rivN_none (by omega)]
    exact orivals_none (i : Int) h1 h4.rws (.inr (by omega))
theorem rivN_has (h : List TxnV) (i k : Nat) (hk : k < 64) : hasB (rivN h i) (k : Int) = rivB h i k := hasB_mkS _ _ hk
end Go.Proofs.YtflalehpdngklaaGreatDoor

namespace Go.Proofs.YtflalehpdngklaaGreatDoor
set_option maxRecDepth 100000
open Go.RowKit

theorem path_up {R : Mat} (f : Nat → Int) (hR : ∀ a b, a < 64 → b < 64 → R a b = true → f a < f b) {i j : Nat} (h : Path R i j) (hi : i < 64) (hj : j < 64) : f i < f j := by
  induction h with
  | one h => exact hR _ _ hi hj h
  | more h h2 _ ih => exact Int.lt_trans (hR _ _ hi h2 h) (ih h2 hj)
theorem acy_up {R : Mat} (f : Nat → Int) (hR : ∀ a b, a < 64 → b < 64 → R a b = true → f a < f b) : acy R = true :=
  (acy_iff R).2 fun i hi h => by have := path_up f hR h hi hi; omega
theorem bc_of {h : List TxnV} (hc : checkI h = 0) {i : Nat} (hi : i < h.length) : h[i].b < h[i].c := by
  have h1 := (rowR_iff.1 (may_rows (may_of hc) i hi)).1
  unfold mayT at h1
  simp only [Bool.and_eq_true, decide_eq_true_eq] at h1
  omega
theorem ses_tim {h : List TxnV} (hc : checkI h = 0) {i k : Nat} (hi : i < h.length) (hk : k < h.length) (hik : i < k) (hs : h[i].s = h[k].s) : h[i].c < h[k].b := by
  have h1 := (rowR_iff.1 (may_rows (may_of hc) k hk)).2.1
  have h2 : h[i] ∈ h.take k := by
    rw [List.mem_take_iff_getElem]
    exact ⟨i, by omega, rfl⟩
  obtain ⟨⟨_, _, h3, _⟩, h4⟩ := (apartB_iff _ _).1 (List.all_eq_true.1 h1 _ h2)
  by_cases e : h[k].b < h[i].c
  · exact absurd ⟨hs, e⟩ h4
  · omega
theorem timM_acy {h : List TxnV} (hc : checkI h = 0) : acy (timM h) = true := by
  refine acy_up (cAt h) fun a b ha hb hab => ?_
  obtain ⟨h1, h2, h3⟩ := (prsTo_iff (timP h) h.length a b ha hb h.length).1 hab
  unfold timP at h3
  have h4 := bc_of hc h2
  rw [bAt_eq h2] at h3
  rw [cAt_eq h2]
  have := of_decide_eq_true h3
  omega
theorem ses_in_tim {h : List TxnV} (hc : checkI h = 0) : inM (sesM h) (timM h) = true := by
  unfold inM inMTo
  rw [List.all_eq_true]
  intro i hi
  have hi := List.mem_range.1 hi
  rw [inB_iff (isSet_mkS _)]
  intro j hj hb
  rw [testBit_mkS] at hb ⊢
  simp only [hj, decide_true, Bool.true_and] at hb ⊢
  obtain ⟨h1, h2, h3⟩ := (prsTo_iff (sesP h) h.length i j hi hj h.length).1 hb
  refine (prsTo_iff (timP h) h.length i j hi hj h.length).2 ⟨h1, h2, ?_⟩
  unfold sesP at h3
  unfold timP
  rw [sAt_eq h1, sAt_eq h2] at h3
  simp only [Bool.and_eq_true, decide_eq_true_eq] at h3
  rw [cAt_eq h1, bAt_eq h2]
  exact decide_eq_true (ses_tim hc h1 h2 h3.1 h3.2)
end Go.Proofs.YtflalehpdngklaaGreatDoor

namespace Go.Proofs.YtflalehpdngklaaGreatDoor
set_option maxRecDepth 100000
open Go.RowKit

theorem takeG {P : Program} {ops : Array Oper} {Q : Exit → Act → World → Prop} {md : Region.Mode} {S : World → Prop} (d : Option Tmp) {i : Nat} {oi : Oper} {v : Value} {fuel : Nat} {listed : Array Bool} {a : Act} {w : World} (hi : ops[i]? = some oi) (hd : oi.dst = d)
    (hs : Region.noSelect ops = true) (hf : Region.free md ops listed i = true) (hr : (Region.ready md ops listed).contains i = true)
    (hQ : ∀ c a w, Q (.panic c) (a.put oi.dst v) w → Q (.panic c) a w) (hy : YieldsIf P ops S oi v a) (hS : S w)
    (h : wpAnyH P md ops Q S fuel (listed.setIfInBounds i true) (a.put d v) w) : wpAnyH P md ops Q S (fuel + 1) listed a w := by
  subst hd; exact wpAnyH_take hi hs hf hr hQ hy hS h
theorem yields_load_part {ops : Array Oper} {S : World → Prop} {o : Oper} {a : Act} {B k : Nat} {R : Mat} (hw : Region.wanted o (yielded ops a.tmps) = true) (x : Operand) (ho : o.op = .load 38 x)
    (hx : a.eval x = .pointer (some ⟨B, k, none⟩)) (hS : ∀ w, S w → w.rangeAt B k (rowsA R).toList) : YieldsIf Tryz.prog ops S o (.agg (rowsA R)) a := by
  have h := yieldsIf_load_mid (P := Tryz.prog) hw 38 x ho B k hx (rowsA R).toList _ hS Tryz.underlying38 rfl (by rw [Array.length_toList]; exact infoRel' R)
  rw [Array.toArray_toList] at h
  exact h
/-- The block of what follows of a history, without what it reaches. -/
def OrdB (w : World) (B : Nat) (h : List TxnV) : Prop := ∃ vm vk vr, OrdAt w B h.length (sesM h) (timM h) (froM h) vm vk vr (soundTo h h.length)
theorem OrdIs.blk {w : World} {B b : Nat} {h : List TxnV} (hO : OrdIs w B b h) : OrdB w B h := by
  obtain ⟨bm, m, c, vk, vr, K, R, h1, _⟩ := hO
  exact ⟨_, _, _, h1⟩
theorem OrdB.rS {w : World} {B : Nat} {h : List TxnV} (hO : OrdB w B h) : w.rangeAt B 1 (rowsA (sesM h)).toList := by obtain ⟨_, _, _, h⟩ := hO; exact h.rS
theorem OrdB.rT {w : World} {B : Nat} {h : List TxnV} (hO : OrdB w B h) : w.rangeAt B 65 (rowsA (timM h)).toList := by obtain ⟨_, _, _, h⟩ := hO; exact h.rT
theorem OrdB.rF {w : World} {B : Nat} {h : List TxnV} (hO : OrdB w B h) : w.rangeAt B 129 (rowsA (froM h)).toList := by obtain ⟨_, _, _, h⟩ := hO; exact h.rF
theorem OrdB.cS {w : World} {B : Nat} {h : List TxnV} (hO : OrdB w B h) : w.cell? ⟨B, 196, none⟩ = some (.bool (soundTo h h.length)) := by obtain ⟨_, _, _, h⟩ := hO; exact h.cS
theorem OrdB.below {w w' : World} {B : Nat} {h : List TxnV} (hO : OrdB w B h) (hb : Below w.heap.size w w') : OrdB w' B h := by
  obtain ⟨vm, vk, vr, h1⟩ := hO
  exact ⟨_, _, _, h1.below hb h1.lt⟩
theorem OrdB.other {w : World} {B : Nat} {h : List TxnV} (hO : OrdB w B h) {k : Addr} (hk : B ≠ k.block) (v : Value) : OrdB (w.setCell k v) B h := by
  obtain ⟨vm, vk, vr, h1⟩ := hO
  exact ⟨_, _, _, h1.other hk v⟩
end Go.Proofs.YtflalehpdngklaaGreatDoor

namespace Go.Proofs.YtflalehpdngklaaGreatDoor
set_option maxRecDepth 100000

/-- What must be seen: what there is at the start, and what follows. -/
inductive Must (S A : Mat) (tr pf : Bool) : Nat → Nat → Prop
  | base {i j : Nat} : S i j = true → Must S A tr pf i j
  | trans {i m j : Nat} : tr = true → m < 64 → Must S A tr pf i m → Must S A tr pf m j → Must S A tr pf i j
  | pre {i m j : Nat} : pf = true → m < 64 → A i m = true → Must S A tr pf m j → Must S A tr pf i j
def moreT (V : Mat) (tr : Bool) : Mat := if tr then clo V else V
def moreM (V A : Mat) (tr pf : Bool) : Mat := if pf then orR (moreT V tr) (thenR A (moreT V tr)) else moreT V tr
section
variable {S A V : Mat} {tr pf : Bool}
theorem path_must (ht : tr = true) (hV : ∀ i j, i < 64 → j < 64 → V i j = true → Must S A tr pf i j) {i j : Nat} (h : Path V i j) (hi : i < 64) (hj : j < 64) : Must S A tr pf i j := by
  induction h with
  | one h => exact hV _ _ hi hj h
  | more h h2 _ ih => exact .trans ht h2 (hV _ _ hi h2 h) (ih h2 hj)
theorem moreT_sound (hV : ∀ i j, i < 64 → j < 64 → V i j = true → Must S A tr pf i j) (i j : Nat) (hi : i < 64) (hj : j < 64) (h : moreT V tr i j = true) : Must S A tr pf i j := by
  cases tr with
  | false => exact hV i j hi hj h
  | true => exact path_must rfl hV ((clo_iff V i j).1 h) hi hj
theorem thenR_iff (R S : Mat) (i j : Nat) : thenR R S i j = true ↔ ∃ m, m < 64 ∧ R i m = true ∧ S m j = true := by
  unfold thenR
  rw [List.any_eq_true]
  constructor
  · rintro ⟨m, hm, h⟩
    rw [Bool.and_eq_true] at h
    exact ⟨m, List.mem_range.1 hm, h.1, h.2⟩
  · rintro ⟨m, hm, h1, h2⟩
    exact ⟨m, List.mem_range.2 hm, by rw [h1, h2]; rfl⟩
theorem orR_iff (R S : Mat) (i j : Nat) : orR R S i j = true ↔ R i j = true ∨ S i j = true := by
  unfold orR; rw [Bool.or_eq_true]
theorem moreM_sound (hV : ∀ i j, i < 64 → j < 64 → V i j = true → Must S A tr pf i j) (i j : Nat) (hi : i < 64) (hj : j < 64) (h : moreM V A tr pf i j = true) : Must S A tr pf i j := by
  cases pf with
  | false => exact moreT_sound hV i j hi hj h
  | true =>
    rcases (orR_iff _ _ _ _).1 h with h | h
    · exact moreT_sound hV i j hi hj h
    · obtain ⟨m, hm, h1, h2⟩ := (thenR_iff _ _ _ _).1 h
      exact .pre rfl hm h1 (moreT_sound hV m j hm hj h2)
theorem moreT_grows {i j : Nat} (h : V i j = true) : moreT V tr i j = true := by
  cases tr with
  | false => exact h
  | true => exact cloTo_sub V i j h 64
theorem moreM_grows {i j : Nat} (h : V i j = true) : moreM V A tr pf i j = true := by
  cases pf with
  | false => exact moreT_grows h
  | true => exact (orR_iff _ _ _ _).2 (.inl (moreT_grows h))
theorem more_done (hS : ∀ i j, i < 64 → j < 64 → S i j = true → V i j = true) (hf : rowsA (moreM V A tr pf) = rowsA V) {i j : Nat} (h : Must S A tr pf i j) (hi : i < 64) (hj : j < 64) : V i j = true := by
  induction h with
  | base h => exact hS _ _ hi hj h
  | @trans i m j ht hm _ _ ih1 ih2 =>
    rw [← rowsA_inj hf i j hi hj]
    have hp : moreT V tr i j = true := by
      rw [ht]
      exact (clo_iff V i j).2 ((Path.one (ih1 hi hm)).trans hm (.one (ih2 hm hj)))
    cases pf with
    | false => exact hp
    | true => exact (orR_iff _ _ _ _).2 (.inl hp)
  | @pre i m j hp hm ha _ ih =>
    rw [← rowsA_inj hf i j hi hj]
    rw [hp]
    exact (orR_iff _ _ _ _).2 (.inr ((thenR_iff _ _ _ _).2 ⟨m, hm, ha, moreT_grows (ih hm hj)⟩))
end
theorem filter_le {α : Type} {p q : α → Bool} : ∀ (l : List α), (∀ a ∈ l, p a = true → q a = true) → (l.filter p).length ≤ (l.filter q).length
  | [], _ => by simp
  | a :: l, h => by
    have ih := filter_le l (fun b hb => h b (List.mem_cons_of_mem _ hb))
    have ha := h a List.mem_cons_self
    cases hp : p a with
    | true => rw [List.filter_cons_of_pos hp, List.filter_cons_of_pos (ha hp)]; simpa using ih
    | false =>
      rw [List.filter_cons_of_neg (by simp [hp])]
      cases hq : q a with
      | true => rw [List.filter_cons_of_pos hq]; simp; omega
      | false => rw [List.filter_cons_of_neg (by simp [hq])]; exact ih
theorem filter_lt {α : Type} {p q : α → Bool} : ∀ (l : List α), (∀ a ∈ l, p a = true → q a = true) → ∀ x ∈ l, q x = true → p x = false → (l.filter p).length < (l.filter q).length
  | [], _, _, hx, _, _ => by cases hx
  | a :: l, h, x, hx, hq, hp => by
    have h2 := fun b hb => h b (List.mem_cons_of_mem a hb)
    rcases List.mem_cons.1 hx with rfl | hx
    · rw [List.filter_cons_of_neg (by simp [hp]), List.filter_cons_of_pos hq]
      have := filter_le l h2
      simp; omega
    · have ih := filter_lt l h2 x hx hq hp
      have ha := h a List.mem_cons_self
      cases hp1 : p a with
      | true => rw [List.filter_cons_of_pos hp1, List.filter_cons_of_pos (ha hp1)]; simpa using ih
      | false =>
        rw [List.filter_cons_of_neg (by simp [hp1])]
        cases hq1 : q a with
        | true => rw [List.filter_cons_of_pos hq1]; simp; omega
        | false => rw [List.filter_cons_of_neg (by simp [hq1])]; exact ih
/-- How many pairs there are. -/
def cntP (R : Mat) : Nat := ((List.range 4096).filter fun n => R (n / 64) (n % 64)).length
theorem cntP_lt {R S : Mat} (h : ∀ i j, R i j = true → S i j = true) (hne : rowsA R ≠ rowsA S) : cntP R < cntP S := by
  by_cases hx : ∃ i j, i < 64 ∧ j < 64 ∧ S i j = true ∧ R i j = false
  · obtain ⟨i, j, hi, hj, h1, h2⟩ := hx
    have e1 : (i * 64 + j) / 64 = i := by omega
    have e2 : (i * 64 + j) % 64 = j := by omega
    exact filter_lt _ (fun n _ hn => h _ _ hn) (i * 64 + j) (List.mem_range.2 (by omega)) (by rw [e1, e2]; exact h1) (by rw [e1, e2]; exact h2)
  · refine absurd (rowsA_congr fun i j hi hj => ?_) hne
    cases hr : R i j with
    | true => exact (h i j hr).symm
    | false =>
      cases hs : S i j with
      | true => exact absurd ⟨i, j, hi, hj, hs, hr⟩ hx
      | false => rfl
end Go.Proofs.YtflalehpdngklaaGreatDoor

namespace Go.Proofs.YtflalehpdngklaaGreatDoor
set_option maxRecDepth 100000
open Go.RowKit

theorem Ints.take {w : World} {ao : Option Addr} {n cap : Nat} {l : List Int} (h : Ints w (.slice ao n cap) l) (k : Nat) (hk : k ≤ l.length) (hk0 : ao = none → cap = 0) :
    Ints w (.slice ao k cap) (l.take k) := by
  have hlen : (l.take k).length = k := by simp; omega
  obtain ⟨_, ao', cap', he, hm, hno, hc⟩ := h
  obtain ⟨rfl, rfl, rfl⟩ : ao = ao' ∧ n = l.length ∧ cap = cap' := by simpa using he
  refine ⟨by simp, ao, cap, by rw [hlen], by rw [hlen]; omega, (fun h => ⟨by rw [hlen]; have := hno h; omega, hk0 h⟩), fun hn => ?_⟩
  obtain ⟨b, off, rfl, hcell⟩ := hc (by omega)
  refine ⟨b, off, rfl, fun i hi => ?_⟩
  rw [hcell i (by omega), List.map_take, List.getElem?_take, if_pos (by omega)]
end Go.Proofs.YtflalehpdngklaaGreatDoor

namespace Go.Proofs.YtflalehpdngklaaGreatDoor
set_option maxRecDepth 100000
open Go.RowKit

theorem RelAt.far {w : World} {g g' : Nat} {t : TypeId} {R : Mat} (h : RelAt w g t R) (hne : g ≠ g') (cs : Array Value) : RelAt (w.setRow g' cs) g t R := by
  unfold RelAt at *; rw [setRow_other _ _ _ _ hne]; exact h
end Go.Proofs.YtflalehpdngklaaGreatDoor

namespace Go.Proofs.YtflalehpdngklaaGreatDoor
set_option maxRecDepth 100000
open Go.RowKit

/-- Both relations and both lists of pairs lie where they lie; nothing older has changed. -/
def St (w0 : World) (g h : Nat) (R S : Mat) (v x : Value) (m n : List Pr) (w : World) : Prop :=
  RelAt w g 38 R ∧ RelAt w h 38 S ∧ Prs w v m ∧ Prs w x n ∧ Below w0.heap.size w0 w
theorem St.below {w0 : World} {g h : Nat} {R S : Mat} {v x : Value} {m n : List Pr} {w w' : World} (hs : St w0 g h R S v x m n w) (hb : Below w.heap.size w w') : St w0 g h R S v x m n w' :=
  ⟨hs.1.below hb hs.1.lt, hs.2.1.below hb hs.2.1.lt, hs.2.2.1.below hb, hs.2.2.2.1.below hb, hs.2.2.2.2.trans (hb.mono hs.2.2.2.2.size)⟩
theorem St.alloc {w0 : World} {g h : Nat} {R S : Mat} {v x : Value} {m n : List Pr} {w : World} (hs : St w0 g h R S v x m n w) (o : Obj) : St w0 g h R S v x m n (w.alloc o) :=
  hs.below ((Below.refl _ _).alloc (Nat.le_refl _) _)
/-- A slice of pairs lies where it lies, whatever becomes of one block. -/
def Off (q : Nat) (w : World) (v : Value) (l : List Pr) : Prop := ∀ w', w.grownBy w' (some q) → Prs w' v l
theorem grownBy_of_below {w w' : World} (hb : Below w.heap.size w w') (q : Option Nat) : w.grownBy w' q := ⟨hb.os, hb.tape, hb.output, hb.size, fun k hk _ => hb.block k hk⟩
theorem Off.below {q : Nat} {w w' : World} {v : Value} {l : List Pr} (h : Off q w v l) (hb : Below w.heap.size w w') : Off q w' v l :=
  fun w2 hg => h w2 ((grownBy_of_below hb (some q)).trans hg)
theorem Off.of_owns {q base : Nat} {w : World} {e : TypeId} {v : Value} {n : Nat} {l : List Pr} (h : w.ownsRow base e 2 v n (prV l)) (hq : q < base) : Off q w v l :=
  fun w2 hg => Prs.of_owns (h.kept hg (by
    rcases ho : v.ownBlock with _ | g
    · exact .inl rfl
    · right; have := (h.lt g ho).1; intro e; cases e; omega))
end Go.Proofs.YtflalehpdngklaaGreatDoor

namespace Go.Proofs.YtflalehpdngklaaGreatDoor
set_option maxRecDepth 100000
open Go.RowKit

theorem RelAt.as {w : World} {g : Nat} {t : TypeId} {R S : Mat} (h : RelAt w g t R) (e : rowsA R = rowsA S) : RelAt w g t S := by
  unfold RelAt at *; rw [← e]; exact h
end Go.Proofs.YtflalehpdngklaaGreatDoor

namespace Go.Proofs.YtflalehpdngklaaGreatDoor
set_option maxRecDepth 100000
open Go.RowKit

/-- What a round has come to: the start, and only what must be seen. -/
structure Grown (V A : Mat) (tr pf : Bool) (U : Mat) : Prop where
  h : ∀ i j, V i j = true → U i j = true
  m : ∀ i j, i < 64 → j < 64 → U i j = true → Must V A tr pf i j
theorem Grown.start (V A : Mat) (tr pf : Bool) : Grown V A tr pf V := ⟨fun _ _ h => h, fun _ _ _ _ h => .base h⟩
section
variable {V A U : Mat} {tr pf : Bool}
theorem Grown.next (g : Grown V A tr pf U) : Grown V A tr pf (moreM U A tr pf) := ⟨fun i j h => moreM_grows (g.h i j h), fun i j hi hj h => moreM_sound g.m i j hi hj h⟩
theorem Grown.count (_ : Grown V A tr pf U) (hf : rowsA (moreM U A tr pf) ≠ rowsA U) : cntP U < cntP (moreM U A tr pf) := cntP_lt (fun _ _ h => moreM_grows h) (fun e => hf e.symm)
theorem Grown.done (g : Grown V A tr pf U) (hf : rowsA (moreM U A tr pf) = rowsA U) : ∀ i j, i < 64 → j < 64 → (U i j = true ↔ Must V A tr pf i j) := fun i j hi hj => ⟨g.m i j hi hj, fun h => more_done (fun i j _ _ h => g.h i j h) hf h hi hj⟩
end
theorem eq_items (R S : Mat) (w : World) : ∀ (is : List Nat), (∀ i ∈ is, i < 64) → (Op.eqItems 9999 36 1 (rowsA R) (rowsA S) is).run Tryz.prog w = .ok (is.all fun i => mkS (R i) == mkS (S i)) w
  | [], _ => by simp [Op.eqItems]
  | i :: is, h => by
    have hi := h i List.mem_cons_self
    have h1 := rowsA_at R hi
    have h2 := rowsA_at S hi
    have ih := eq_items R S w is (fun j hj => h j (List.mem_cons_of_mem _ hj))
    have hp : (part 36 (rowsA R) (i * 1)).run Tryz.prog w = .ok (.int .u64 ((mkS (R i) : Nat) : Int)) w := by
      simp [part, isAgg, Sem.run_bind, run_underlying Tryz.underlying36 w, h1]
    have hp2 : (part 36 (rowsA S) (i * 1)).run Tryz.prog w = .ok (.int .u64 ((mkS (S i) : Nat) : Int)) w := by
      simp [part, isAgg, Sem.run_bind, run_underlying Tryz.underlying36 w, h2]
    have he : (Op.equalIn (9998 + 1) 36 (.int .u64 ((mkS (R i) : Nat) : Int)) (.int .u64 ((mkS (S i) : Nat) : Int))).run Tryz.prog w = .ok (mkS (R i) == mkS (S i)) w := by
      rw [run_equalIn_int w 9998 36 .u64 .u64 _ _ Tryz.underlying36]
      simp
      rw [Bool.eq_iff_iff, beq_iff_eq, beq_iff_eq]
      omega
    simp only [Op.eqItems, Sem.run_bind, hp, hp2, Result.andThen_ok]
    rw [he]
    simp only [Result.andThen_ok]
    cases hb : (mkS (R i) == mkS (S i)) with
    | true =>
      simp only [Bool.not_true, Bool.false_eq_true, if_false]
      rw [ih]; simp [hb]
    | false => simp [hb]
theorem rows_all (R S : Mat) : ((List.range 64).all fun i => mkS (R i) == mkS (S i)) = true ↔ rowsA R = rowsA S := by
  rw [List.all_eq_true]
  constructor
  · intro h
    unfold rowsA
    congr 1
    refine List.map_congr_left fun i hi => ?_
    have := h i hi
    simp only [beq_iff_eq] at this
    rw [this]
  · intro h i hi
    have hi := List.mem_range.1 hi
    have h1 := rowsA_at R hi
    rw [h, rowsA_at S hi] at h1
    have := Option.some.inj h1
    simp only [Value.int.injEq, true_and] at this
    simp; omega
theorem run_eql_yes (R S : Mat) (hf : rowsA R = rowsA S) (w : World) : (binOp .eql 38 (.agg (rowsA R)) (.agg (rowsA S))).run Tryz.prog w = .ok (.bool true) w := by
  obtain ⟨i, hi, _⟩ := Option.map_eq_some_iff.1 infoSet
  have hc : Tryz.prog.cellsOf 36 = 1 := by kernel_rfl
  rw [run_eql_struct, run_equalIn_array w 9999 (rowsA R) (rowsA S) Tryz.underlying38 hi, hc, eq_items R S w _ (fun i hi => List.mem_range.1 hi), (rows_all R S).2 hf]
  rfl
theorem run_guard_rel (o : BinOp) (x y : Operand) (R S : Mat) (w : World) : Sem.run Tryz.prog (eqGuard o 38 x y (.agg (rowsA R)) (.agg (rowsA S))) w = .ok () w :=
  run_eqGuard_agg w o 38 x y _ _ (by kernel_rfl)
end Go.Proofs.YtflalehpdngklaaGreatDoor

namespace Go.Proofs.YtflalehpdngklaaGreatDoor
set_option maxRecDepth 100000
open Go.RowKit

/-- One stands ahead of another one in a row. -/
def Ahead : List Int → Int → Int → Prop
  | [], _, _ => False
  | c :: L, a, b => Ahead L a b ∨ (c = a ∧ b ∈ L)
theorem Ahead.mem {a b : Int} : ∀ {L : List Int}, Ahead L a b → a ∈ L ∧ b ∈ L
  | [], h => h.elim
  | c :: L, h => by
    rcases h with h | ⟨rfl, h⟩
    · exact ⟨List.mem_cons_of_mem _ (Ahead.mem h).1, List.mem_cons_of_mem _ (Ahead.mem h).2⟩
    · exact ⟨List.mem_cons_self, List.mem_cons_of_mem _ h⟩
theorem Ahead.trans {a m b : Int} : ∀ {L : List Int}, Ahead L a m → Ahead L m b → ¬ Ahead L m m → Ahead L a b
  | [], h, _, _ => h.elim
  | c :: L, h, k, hno => by
    rcases h with h | ⟨rfl, h⟩
    · rcases k with k | ⟨rfl, k⟩
      · exact .inl (Ahead.trans h k fun x => hno (.inl x))
      · exact absurd (.inr ⟨rfl, h.mem.2⟩) hno
    · rcases k with k | ⟨rfl, k⟩
      · exact .inr ⟨rfl, k.mem.2⟩
      · exact .inr ⟨rfl, k⟩
end Go.Proofs.YtflalehpdngklaaGreatDoor

namespace Go.Proofs.YtflalehpdngklaaGreatDoor
set_option maxRecDepth 100000
open Go.RowKit

theorem ints_at {w : World} {ao : Option Addr} {n cap : Nat} {L : List Nat} (h : Ints w (.slice ao n cap) (L.map Int.ofNat)) {k : Nat} (hk : k < L.length) :
    ∃ b off, ao = some ⟨b, off, none⟩ ∧ w.cell? ⟨b, off + k, none⟩ = some (.int .i64 (L[k] : Int)) := by
  obtain ⟨b, off, h1, h2⟩ := h.at (k := k) (by simpa using hk)
  refine ⟨b, off, h1, ?_⟩
  rw [h2, List.getElem_map]; rfl
theorem Ints.grown {w w' : World} {v : Value} {xs : List Int} {row : Option Nat} (h : Ints w v xs) (hg : w.grownBy w' row) (hne : ∀ b, row = some b → v.ownBlock ≠ some b) : Ints w' v xs := by
  obtain ⟨hl, ao, cap, rfl, hm, hno, hc⟩ := h
  refine ⟨hl, ao, cap, rfl, hm, hno, fun hn => ?_⟩
  obtain ⟨b, off, rfl, hcell⟩ := hc hn
  refine ⟨b, off, rfl, fun i hi => ?_⟩
  have h2 := hcell i hi
  rw [List.getElem?_eq_getElem (by omega)] at h2 ⊢
  exact hg.cell h2 (fun e => hne b e.symm rfl)
theorem Ints.news {w : World} {g o n cap : Nat} {L : List Nat} (h : Ints w (.slice (some ⟨g, o, none⟩) n cap) (L.map Int.ofNat)) (k : Nat) :
    ∀ i u, ((L.drop k).map fun i : Nat => Value.int .i64 (i : Int))[i]? = some u → w.cell? ((⟨g, o + k, none⟩ : Addr).add i) = some u := by
  intro i u hu
  have hi : i < (L.drop k).length := by have := (List.getElem?_eq_some_iff.1 hu).1; simpa using this
  rw [List.length_drop] at hi
  obtain ⟨b, off, h1, h2⟩ := ints_at h (k := k + i) (by omega)
  cases h1
  rw [Addr.add_lit, Nat.add_assoc, h2, ← hu, List.getElem?_map, List.getElem?_drop, List.getElem?_eq_getElem (by omega)]
  rfl
end Go.Proofs.YtflalehpdngklaaGreatDoor
