/- Walks and plain facts that the proof of the statement WholeParts uses, joined: VecC VecD TblM TblB TblC VecE VecF VecG VecH LevD TblD TblE TblF TblG TblJ TblH TblK VecJ VecK CatA HisT HisU HisV HisW HisY OrdAG BruL BruN CatB CatC CatD. Conditions: each theorem's own. -/
import Derived.Deep.MidRow
import Derived.ChangeKeysEq
import Derived.Outline
import Derived.Laws.BitsAllLaws
import Derived.BigQuiet
import Derived.Sort.Row
import Derived.Test.YtmcicfdnmfbimaaGreatDoorPWholeParts0
import Derived.Test.YtmcicfdnmfbimaaGreatDoorPWholeParts1
import Derived.Test.YtmcicfdnmfbimaaGreatDoorPWholeParts2
import Derived.Test.YtmcicfdnmfbimaaGreatDoorPWholeParts4
import Derived.Test.YtmcicfdnmfbimaaGreatDoorPWholeParts5
import Derived.Test.YtmcicfdnmfbimaaGreatDoorPWholeParts6
namespace Go.Proofs.YtmcicfdnmfbimaaGreatDoor
set_option maxHeartbeats 32000000
set_option maxRecDepth 100000
open Lib (hid)
section
open Go.RowKit
theorem least_ex (h : List TxnV) (x : Nat) (L : List Int) : ∃ X : Mat, LeastIs h x L X := by
 classical
 exact ⟨fun i j => decide (Must (startM h (x : Int) (chainR L)) (chainR L) (trB x) (pfB x) i j), fun i j _ _ => by rw [decide_eq_true_eq]⟩
section
variable {h : List TxnV}
theorem kept_implied (hc : checkI h = 0) {a b : Int} (hi : impB a b = true) {L : List Nat} (hp : L.Perm (List.range h.length)) (hk : keptL h a L = true) : keptL h b L = true := by
 obtain ⟨X, hX⟩ := least_ex h (askN a) (L.map Int.ofNat)
 obtain ⟨Y, hY⟩ := least_ex h (askN b) (L.map Int.ofNat)
 rw [← kept_holds hc a hp hX] at hk
 have hnd : (L.map Int.ofNat).Nodup := nodup_ofNat (hp.nodup_iff.2 List.nodup_range)
 have h2 := least_holds (check_zero hc).1 (implied_holds hc hnd hk hi) hY
 rwa [kept_holds hc b hp hY] at h2
theorem dec_implied (hc : checkI h = 0) {a b : Int} (hi : impB a b = true) (hk : (decW h a).2.2 = true) : (decW h b).2.2 = true := by
 rw [decW_some hc] at hk ⊢
 rw [List.find?_isSome] at hk ⊢
 obtain ⟨L, hL, hk⟩ := hk
 exact ⟨L, hL, kept_implied hc hi (orders_perm hL) hk⟩
theorem opn_no {r : Nat → Bool} {l : Nat} (ho : opn r l = false) : ∃ k, k < l ∧ r k = false ∧ impB (l : Int) (k : Int) = true := by
 unfold opn opnTo at ho
 rw [List.all_eq_false] at ho
 obtain ⟨k, hk, hn⟩ := ho
 refine ⟨k, List.mem_range.1 hk, ?_⟩
 simpa using hn
theorem shut_no (hc : checkI h = 0) {r : Nat → Bool} {l : Nat} (hr : ∀ i, i < l → r i = (decW h (i : Int)).2.2) (ho : opn r l = false) : (decW h (l : Int)).2.2 = false := by
 obtain ⟨k, hk, h1, h2⟩ := opn_no ho
 cases e : (decW h (l : Int)).2.2 with
 | false => rfl
 | true =>
  have := dec_implied hc h2 e
  rw [← hr k hk, h1] at this
  cases this
theorem vec_row (hc : checkI h = 0) : ∀ j i, (vecTo h j).1 i = (decide (i < j) && (decW h (i : Int)).2.2)
 | 0, i => by simp [vecTo_zero, noB]
 | j + 1, i => by
  have ih := vec_row hc j
  cases ho : opn (vecTo h j).1 j with
  | true =>
   rw [vecTo_open ho]
   show rSet (vecTo h j).1 j _ i = _
   unfold rSet
   by_cases e : i = j
   ·subst e; simp
   ·rw [if_neg e, ih]
    congr 1
    rw [Bool.eq_iff_iff, decide_eq_true_eq, decide_eq_true_eq]; omega
  | false =>
   rw [vecTo_shut ho, ih]
   have hn := shut_no hc (r := (vecTo h j).1) (l := j) (fun i hi => by rw [ih, decide_eq_true hi, Bool.true_and]) ho
   by_cases e : i = j
   ·subst e; rw [hn]; simp
   ·congr 1
    rw [Bool.eq_iff_iff, decide_eq_true_eq, decide_eq_true_eq]; omega
theorem vec_bound (M : Nat) (hM : ∀ l : Nat, l < 12 → (decN h (l : Int)).2.2 ≤ M) : ∀ j, j ≤ 12 → (vecTo h j).2 ≤ j * M
 | 0, _ => by rw [vecTo_zero]; exact Nat.zero_le _
 | j + 1, hj => by
  have ih := vec_bound M hM j (by omega)
  have := hM j (by omega)
  rw [Nat.succ_mul]
  cases ho : opn (vecTo h j).1 j with
  | true => rw [vecTo_open ho]; show (vecTo h j).2 + _ ≤ _; omega
  | false => rw [vecTo_shut ho]; omega
end
def accV (h : List TxnV) (i : Nat) : Bool := (decW h (i : Int)).2.2
def vecF (r : Nat → Bool) (ws : Nat → Value × Value) (i : Nat) : Value := if i < 12 then .bool (r i) else if i % 2 = 0 then (ws ((i - 12) / 2)).1 else (ws ((i - 12) / 2)).2
def vecL (r : Nat → Bool) (ws : Nat → Value × Value) : List Value := (List.range 36).map (vecF r ws)
def wZ0 : Nat → Value × Value := fun _ => (.slice none 0 0, .slice none 0 0)
def updW (ws : Nat → Value × Value) (k : Nat) (u : Value × Value) : Nat → Value × Value := fun i => if i = k then u else ws i
theorem vecL_len (r : Nat → Bool) (ws : Nat → Value × Value) : (vecL r ws).length = 36 := by unfold vecL; simp
theorem vecL_at (r : Nat → Bool) (ws : Nat → Value × Value) {i : Nat} (hi : i < 36) : (vecL r ws)[i]? = some (vecF r ws i) := by unfold vecL; simp [hi]
theorem vecL_congr {r s : Nat → Bool} {ws : Nat → Value × Value} (h : ∀ i, i < 12 → r i = s i) : vecL r ws = vecL s ws := by
 unfold vecL
 refine List.map_congr_left fun i _ => ?_
 unfold vecF
 split
 ·rename_i e; rw [h i e]
 ·rfl
theorem vecL_one {r : Nat → Bool} {ws : Nat → Value × Value} (h : ∀ i, i < 12 → (ws i).1.oneCell' = true ∧ (ws i).2.oneCell' = true) : (vecL r ws).toArray.all (·.oneCell') = true := by
 refine all_oneCell_toArray fun v hv => ?_
 unfold vecL at hv
 obtain ⟨i, hi, rfl⟩ := List.mem_map.1 hv
 have hi := List.mem_range.1 hi
 unfold vecF
 split
 ·rfl
 ·split
  ·exact (h _ (by omega)).1
  ·exact (h _ (by omega)).2
def VecAt (w : World) (g : Nat) (r : Nat → Bool) (ws : Nat → Value × Value) : Prop := ∀ i, i < 36 → w.cell? ⟨g, i, none⟩ = some (vecF r ws i) ∧ w.frozen? ⟨g, i, none⟩ = false
section
variable {w w' : World} {g : Nat} {r : Nat → Bool} {ws : Nat → Value × Value}
theorem VecAt.lt (h : VecAt w g r ws) : g < w.heap.size := block_lt (h 0 (by omega)).1
theorem VecAt.below {B : Nat} (h : VecAt w g r ws) (hb : Below B w w') (hB : g < B) : VecAt w' g r ws := fun i hi => by
 rw [hb.cell (p := ⟨g, i, none⟩) hB, hb.frozen (p := ⟨g, i, none⟩) hB]; exact h i hi
theorem VecAt.grown {row : Option Nat} (h : VecAt w g r ws) (hg : w.grownBy w' row) (hne : some g ≠ row) : VecAt w' g r ws := fun i hi => by
 obtain ⟨h1, h2⟩ := h i hi
 have hb : w'.heap[g]? = w.heap[g]? := hg.block g h.lt hne
 refine ⟨by unfold World.cell? at *; rw [hb]; exact h1, by unfold World.frozen? at *; rw [hb]; exact h2⟩
theorem VecAt.made (w : World) (t : TypeId) (r : Nat → Bool) (ws : Nat → Value × Value) : VecAt (w.alloc (.cells (vecL r ws).toArray t)) w.heap.size r ws := fun i hi => by
 have hn := heap_alloc_new w (.cells (vecL r ws).toArray t)
 refine ⟨?_, frozen_of_row _ _ _ _ _ hn⟩
 rw [cell_of_row _ _ _ _ _ _ hn]
 simpa using vecL_at r ws hi
theorem VecAt.setR (h : VecAt w g r ws) {k : Nat} (hk : k < 12) (v : Bool) : VecAt (w.setCell ⟨g, k, none⟩ (.bool v)) g (rSet r k v) ws := fun i hi => by
 rw [World.frozen?_setCell]
 refine ⟨?_, (h i hi).2⟩
 by_cases e : i = k
 ·subst e
  rw [World.cell?_setCell_same _ _ _ (h i hi).1]
  unfold vecF rSet; rw [if_pos hk, if_pos rfl]
 ·rw [World.cell?_setCell_other _ _ _ _ (fun q => by injection q with q1 q2; exact e q2.symm), (h i hi).1]
  unfold vecF rSet
  split
  ·rfl
  ·rfl
theorem VecAt.setW (h : VecAt w g r ws) {k : Nat} (hk : k < 12) (x y : Value) : VecAt (w.setCells g (12 + 2 * k) [x, y]) g r (updW ws k (x, y)) := fun i hi => by
 have e : w.setCells g (12 + 2 * k) [x, y] = (w.setCell ⟨g, 12 + 2 * k, none⟩ x).setCell ⟨g, 12 + 2 * k + 1, none⟩ y := rfl
 rw [e, World.frozen?_setCell, World.frozen?_setCell]
 refine ⟨?_, (h i hi).2⟩
 by_cases e0 : i = 12 + 2 * k
 ·subst e0
  rw [World.cell?_setCell_other _ _ _ _ (fun q => by injection q with q1 q2; omega), World.cell?_setCell_same _ _ _ (h _ hi).1]
  unfold vecF updW
  rw [if_neg (by omega), if_pos (by omega), if_pos (by omega)]
 ·by_cases e1 : i = 12 + 2 * k + 1
  ·subst e1
   have hc : (w.setCell ⟨g, 12 + 2 * k, none⟩ x).cell? ⟨g, 12 + 2 * k + 1, none⟩ = some (vecF r ws (12 + 2 * k + 1)) := by
    rw [World.cell?_setCell_other _ _ _ _ (fun q => by injection q with q1 q2; omega)]; exact (h _ hi).1
   rw [World.cell?_setCell_same _ _ _ hc]
   unfold vecF updW
   rw [if_neg (by omega), if_neg (by omega), if_pos (by omega)]
  ·rw [World.cell?_setCell_other _ _ _ _ (fun q => by injection q with q1 q2; omega), World.cell?_setCell_other _ _ _ _ (fun q => by injection q with q1 q2; omega), (h i hi).1]
   unfold vecF updW
   split
   ·rfl
   ·rw [if_neg (show ¬ (i - 12) / 2 = k by omega)]
theorem VecAt.row (h : VecAt w g r ws) : w.rangeAt g 0 (rowB r).toList := fun j v hv => by
 have hj : j < 12 := by
  have := (List.getElem?_eq_some_iff.1 hv).1
  simpa [rowB] using this
 rw [Nat.zero_add, (h j (by omega)).1, ← hv]
 unfold vecF
 rw [if_pos hj]
 simp [rowB, hj]
theorem VecAt.all (h : VecAt w g r ws) : w.rangeAt g 0 (vecL r ws) := fun j v hv => by
 have hj : j < 36 := by
  have := (List.getElem?_eq_some_iff.1 hv).1
  rwa [vecL_len] at this
 rw [Nat.zero_add, (h j hj).1, ← hv, vecL_at r ws hj]
theorem VecAt.there (h : VecAt w g r ws) {o n : Nat} (ho : o + n ≤ 36) : w.there g o n := fun j hj => by
 obtain ⟨h1, h2⟩ := h (o + j) (by omega)
 exact ⟨by rw [h1]; rfl, h2⟩
theorem VecAt.put (h : VecAt w g r ws) (s : Nat → Bool) (us : Nat → Value × Value) : VecAt (w.setCells g 0 (vecL s us)) g s us := fun i hi => by
 rw [World.frozen?_setCells]
 refine ⟨?_, (h i hi).2⟩
 have := World.cell?_setCells_in g (vecL s us) 0 w (fun j hj => by rw [vecL_len] at hj; rw [Nat.zero_add, (h j hj).1]; rfl) i (by rw [vecL_len]; exact hi)
 rw [Nat.zero_add] at this
 rw [this]
 unfold vecL; simp
end
section
variable {w w' : World} {b0 : Nat} {vo vs : Value} {l : List Int} {LL : List (List Int)}
theorem OwnW.nil (w : World) (b0 : Nat) : OwnW w b0 (.slice none 0 0) (.slice none 0 0) [] [] := ⟨World.ownsRow_nil _ _ _ _, [], OwnK.nil _ _, rfl⟩
theorem OwnW.below (h : OwnW w b0 vo vs l LL) (hb : Below w.heap.size w w') : OwnW w' b0 vo vs l LL := by
 obtain ⟨h1, KL, h2, h3⟩ := h
 exact ⟨owns_below h1 hb, KL, h2.below hb, h3⟩
theorem OwnW.base {b1 : Nat} (h : OwnW w b0 vo vs l LL) (hb : b1 ≤ b0) : OwnW w b1 vo vs l LL := by
 obtain ⟨h1, KL, h2, h3⟩ := h
 exact ⟨own_base' h1 hb, KL, h2.base hb, h3⟩
theorem own_row_ne {e : TypeId} {s n T : Nat} {v : Value} {xs : List Value} (h : w.ownsRow b0 e s v n xs) (hT : T < b0) : v.ownBlock = none ∨ v.ownBlock ≠ some T := by
 rcases h.2 with ⟨rfl, _⟩ | ⟨g, cap, cur, rfl, _, _, _⟩
 ·exact .inl rfl
 ·right
  intro e
  have := (h.lt _ e).1
  omega
theorem OwnW.kept {T : Nat} (h : OwnW w b0 vo vs l LL) (hg : w.grownBy w' (some T)) (hT : T < b0) : OwnW w' b0 vo vs l LL := by
 obtain ⟨h1, KL, h2, h3⟩ := h
 exact ⟨World.ownsRow.kept h1 hg (own_row_ne h1 hT), KL, ⟨World.ownsRow.kept h2.kr hg (own_row_ne h2.kr hT), fun p hp => World.ownsRow.kept (h2.ke p hp) hg (own_row_ne (h2.ke p hp) hT)⟩, h3⟩
theorem OwnW.far (h : OwnW w b0 vo vs l LL) {p : Addr} (hp : p.block < b0) (u : Value) : OwnW (w.setCell p u) b0 vo vs l LL := by
 obtain ⟨h1, KL, h2, h3⟩ := h
 exact ⟨pl_far h1 hp u, KL, h2.far hp u, h3⟩
theorem OwnW.cells (h : OwnW w b0 vo vs l LL) {g : Nat} (hg : g < b0) (o : Nat) (xs : List Value) : OwnW (w.setCells g o xs) b0 vo vs l LL := by
 obtain ⟨h1, KL, h2, h3⟩ := h
 exact ⟨owns_cells hg xs o w h1, KL, ⟨owns_cells hg xs o w h2.kr, fun p hp => owns_cells hg xs o w (h2.ke p hp)⟩, h3⟩
theorem OwnW.form (h : OwnW w b0 vo vs l LL) : ∃ oo n oc so m sc, vo = .slice oo n oc ∧ vs = .slice so m sc := by
 obtain ⟨h1, KL, h2, _⟩ := h
 obtain ⟨oo, oc, e1⟩ := own_form h1
 obtain ⟨so, sc, e2⟩ := own_form h2.kr
 exact ⟨oo, _, oc, so, _, sc, e1, e2⟩
end
section
variable {w0 w : World} {B b : Nat} {h : List TxnV}
theorem sdecide_own (lv : Int) (T F U : Nat) (hO : OrdIs w0 B b h) (ht : Tab w0) (hK : Kinds w0) (hc : checkI h = 0) (hb : Below w0.heap.size w0 w) (hT : w0.heap.size ≤ T) (hm : MtAt w T F U)
  (hM : (decN h lv).2.2 + 2 ≤ 1099511627776) (hU : F = 4611686018427387904 → U + (decN h lv).2.2 ≤ 4611686018427387904) (hl : Lasts F U (decN h lv).2.2) :
  Calls Tryz.prog 18 #[.pointer (some ⟨B, 0, none⟩), .int .i64 lv, .pointer (some ⟨T, 0, none⟩)] w fun e w' =>
   ∃ vo vs, e = .returned (.tuple #[.agg #[vo, vs], .bool (decW h lv).2.2, .int .i64 0]) ∧ OwnW w' w.heap.size vo vs (decW h lv).1 (decW h lv).2.1 ∧ MtAt w' T F (U + (decN h lv).2.2) ∧ w.grownBy w' (some T) := by
 refine (sdecide_any lv T F U hO ht hK hc hb hT hm hM hU).mono ?_
 rintro e w' ⟨hg, hr⟩
 rcases hr with ⟨_, hm', hr⟩ | ⟨hn, _⟩
 ·rcases hr with ⟨hd, rfl⟩ | ⟨r, vo, vs, hd, _, _, rfl, _, _, hW⟩
  ·refine ⟨_, _, by rw [decW_yes, hd]; rfl, ?_, hm', hg⟩
   unfold decW; rw [hd]; exact OwnW.nil _ _
  ·refine ⟨vo, vs, by rw [decW_yes, hd]; rfl, ?_, hm', hg⟩
   unfold decW; rw [hd]; exact hW
 ·exact (hn hl).elim
end
theorem results_vec {fn : Func} {p u : Tmp} (h : fn.results = #[.cell p 52, .tmp u]) (tmps : Array Value) (w : World) (g : Nat) (r : Nat → Bool) (ws : Nat → Value × Value)
  (hp : tmps.getD p undef = .pointer (some ⟨g, 0, none⟩)) (hg : VecAt w g r ws) : (results fn tmps).run Tryz.prog w = .ok (.tuple #[.agg (vecL r ws).toArray, tmps.getD u undef]) w := by
 have hp' : tmps[p]?.getD undef = .pointer (some ⟨g, 0, none⟩) := by simpa using hp
 simp [results, h, hp', asAddr, run_loadVar_mid w g 0 52 (vecL r ws) _ hg.all Tryz.underlying52 rfl (by kernel_rfl)]
end

section
theorem zA7 {α : Type _} (l : List α) (i : Nat) (a : α) : l.toArray.setIfInBounds i a = (l.set i a).toArray := List.setIfInBounds_toArray ..
theorem zB7 {α : Type _} {x : α} {xs : List α} {a : α} : (x :: xs).set 0 a = a :: xs := List.set_cons_zero
theorem zC7 {α : Type _} {x : α} {xs : List α} {i : Nat} {a : α} : (x :: xs).set (i + 1) a = x :: xs.set i a := List.set_cons_succ
theorem tG7 {P : Program} {ops : Array Oper} {Q : Exit → Act → World → Prop} {md : Region.Mode} {S : World → Prop} (d : Option Tmp) (i : Nat) {oi : Oper} (v : Value) {fuel : Nat} {listed : Array Bool} {a : Act} {w : World} (hi : ops[i]? = some oi) (hd : oi.dst = d)
 (hy : YieldsIf P ops S oi v a) (hS : S w) (h : wpAnyH P md ops Q S fuel (listed.setIfInBounds i true) (a.put d v) w)
 (hs : Region.noSelect ops = true := by kernel_rfl) (hf : Region.free md ops listed i = true := by kernel_rfl) (hr : (Region.ready md ops listed).contains i = true := by kernel_rfl)
 (hQ : ∀ c a w, Q (.panic c) (a.put oi.dst v) w → Q (.panic c) a w := by exact fun _ _ _ h => h) : wpAnyH P md ops Q S (fuel + 1) listed a w := takeG d hi hd hs hf hr hQ hy hS h
theorem tA7 {P : Program} {ops : Array Oper} {Q : Exit → Act → World → Prop} {md : Region.Mode} {S : World → Prop} (d : Option Tmp) (i : Nat) {oi : Oper} {v : Value} {fuel : Nat} {listed : Array Bool} {a : Act} {w : World} (hi : ops[i]? = some oi) (hd : oi.dst = d)
 (hS : S w) (h : wpAnyH P md ops Q S fuel (listed.setIfInBounds i true) (a.put d v) w)
 (hy : YieldsIf P ops S oi v a := by exact Or.inl ⟨by rfl, by intro w _; go_simp; try (with_reducible rfl)⟩)
 (hs : Region.noSelect ops = true := by kernel_rfl) (hf : Region.free md ops listed i = true := by kernel_rfl) (hr : (Region.ready md ops listed).contains i = true := by kernel_rfl)
 (hQ : ∀ c a w, Q (.panic c) (a.put oi.dst v) w → Q (.panic c) a w := by exact fun _ _ _ h => h) : wpAnyH P md ops Q S (fuel + 1) listed a w := takeG d hi hd hs hf hr hQ hy hS h
theorem rD7 {P : Program} {ops : Array Oper} {Q : Exit → Act → World → Prop} {md : Region.Mode} {S : World → Prop} {fuel : Nat} {listed : Array Bool} {a : Act} {w : World} (i : Nat) {o : Oper} (ho : ops[i]? = some o)
 (h : ∀ K' : Act → World → Prop, Go.Shut (∀ a w, S w → (S w → wpAnyH P md ops Q S fuel (listed.setIfInBounds i true) a w) → K' a w) → if Region.wanted o (yielded ops a.tmps) = true then Oper.wp P o a w K' Q else K' (a.put o.dst undef) w)
 (hr : Region.ready md ops listed = [i] := by kernel_rfl) : wpAnyH P md ops Q S (fuel + 1) listed a w := wpAnyH_ready hr (by simp) (AllReadyH.cons ho h AllReadyH.nil)
end
section
open Go.RowKit
theorem vec_zero : #[.bool false, .bool false, .bool false, .bool false, .bool false, .bool false, .bool false, .bool false, .bool false, .bool false, .bool false, .bool false, .slice none 0 0, .slice none 0 0, .slice none 0 0, .slice none 0 0, .slice none 0 0, .slice none 0 0, .slice none 0 0, .slice none 0 0, .slice none 0 0, .slice none 0 0, .slice none 0 0, .slice none 0 0, .slice none 0 0, .slice none 0 0, .slice none 0 0, .slice none 0 0, .slice none 0 0, .slice none 0 0, .slice none 0 0, .slice none 0 0, .slice none 0 0, .slice none 0 0, .slice none 0 0, .slice none 0 0] = (vecL noB wZ0).toArray := by kernel_rfl
theorem VecAt.zero (w : World) : VecAt (w.alloc (.cells #[.bool false, .bool false, .bool false, .bool false, .bool false, .bool false, .bool false, .bool false, .bool false, .bool false, .bool false, .bool false, .slice none 0 0, .slice none 0 0, .slice none 0 0, .slice none 0 0, .slice none 0 0, .slice none 0 0, .slice none 0 0, .slice none 0 0, .slice none 0 0, .slice none 0 0, .slice none 0 0, .slice none 0 0, .slice none 0 0, .slice none 0 0, .slice none 0 0, .slice none 0 0, .slice none 0 0, .slice none 0 0, .slice none 0 0, .slice none 0 0, .slice none 0 0, .slice none 0 0, .slice none 0 0, .slice none 0 0] 52)) w.heap.size noB wZ0 := by rw [vec_zero]; exact VecAt.made w _ noB wZ0
def VofRes (h : List TxnV) (F : Nat) (w : World) (e : Ending) (w' : World) : Prop :=
 Below w.heap.size w w' ∧ ((Lasts F 0 (vecTo h 12).2 ∧ ∃ ws, e = .returned (.tuple #[.agg (vecL (accV h) ws).toArray, .int .i64 0]) ∧ ∀ i, i < 12 → OwnW w' w.heap.size (ws i).1 (ws i).2 (decW h (i : Int)).1 (decW h (i : Int)).2.1) ∨
  (¬ Lasts F 0 (vecTo h 12).2 ∧ e = .returned (.tuple #[.agg (vecL noB wZ0).toArray, .int .i64 4])))
structure VecOn (h : List TxnV) (w : World) (g b0 k : Nat) (ws : Nat → Value × Value) (W : World) : Prop where
 at_ : VecAt W g (vecTo h k).1 ws
 own : ∀ i, i < 12 → OwnW W b0 (ws i).1 (ws i).2 (if i < k then (decW h (i : Int)).1 else []) (if i < k then (decW h (i : Int)).2.1 else [])
 bel : Below w.heap.size w W
section
variable {h : List TxnV} {w W W' : World} {g b0 k : Nat} {ws : Nat → Value × Value}
theorem VecOn.grown {T : Nat} (q : VecOn h w g b0 k ws W) (hg : W.grownBy W' (some T)) (hT : T < b0) (hgT : g ≠ T) (hw : w.heap.size ≤ T) : VecOn h w g b0 k ws W' :=
 ⟨q.at_.grown hg (fun e => hgT (Option.some.inj e)), fun i hi => (q.own i hi).kept hg hT, q.bel.grown hg q.bel.size (fun j hj => by cases hj; exact hw)⟩
theorem VecOn.below (q : VecOn h w g b0 k ws W) (hb : Below W.heap.size W W') : VecOn h w g b0 k ws W' := ⟨q.at_.below hb q.at_.lt, fun i hi => (q.own i hi).below hb, below_then q.bel hb⟩
theorem heap_three (w : World) (g k o : Nat) (a x y : Value) {j : Nat} (hj : j ≠ g) : ((w.setCell ⟨g, k, none⟩ a).setCells g o [x, y]).heap[j]? = w.heap[j]? := by
 have e : (w.setCell ⟨g, k, none⟩ a).setCells g o [x, y] = ((w.setCell ⟨g, k, none⟩ a).setCell ⟨g, o, none⟩ x).setCell ⟨g, o + 1, none⟩ y := rfl
 rw [e, Below.heap_setCell _ _ _ _ hj, Below.heap_setCell _ _ _ _ hj, Below.heap_setCell _ _ _ _ hj]
theorem VecAt.apart {r : Nat → Bool} (h : VecAt w g r ws) {g' : Nat} (hne : g ≠ g') (i o : Nat) (a x y : Value) : VecAt ((w.setCell ⟨g', i, none⟩ a).setCells g' o [x, y]) g r ws := fun j hj => by
 obtain ⟨h1, h2⟩ := h j hj
 have hb := heap_three w g' i o a x y hne
 exact ⟨by unfold World.cell? at *; rw [hb]; exact h1, by unfold World.frozen? at *; rw [hb]; exact h2⟩
theorem MtAt.apart {T F U : Nat} (h : MtAt w T F U) {g' : Nat} (hne : T ≠ g') (i o : Nat) (a x y : Value) : MtAt ((w.setCell ⟨g', i, none⟩ a).setCells g' o [x, y]) T F U := h.block (heap_three w g' i o a x y hne)
theorem VecOn.shut (q : VecOn h w g b0 k ws W) (hc : checkI h = 0) (ho : opn (vecTo h k).1 k = false) : VecOn h w g b0 (k + 1) ws W := by
 refine ⟨by rw [vecTo_shut ho]; exact q.at_, fun i hi => ?_, q.bel⟩
 have h1 := q.own i hi
 by_cases e : i < k
 ·rw [if_pos e] at h1; rw [if_pos e] at h1; rw [if_pos (show i < k + 1 by omega), if_pos (show i < k + 1 by omega)]; exact h1
 ·rw [if_neg e] at h1; rw [if_neg e] at h1
  by_cases e2 : i = k
  ·subst e2
   have hn := shut_no hc (r := (vecTo h i).1) (l := i) (fun j hj => by rw [vec_row hc, decide_eq_true hj, Bool.true_and]) ho
   obtain ⟨e3, e4⟩ := decW_none h (i : Int) hn
   rw [if_pos (show i < i + 1 by omega), if_pos (show i < i + 1 by omega), e3, e4]; exact h1
  ·rw [if_neg (show ¬ i < k + 1 by omega), if_neg (show ¬ i < k + 1 by omega)]; exact h1
theorem VecOn.more (q : VecOn h w g b0 k ws W) (hk : k < 12) (ho : opn (vecTo h k).1 k = true) (hgb : g < b0) (hgw : w.heap.size ≤ g) {vo vs : Value} (hW : OwnW W b0 vo vs (decW h (k : Int)).1 (decW h (k : Int)).2.1) :
  VecOn h w g b0 (k + 1) (updW ws k (vo, vs)) ((W.setCell ⟨g, k, none⟩ (.bool (decW h (k : Int)).2.2)).setCells g (12 + 2 * k) [vo, vs]) := by
 have hs : ∀ x y : Value, (W.setCells g (12 + 2 * k) [x, y]) = (W.setCell ⟨g, 12 + 2 * k, none⟩ x).setCell ⟨g, 12 + 2 * k + 1, none⟩ y := fun _ _ => rfl
 have ha := (q.at_.setR hk (decW h (k : Int)).2.2).setW hk vo vs
 have hf : ∀ {vo' vs' : Value} {l : List Int} {LL : List (List Int)}, OwnW W b0 vo' vs' l LL → OwnW ((W.setCell ⟨g, k, none⟩ (.bool (decW h (k : Int)).2.2)).setCells g (12 + 2 * k) [vo, vs]) b0 vo' vs' l LL := fun hq =>
  ((hq.far (p := ⟨g, k, none⟩) hgb _).far (p := ⟨g, 12 + 2 * k, none⟩) hgb vo).far (p := ⟨g, 12 + 2 * k + 1, none⟩) hgb vs
 refine ⟨by rw [vecTo_open ho]; exact ha, fun i hi => ?_, ?_⟩
 ·have h1 := q.own i hi
  unfold updW
  by_cases e2 : i = k
  ·subst e2
   rw [if_pos rfl, if_pos (show i < i + 1 by omega), if_pos (show i < i + 1 by omega)]
   exact hf hW
  ·rw [if_neg e2]
   by_cases e : i < k
   ·rw [if_pos e] at h1; rw [if_pos e] at h1; rw [if_pos (show i < k + 1 by omega), if_pos (show i < k + 1 by omega)]; exact hf h1
   ·rw [if_neg e] at h1; rw [if_neg e] at h1; rw [if_neg (show ¬ i < k + 1 by omega), if_neg (show ¬ i < k + 1 by omega)]; exact hf h1
 ·exact ((q.bel.setCell (p := ⟨g, k, none⟩) hgw _).setCell (p := ⟨g, 12 + 2 * k, none⟩) hgw vo).setCell (p := ⟨g, 12 + 2 * k + 1, none⟩) hgw vs
end
theorem vof_any {w0 w : World} {B b : Nat} {h : List TxnV} (much : Int) (F : Nat) (hF : fuelN much = F) (hO : OrdIs w0 B b h) (ht : Tab w0) (hK : Kinds w0) (hc : checkI h = 0) (hb : Below w0.heap.size w0 w) (hM : ∀ l : Nat, l < 12 → (decN h (l : Int)).2.2 + 2 ≤ 1099511627776) :
  Calls Tryz.prog 23 #[.pointer (some ⟨B, 0, none⟩), .int .i64 much] w fun e w' => VofRes h F w e w' := by
 have CN := hid (fun wx => fnew_any much wx)
 rw [hF] at CN
 have hw0 := hb.size
 have HB0 : Hid (∀ wx, Below w.heap.size w wx → Below w0.heap.size w0 wx) := hid (fun wx hx => hb.trans (hx.mono hb.size))
 have CO := hid (fun (r : Nat → Bool) (l : Nat) wx (hl : l ≤ 12) (hx : Below w.heap.size w wx) => vopen_any r l wx hl (hK.below (hb.trans (hx.mono hb.size))))
 have hbd : ∀ j, j ≤ 12 → (vecTo h j).2 ≤ j * 1099511627776 := vec_bound 1099511627776 (fun (l : Nat) hl => by have := hM l hl; omega)
 have CD := hid (fun (l : Nat) (T F : Nat) wx (hl : l < 12) (hx : Below w.heap.size w wx) (hT : w.heap.size ≤ T) hm (hla : Lasts F (vecTo h l).2 (decN h (l : Int)).2.2) => sdecide_own (w := wx) (l : Int) T F (vecTo h l).2 hO ht hK hc (hb.trans (hx.mono hb.size)) (Nat.le_trans hw0 hT) hm (hM l hl) (fun _ => by have h1 := hM l hl; have h2 := hbd l (by omega); have h3 : l * 1099511627776 ≤ 12 * 1099511627776 := Nat.mul_le_mul_right _ (by omega); omega) hla)
 have CZ := hid (fun (l : Nat) (T F : Nat) wx (hl : l < 12) (hx : Below w.heap.size w wx) (hT : w.heap.size ≤ T) hm (hla : ¬ Lasts F (vecTo h l).2 (decN h (l : Int)).2.2) => sdecide_no (w := wx) (l : Int) T F (vecTo h l).2 hO ht hK hc (hb.trans (hx.mono hb.size)) (Nat.le_trans hw0 hT) hm (hM l hl) hla)
 have HC := hid hc
 clear hO ht hK hc hb hM hbd hw0 hF
 go_enter Tryz.func23, Tryz.ntmps23
 go_upto_region 2 with fail
 have V1 := VecAt.zero w
 have V2 := VecAt.zero (w.alloc (.cells #[.bool false, .bool false, .bool false, .bool false, .bool false, .bool false, .bool false, .bool false, .bool false, .bool false, .bool false, .bool false, .slice none 0 0, .slice none 0 0, .slice none 0 0, .slice none 0 0, .slice none 0 0, .slice none 0 0, .slice none 0 0, .slice none 0 0, .slice none 0 0, .slice none 0 0, .slice none 0 0, .slice none 0 0, .slice none 0 0, .slice none 0 0, .slice none 0 0, .slice none 0 0, .slice none 0 0, .slice none 0 0, .slice none 0 0, .slice none 0 0, .slice none 0 0, .slice none 0 0, .slice none 0 0, .slice none 0 0] 52))
 have hs1 : (w.alloc (.cells #[.bool false, .bool false, .bool false, .bool false, .bool false, .bool false, .bool false, .bool false, .bool false, .bool false, .bool false, .bool false, .slice none 0 0, .slice none 0 0, .slice none 0 0, .slice none 0 0, .slice none 0 0, .slice none 0 0, .slice none 0 0, .slice none 0 0, .slice none 0 0, .slice none 0 0, .slice none 0 0, .slice none 0 0, .slice none 0 0, .slice none 0 0, .slice none 0 0, .slice none 0 0, .slice none 0 0, .slice none 0 0, .slice none 0 0, .slice none 0 0, .slice none 0 0, .slice none 0 0, .slice none 0 0, .slice none 0 0] 52)).heap.size = w.heap.size + 1 := by simp
 have hs2 : ((w.alloc (.cells #[.bool false, .bool false, .bool false, .bool false, .bool false, .bool false, .bool false, .bool false, .bool false, .bool false, .bool false, .bool false, .slice none 0 0, .slice none 0 0, .slice none 0 0, .slice none 0 0, .slice none 0 0, .slice none 0 0, .slice none 0 0, .slice none 0 0, .slice none 0 0, .slice none 0 0, .slice none 0 0, .slice none 0 0, .slice none 0 0, .slice none 0 0, .slice none 0 0, .slice none 0 0, .slice none 0 0, .slice none 0 0, .slice none 0 0, .slice none 0 0, .slice none 0 0, .slice none 0 0, .slice none 0 0, .slice none 0 0] 52)).alloc (.cells #[.bool false, .bool false, .bool false, .bool false, .bool false, .bool false, .bool false, .bool false, .bool false, .bool false, .bool false, .bool false, .slice none 0 0, .slice none 0 0, .slice none 0 0, .slice none 0 0, .slice none 0 0, .slice none 0 0, .slice none 0 0, .slice none 0 0, .slice none 0 0, .slice none 0 0, .slice none 0 0, .slice none 0 0, .slice none 0 0, .slice none 0 0, .slice none 0 0, .slice none 0 0, .slice none 0 0, .slice none 0 0, .slice none 0 0, .slice none 0 0, .slice none 0 0, .slice none 0 0, .slice none 0 0, .slice none 0 0] 52)).heap.size = w.heap.size + 1 + 1 := by simp
 rw [hs1] at V2
 have V1 := V1.below (box_below _ (.cells #[.bool false, .bool false, .bool false, .bool false, .bool false, .bool false, .bool false, .bool false, .bool false, .bool false, .bool false, .bool false, .slice none 0 0, .slice none 0 0, .slice none 0 0, .slice none 0 0, .slice none 0 0, .slice none 0 0, .slice none 0 0, .slice none 0 0, .slice none 0 0, .slice none 0 0, .slice none 0 0, .slice none 0 0, .slice none 0 0, .slice none 0 0, .slice none 0 0, .slice none 0 0, .slice none 0 0, .slice none 0 0, .slice none 0 0, .slice none 0 0, .slice none 0 0, .slice none 0 0, .slice none 0 0, .slice none 0 0] 52)) (by rw [hs1]; omega)
 have hb2 : Below w.heap.size w ((w.alloc (.cells #[.bool false, .bool false, .bool false, .bool false, .bool false, .bool false, .bool false, .bool false, .bool false, .bool false, .bool false, .bool false, .slice none 0 0, .slice none 0 0, .slice none 0 0, .slice none 0 0, .slice none 0 0, .slice none 0 0, .slice none 0 0, .slice none 0 0, .slice none 0 0, .slice none 0 0, .slice none 0 0, .slice none 0 0, .slice none 0 0, .slice none 0 0, .slice none 0 0, .slice none 0 0, .slice none 0 0, .slice none 0 0, .slice none 0 0, .slice none 0 0, .slice none 0 0, .slice none 0 0, .slice none 0 0, .slice none 0 0] 52)).alloc (.cells #[.bool false, .bool false, .bool false, .bool false, .bool false, .bool false, .bool false, .bool false, .bool false, .bool false, .bool false, .bool false, .slice none 0 0, .slice none 0 0, .slice none 0 0, .slice none 0 0, .slice none 0 0, .slice none 0 0, .slice none 0 0, .slice none 0 0, .slice none 0 0, .slice none 0 0, .slice none 0 0, .slice none 0 0, .slice none 0 0, .slice none 0 0, .slice none 0 0, .slice none 0 0, .slice none 0 0, .slice none 0 0, .slice none 0 0, .slice none 0 0, .slice none 0 0, .slice none 0 0, .slice none 0 0, .slice none 0 0] 52)) := below_then (box_below w (.cells #[.bool false, .bool false, .bool false, .bool false, .bool false, .bool false, .bool false, .bool false, .bool false, .bool false, .bool false, .bool false, .slice none 0 0, .slice none 0 0, .slice none 0 0, .slice none 0 0, .slice none 0 0, .slice none 0 0, .slice none 0 0, .slice none 0 0, .slice none 0 0, .slice none 0 0, .slice none 0 0, .slice none 0 0, .slice none 0 0, .slice none 0 0, .slice none 0 0, .slice none 0 0, .slice none 0 0, .slice none 0 0, .slice none 0 0, .slice none 0 0, .slice none 0 0, .slice none 0 0, .slice none 0 0, .slice none 0 0] 52)) (box_below _ (.cells #[.bool false, .bool false, .bool false, .bool false, .bool false, .bool false, .bool false, .bool false, .bool false, .bool false, .bool false, .bool false, .slice none 0 0, .slice none 0 0, .slice none 0 0, .slice none 0 0, .slice none 0 0, .slice none 0 0, .slice none 0 0, .slice none 0 0, .slice none 0 0, .slice none 0 0, .slice none 0 0, .slice none 0 0, .slice none 0 0, .slice none 0 0, .slice none 0 0, .slice none 0 0, .slice none 0 0, .slice none 0 0, .slice none 0 0, .slice none 0 0, .slice none 0 0, .slice none 0 0, .slice none 0 0, .slice none 0 0] 52))
 generalize (w.alloc (.cells #[.bool false, .bool false, .bool false, .bool false, .bool false, .bool false, .bool false, .bool false, .bool false, .bool false, .bool false, .bool false, .slice none 0 0, .slice none 0 0, .slice none 0 0, .slice none 0 0, .slice none 0 0, .slice none 0 0, .slice none 0 0, .slice none 0 0, .slice none 0 0, .slice none 0 0, .slice none 0 0, .slice none 0 0, .slice none 0 0, .slice none 0 0, .slice none 0 0, .slice none 0 0, .slice none 0 0, .slice none 0 0, .slice none 0 0, .slice none 0 0, .slice none 0 0, .slice none 0 0, .slice none 0 0, .slice none 0 0] 52)).alloc (.cells #[.bool false, .bool false, .bool false, .bool false, .bool false, .bool false, .bool false, .bool false, .bool false, .bool false, .bool false, .bool false, .slice none 0 0, .slice none 0 0, .slice none 0 0, .slice none 0 0, .slice none 0 0, .slice none 0 0, .slice none 0 0, .slice none 0 0, .slice none 0 0, .slice none 0 0, .slice none 0 0, .slice none 0 0, .slice none 0 0, .slice none 0 0, .slice none 0 0, .slice none 0 0, .slice none 0 0, .slice none 0 0, .slice none 0 0, .slice none 0 0, .slice none 0 0, .slice none 0 0, .slice none 0 0, .slice none 0 0] 52) = w2 at *
 clear hs1
 go_wp2_with fail
 refine (CN.out _).mono ?_
 rintro e w3 ⟨T, rfl, hm, hT, hb3⟩
 have hTl := hm.lt
 have q0 : VecOn h w (w.heap.size + 1) (T + 1) 0 wZ0 w3 := ⟨by rw [vecTo_zero]; exact V2.below hb3 (by omega), fun i _ => by rw [if_neg (by omega), if_neg (by omega)]; exact OwnW.nil _ _, below_then hb2 hb3⟩
 have V1 := V1.below hb3 (by omega)
 clear CN V2 hb2
 go_wp2_with fail
 go_loopw [14] (fun i wr => ∃ k : Nat, k ≤ 12 ∧ i = .int .i64 k ∧ ∃ ws, VecOn h w (w.heap.size + 1) (T + 1) k ws wr ∧ VecAt wr w.heap.size noB wZ0 ∧ MtAt wr T F (vecTo h k).2 ∧ Lasts F 0 (vecTo h k).2) (fun i _ => 12 - (intOf i).toNat)
 case atStart => exact ⟨0, by omega, rfl, wZ0, q0, V1, by rw [vecTo_zero]; exact hm, by
   rw [vecTo_zero]
   by_cases e : F = 4611686018427387904
   ·exact .inl e
   ·exact .inr (by omega)⟩
 case round =>
  obtain ⟨k, hk, rfl, ws, q, v1, hm, hla⟩ := hrel
  have hTl := hm.lt
  have hkq := q.at_.lt
  by_cases hlt : k < 12
  ·have hki : (k : Int) < 12 := by omega
   have hrow := q.at_.row
   have CO1 := hid (CO.out (vecTo h k).1 k wr (by omega) q.bel)
   cases ho : opn (vecTo h k).1 k with
   | false =>
    rw [ho] at CO1
    have HS := hid (q.shut HC.out ho)
    have HM : Hid (MtAt wr T F (vecTo h (k + 1)).2 ∧ Lasts F 0 (vecTo h (k + 1)).2) := hid (by rw [vecTo_shut ho]; exact ⟨hm, hla⟩)
    clear q hm hla ho CO CD CZ HC
    go_wp2_with (with_reducible refine wpList_load_mid rfl 49 _ rfl (w.heap.size + 1) 0 rfl (rowB (vecTo h k).1).toList _ hrow Tryz.underlying49 rfl (by kernel_rfl) ?_)
    refine CO1.out.mono ?_
    rintro e w4 ⟨rfl, h4⟩
    have HS4 := hid (HS.out.below h4)
    have HM4 := hid (HM.out.1.below h4 hTl)
    have v4 := v1.below h4 v1.lt
    have HLA := hid HM.out.2
    clear HS HM h4 v1 hrow CO1
    go_wp2_with fail
    go_roundw
    case rel => exact ⟨k + 1, by omega, by go_num, ws, HS4.out, v4, HM4.out, HLA.out⟩
    case measure => simp [intOf]; omega
   | true =>
    rw [ho] at CO1
    have HO := hid ho
    have Q := hid q
    have HM := hid hm
    have HLA := hid hla
    have HTT : Hid (w.heap.size ≤ T ∧ T ≠ w.heap.size + 1 ∧ T ≠ w.heap.size) := hid ⟨by omega, by omega, by omega⟩
    clear q hm hla ho
    go_wp2_with (with_reducible refine wpList_load_mid rfl 49 _ rfl (w.heap.size + 1) 0 rfl (rowB (vecTo h k).1).toList _ hrow Tryz.underlying49 rfl (by kernel_rfl) ?_)
    refine CO1.out.mono ?_
    rintro e w4 ⟨rfl, h4⟩
    have q4 := Q.out.below h4
    have hm4 := HM.out.below h4 hTl
    have v4 := v1.below h4 v1.lt
    clear hrow CO1 Q HM v1
    by_cases hl2 : Lasts F (vecTo h k).2 (decN h (k : Int)).2.2
    ·have CD1 := hid (CD.out k T F w4 hlt q4.bel HTT.out.1 hm4 hl2)
     have HL2 : Hid (Lasts F 0 (vecTo h (k + 1)).2) := hid (by
      rw [vecTo_open HO.out]
      rcases hl2 with e | e
      ·exact .inl e
      ·exact .inr (by show 0 + (_ + _) ≤ F; omega))
     have Q := hid q4
     have HT4 := hm4.lt
     clear q4 hm4 hl2 CO CD CZ HLA h4
     go_wp2_with fail
     refine CD1.out.mono ?_
     rintro e w5 ⟨vo, vs, rfl, hW, hm5, hg5⟩
     obtain ⟨oo, no, oc, so, ns, sc, rfl, rfl⟩ := hW.form
     have q5 := Q.out.grown hg5 (by omega) (by have := HTT.out.2.1; omega) HTT.out.1
     have v5 := v4.grown hg5 (fun e => by have := HTT.out.2.2; injection e; omega)
     have hW := hW.base (show T + 1 ≤ w4.heap.size by omega)
     have hbx := box_below w5 (.cells #[.slice oo no oc, .slice so ns sc] 39)
     have WT := WitT.made w5 (.slice oo no oc) (.slice so ns sc) 39
     have q6 := q5.below hbx
     have v6 := v5.below hbx v5.lt
     have hW := hW.below hbx
     have hm6 := hm5.below hbx hm5.lt
     have hs6 : (w5.alloc (.cells #[.slice oo no oc, .slice so ns sc] 39)).heap.size = w5.heap.size + 1 := by simp
     have hq5 := q5.at_.lt
     have hM6 : MtAt (w5.alloc (.cells #[.slice oo no oc, .slice so ns sc] 39)) T F (vecTo h (k + 1)).2 := by rw [vecTo_open HO.out]; exact hm6
     clear CD1 Q v4 hg5 hbx hm5 q5 v5 hm6
     go_upto_region 10 with fail
     generalize w5.alloc (.cells #[.slice oo no oc, .slice so ns sc] 39) = w6 at *
     generalize w5.heap.size = x5 at *
     have kd := (Below.refl w6.heap.size w6).drew
     have WT := WT.below kd
     have q7 := q6.below kd
     have v7 := v6.below kd v6.lt
     have hM7 := hM6.below kd hM6.lt
     have hW := hW.below kd
     have HQ := hid (q7.more hlt HO.out (by omega) (by omega) hW)
     have HV : Hid (VecAt w6.drew (w.heap.size + 1) (vecTo h k).1 ws) := hid q7.at_
     have HV7 := hid v7
     have HM7 := hid hM7
     have hd0 : decide ((k : Int) < 0) = false := decide_eq_false (by omega)
     have hd1 : decide ((12 : Int) ≤ (k : Int)) = false := decide_eq_false (by omega)
     have hd2 : decide (12 ≤ k) = false := decide_eq_false (by omega)
     clear hW q6 q7 v6 v7 hM6 hM7 kd
     refine wp_region_held_drew (S := fun wx => wx.cell? ⟨x5, 0, none⟩ = some (.slice oo no oc) ∧ wx.cell? ⟨x5, 1, none⟩ = some (.slice so ns sc)) (by kernel_rfl) ⟨WT.c0, WT.c1⟩ (fun hS0 => ?_)
     generalize w6.drew = wd at *
     refine tG7 (some 34) 0 ?vtv0x1 rfl rfl (Or.inl ⟨by rfl, ?htv0x1⟩) hS0 ?rtv0x1
     case htv0x1 => (intro w hw; obtain ⟨m0, m1⟩ := hw; go_simp; try (with_reducible rfl))
     try simp only [Act.put, zA7, zB7, zC7]
     refine tG7 (some 35) 1 ?vtv1x2 rfl rfl (Or.inl ⟨by rfl, ?htv1x2⟩) hS0 ?rtv1x2
     case htv1x2 => (intro w hw; obtain ⟨m0, m1⟩ := hw; go_simp; try (with_reducible rfl))
     try simp only [Act.put, zA7, zB7, zC7]
     refine tG7 (some 36) 2 ?vtv2x3 rfl rfl (Or.inl ⟨by rfl, ?htv2x3⟩) hS0 ?rtv2x3
     case htv2x3 => (intro w hw; obtain ⟨m0, m1⟩ := hw; go_simp; try (with_reducible rfl))
     try simp only [Act.put, zA7, zB7, zC7]
     refine tG7 (some 37) 3 ?vtv3x4 rfl rfl (Or.inl ⟨by rfl, ?htv3x4⟩) hS0 ?rtv3x4
     case htv3x4 => (intro w hw; obtain ⟨m0, m1⟩ := hw; go_simp; try (with_reducible rfl))
     try simp only [Act.put, zA7, zB7, zC7]
     refine tG7 (some 38) 4 ?vtv4x5 rfl rfl (Or.inl ⟨by rfl, ?htv4x5⟩) hS0 ?rtv4x5
     case htv4x5 => (intro w hw; obtain ⟨m0, m1⟩ := hw; go_simp; try (with_reducible rfl))
     try simp only [Act.put, zA7, zB7, zC7]
     refine tG7 (some 39) 5 ?vtv5x6 rfl rfl (Or.inl ⟨by rfl, ?htv5x6⟩) hS0 ?rtv5x6
     case htv5x6 => (intro w hw; obtain ⟨m0, m1⟩ := hw; go_simp; try (with_reducible rfl))
     try simp only [Act.put, zA7, zB7, zC7]
     refine tG7 (some 40) 7 ?vtv7x7 rfl rfl (Or.inl ⟨by rfl, ?htv7x7⟩) hS0 ?rtv7x7
     case htv7x7 => (intro w hw; obtain ⟨m0, m1⟩ := hw; go_simp; try (with_reducible rfl))
     try simp only [Act.put, zA7, zB7, zC7]
     refine rD7 6 rfl (fun K hK => ?_)
     have hc0 := (HV.out k (by omega)).1
     have hf0 := (HV.out k (by omega)).2
     go_simp
     have sA : (wd.setCell ⟨w.heap.size + 1, k, none⟩ (.bool (decW h (k : Int)).2.2)).cell? ⟨x5, 0, none⟩ = some (.slice oo no oc) ∧ (wd.setCell ⟨w.heap.size + 1, k, none⟩ (.bool (decW h (k : Int)).2.2)).cell? ⟨x5, 1, none⟩ = some (.slice so ns sc) := ⟨by rw [World.cell?_setCell_other _ _ _ _ (fun e => by injection e; omega)]; exact hS0.1, by rw [World.cell?_setCell_other _ _ _ _ (fun e => by injection e; omega)]; exact hS0.2⟩
     refine hK.out _ _ sA (fun _ => ?_)
     clear hK K hc0 hf0
     refine tG7 (some 41) 8 ?vtv8x9 rfl rfl (Or.inl ⟨by rfl, ?htv8x9⟩) sA ?rtv8x9
     case htv8x9 => (intro w hw; obtain ⟨m0, m1⟩ := hw; go_simp; try (with_reducible rfl))
     try simp only [Act.put, zA7, zB7, zC7]
     refine rD7 9 rfl (fun K hK => ?_)
     have hth : (wd.setCell ⟨w.heap.size + 1, k, none⟩ (.bool (decW h (k : Int)).2.2)).there (w.heap.size + 1) (12 + k * 2) 2 := fun j hj => by
      obtain ⟨q1, q2⟩ := (HV.out.setR hlt (decW h (k : Int)).2.2) (12 + k * 2 + j) (by omega)
      exact ⟨by rw [q1]; rfl, q2⟩
     refine wp_store_mid 39 _ _ rfl (w.heap.size + 1) (12 + k * 2) #[.slice oo no oc, .slice so ns sc] rfl rfl hth (by kernel_rfl) (by simp [Value.oneCell']) ?_
     have sB : ((wd.setCell ⟨w.heap.size + 1, k, none⟩ (.bool (decW h (k : Int)).2.2)).setCells (w.heap.size + 1) (12 + k * 2) [.slice oo no oc, .slice so ns sc]).cell? ⟨x5, 0, none⟩ = some (.slice oo no oc) ∧ ((wd.setCell ⟨w.heap.size + 1, k, none⟩ (.bool (decW h (k : Int)).2.2)).setCells (w.heap.size + 1) (12 + k * 2) [.slice oo no oc, .slice so ns sc]).cell? ⟨x5, 1, none⟩ = some (.slice so ns sc) := ⟨(World.cell?_setCells_out _ _ _ _ _ (fun hb _ => absurd hb (by show ¬ x5 = w.heap.size + 1; omega))).trans sA.1, (World.cell?_setCells_out _ _ _ _ _ (fun hb _ => absurd hb (by show ¬ x5 = w.heap.size + 1; omega))).trans sA.2⟩
     refine hK.out _ _ sB (fun _ => ?_)
     clear hK K hth
     refine wpAnyH_done (by kernel_rfl) ?_ _
     have h12 : 12 + k * 2 = 12 + 2 * k := by omega
     have HR : Hid (VecAt ((wd.setCell ⟨w.heap.size + 1, k, none⟩ (.bool (decW h (k : Int)).2.2)).setCells (w.heap.size + 1) (12 + k * 2) [.slice oo no oc, .slice so ns sc]) w.heap.size noB wZ0 ∧ MtAt ((wd.setCell ⟨w.heap.size + 1, k, none⟩ (.bool (decW h (k : Int)).2.2)).setCells (w.heap.size + 1) (12 + k * 2) [.slice oo no oc, .slice so ns sc]) T F (vecTo h (k + 1)).2) := hid ⟨HV7.out.apart (by omega) _ _ _ _ _, HM7.out.apart (by have := HTT.out.2.1; omega) _ _ _ _ _⟩
     rw [← h12] at HQ
     generalize (wd.setCell ⟨w.heap.size + 1, k, none⟩ (.bool (decW h (k : Int)).2.2)).setCells (w.heap.size + 1) (12 + k * 2) [.slice oo no oc, .slice so ns sc] = w8 at *
     go_wp2_with fail
     go_roundw
     case rel => exact ⟨k + 1, by omega, by go_num, _, HQ.out, HR.out.1, HR.out.2, HL2.out⟩
     case measure => simp [intOf]; omega
    ·have CZ1 := hid (CZ.out k T F w4 hlt q4.bel HTT.out.1 hm4 hl2)
     have HL2 : Hid (¬ Lasts F 0 (vecTo h 12).2) := hid (fun e => by
      have h1 := vecTo_cost h (i := k + 1) (j := 12) (by omega)
      rw [vecTo_open HO.out] at h1
      have h1 : (vecTo h k).2 + (decN h (k : Int)).2.2 ≤ (vecTo h 12).2 := h1
      rcases e with e | e
      ·exact hl2 (.inl e)
      ·exact hl2 (.inr (by omega)))
     have Q := hid q4
     clear q4 hm4 hl2 CO CD CZ HLA h4
     go_wp2_with fail
     refine CZ1.out.mono ?_
     rintro e w5 ⟨rfl, hm5, hg5, _⟩
     have q5 := Q.out.grown hg5 (by omega) (by have := HTT.out.2.1; omega) HTT.out.1
     have v5 := v4.grown hg5 (fun e => by have := HTT.out.2.2; injection e; omega)
     have hbx := box_below w5 (.cells #[.slice none 0 0, .slice none 0 0] 39)
     have HQB := hid (below_then q5.bel hbx)
     have v6 := v5.below hbx v5.lt
     clear CZ1 Q v4 hg5 hbx hm5 q5 v5
     go_upto_region 9 with fail
     generalize w5.alloc (.cells #[.slice none 0 0, .slice none 0 0] 39) = w6 at *
     have hth : w6.there w.heap.size 0 (#[.bool false, .bool false, .bool false, .bool false, .bool false, .bool false, .bool false, .bool false, .bool false, .bool false, .bool false, .bool false, .slice none 0 0, .slice none 0 0, .slice none 0 0, .slice none 0 0, .slice none 0 0, .slice none 0 0, .slice none 0 0, .slice none 0 0, .slice none 0 0, .slice none 0 0, .slice none 0 0, .slice none 0 0, .slice none 0 0, .slice none 0 0, .slice none 0 0, .slice none 0 0, .slice none 0 0, .slice none 0 0, .slice none 0 0, .slice none 0 0, .slice none 0 0, .slice none 0 0, .slice none 0 0, .slice none 0 0] : Array Value).size := v6.there (n := 36) (by omega)
     have hzl : vecL noB wZ0 = [.bool false, .bool false, .bool false, .bool false, .bool false, .bool false, .bool false, .bool false, .bool false, .bool false, .bool false, .bool false, .slice none 0 0, .slice none 0 0, .slice none 0 0, .slice none 0 0, .slice none 0 0, .slice none 0 0, .slice none 0 0, .slice none 0 0, .slice none 0 0, .slice none 0 0, .slice none 0 0, .slice none 0 0, .slice none 0 0, .slice none 0 0, .slice none 0 0, .slice none 0 0, .slice none 0 0, .slice none 0 0, .slice none 0 0, .slice none 0 0, .slice none 0 0, .slice none 0 0, .slice none 0 0, .slice none 0 0] := by kernel_rfl
     have HV9 := v6.put noB wZ0
     have HB9 : Below w.heap.size w (w6.setCells w.heap.size 0 (vecL noB wZ0)) := below_putC (Nat.le_refl _) _ _ _ HQB.out
     rw [hzl] at HV9 HB9
     have HV9 := hid HV9
     have HB9 := hid HB9
     have hone : (#[.bool false, .bool false, .bool false, .bool false, .bool false, .bool false, .bool false, .bool false, .bool false, .bool false, .bool false, .bool false, .slice none 0 0, .slice none 0 0, .slice none 0 0, .slice none 0 0, .slice none 0 0, .slice none 0 0, .slice none 0 0, .slice none 0 0, .slice none 0 0, .slice none 0 0, .slice none 0 0, .slice none 0 0, .slice none 0 0, .slice none 0 0, .slice none 0 0, .slice none 0 0, .slice none 0 0, .slice none 0 0, .slice none 0 0, .slice none 0 0, .slice none 0 0, .slice none 0 0, .slice none 0 0, .slice none 0 0] : Array Value).all (·.oneCell') = true := by simp [Value.oneCell']
     clear v6 hzl
     go_wp2_with (with_reducible refine wpList_store_mid rfl 52 _ _ rfl w.heap.size 0 #[.bool false, .bool false, .bool false, .bool false, .bool false, .bool false, .bool false, .bool false, .bool false, .bool false, .bool false, .bool false, .slice none 0 0, .slice none 0 0, .slice none 0 0, .slice none 0 0, .slice none 0 0, .slice none 0 0, .slice none 0 0, .slice none 0 0, .slice none 0 0, .slice none 0 0, .slice none 0 0, .slice none 0 0, .slice none 0 0, .slice none 0 0, .slice none 0 0, .slice none 0 0, .slice none 0 0, .slice none 0 0, .slice none 0 0, .slice none 0 0, .slice none 0 0, .slice none 0 0, .slice none 0 0, .slice none 0 0] rfl rfl hth (by kernel_rfl) hone ?_)
     exact bodyPost_ret (results_vec rfl _ _ _ noB wZ0 rfl HV9.out) rfl ⟨HB9.out, .inr ⟨HL2.out, rfl⟩⟩
  ·obtain rfl : k = 12 := by omega
   have hki : ¬ ((12 : Nat) : Int) < 12 := by omega
   have hall := q.at_.all
   have hth : wr.there w.heap.size 0 36 := v1.there (by omega)
   have HV9 := hid (v1.put (vecTo h 12).1 ws)
   have HB9 : Hid (Below w.heap.size w (wr.setCells w.heap.size 0 (vecL (vecTo h 12).1 ws))) := hid (below_putC (Nat.le_refl _) _ _ _ q.bel)
   have HO9 : Hid (∀ i, i < 12 → OwnW (wr.setCells w.heap.size 0 (vecL (vecTo h 12).1 ws)) w.heap.size (ws i).1 (ws i).2 (decW h (i : Int)).1 (decW h (i : Int)).2.1) := hid (fun i hi => by
    have h1 := q.own i hi
    rw [if_pos hi] at h1; rw [if_pos hi] at h1
    exact (h1.cells (g := w.heap.size) (by omega) 0 _).base (by omega))
   have HE9 : Hid (vecL (accV h) ws = vecL (vecTo h 12).1 ws) := hid (vecL_congr fun i hi => by rw [vec_row HC.out, decide_eq_true hi, Bool.true_and]; rfl)
   have hone : (vecL (vecTo h 12).1 ws).toArray.all (·.oneCell') = true := vecL_one fun i hi => by obtain ⟨_, _, _, _, _, _, e1, e2⟩ := (q.own i hi).form; rw [e1, e2]; exact ⟨rfl, rfl⟩
   have hth2 : wr.there w.heap.size 0 (vecL (vecTo h 12).1 ws).toArray.size := by rw [show (vecL (vecTo h 12).1 ws).toArray.size = 36 from vecL_len _ _]; exact hth
   have hinf : (Tryz.prog.info? 52).map (·.size) = some (vecL (vecTo h 12).1 ws).toArray.size := by rw [show (vecL (vecTo h 12).1 ws).toArray.size = 36 from vecL_len _ _]; kernel_rfl
   have hinf2 : (Tryz.prog.info? 52).map (·.size) = some (vecL (vecTo h 12).1 ws).length := by rw [vecL_len]; kernel_rfl
   go_wp2_with (first
    | (with_reducible refine wpList_load_mid rfl 52 _ rfl (w.heap.size + 1) 0 rfl (vecL (vecTo h 12).1 ws) _ hall Tryz.underlying52 rfl hinf2 ?_)
    | (with_reducible refine wpList_store_mid rfl 52 _ _ rfl w.heap.size 0 (vecL (vecTo h 12).1 ws).toArray rfl rfl hth2 hinf hone ?_))
   refine bodyPost_ret (results_vec rfl _ _ _ (vecTo h 12).1 ws rfl HV9.out) rfl ⟨HB9.out, .inl ⟨hla, ws, ?_, HO9.out⟩⟩
   rw [HE9.out]; rfl
end

section
open Go.RowKit
theorem below_app0 {B B' : Nat} {W wr w1 : World} {o : Obj} {e : TypeId} {n size : Nat} {v : Value} {xs : List Value} (hb : Below B W wr) (hB : B ≤ W.heap.size) (hown : wr.ownsRow B' e size v n xs) (hBB : B ≤ B')
  (hg : (wr.alloc o).grownBy w1 v.ownBlock) : Below B W w1 :=
 (hb.alloc (Nat.le_trans hB hb.size) o).grown hg (by have := hb.size; simp; omega) fun k hk => Nat.le_trans hBB (hown.lt k hk).1
end

section
open Go.RowKit
section
variable {h : List TxnV}
end
theorem fuel_most : fuelN 4611686018427387904 = 4611686018427387904 := by decide +kernel
theorem info_vec (r : Nat → Bool) (ws : Nat → Value × Value) : (Tryz.prog.info? 52).map (·.size) = some (vecL r ws).length := by rw [vecL_len]; kernel_rfl
theorem info_vecA (r : Nat → Bool) (ws : Nat → Value × Value) : (Tryz.prog.info? 52).map (·.size) = some (vecL r ws).toArray.size := by rw [show (vecL r ws).toArray.size = 36 from vecL_len _ _]; kernel_rfl
theorem results_vec3 {fn : Func} {p u v : Tmp} (h : fn.results = #[.tmp u, .cell p 52, .tmp v]) (tmps : Array Value) (w : World) (g : Nat) (r : Nat → Bool) (ws : Nat → Value × Value)
  (hp : tmps.getD p undef = .pointer (some ⟨g, 0, none⟩)) (hg : VecAt w g r ws) : (results fn tmps).run Tryz.prog w = .ok (.tuple #[tmps.getD u undef, .agg (vecL r ws).toArray, tmps.getD v undef]) w := by
 have hp' : tmps[p]?.getD undef = .pointer (some ⟨g, 0, none⟩) := by simpa using hp
 simp [results, h, hp', asAddr, run_loadVar_mid w g 0 52 (vecL r ws) _ hg.all Tryz.underlying52 rfl (info_vec r ws)]
theorem vec_put (w : World) (r : Nat → Bool) (ws : Nat → Value × Value) : VecAt ((w.alloc (.cells #[.bool false, .bool false, .bool false, .bool false, .bool false, .bool false, .bool false, .bool false, .bool false, .bool false, .bool false, .bool false, .slice none 0 0, .slice none 0 0, .slice none 0 0, .slice none 0 0, .slice none 0 0, .slice none 0 0, .slice none 0 0, .slice none 0 0, .slice none 0 0, .slice none 0 0, .slice none 0 0, .slice none 0 0, .slice none 0 0, .slice none 0 0, .slice none 0 0, .slice none 0 0, .slice none 0 0, .slice none 0 0, .slice none 0 0, .slice none 0 0, .slice none 0 0, .slice none 0 0, .slice none 0 0, .slice none 0 0] 52)).setCells w.heap.size 0 (vecL r ws)) w.heap.size r ws ∧ Below w.heap.size w ((w.alloc (.cells #[.bool false, .bool false, .bool false, .bool false, .bool false, .bool false, .bool false, .bool false, .bool false, .bool false, .bool false, .bool false, .slice none 0 0, .slice none 0 0, .slice none 0 0, .slice none 0 0, .slice none 0 0, .slice none 0 0, .slice none 0 0, .slice none 0 0, .slice none 0 0, .slice none 0 0, .slice none 0 0, .slice none 0 0, .slice none 0 0, .slice none 0 0, .slice none 0 0, .slice none 0 0, .slice none 0 0, .slice none 0 0, .slice none 0 0, .slice none 0 0, .slice none 0 0, .slice none 0 0, .slice none 0 0, .slice none 0 0] 52)).setCells w.heap.size 0 (vecL r ws)) ∧ (w.alloc (.cells #[.bool false, .bool false, .bool false, .bool false, .bool false, .bool false, .bool false, .bool false, .bool false, .bool false, .bool false, .bool false, .slice none 0 0, .slice none 0 0, .slice none 0 0, .slice none 0 0, .slice none 0 0, .slice none 0 0, .slice none 0 0, .slice none 0 0, .slice none 0 0, .slice none 0 0, .slice none 0 0, .slice none 0 0, .slice none 0 0, .slice none 0 0, .slice none 0 0, .slice none 0 0, .slice none 0 0, .slice none 0 0, .slice none 0 0, .slice none 0 0, .slice none 0 0, .slice none 0 0, .slice none 0 0, .slice none 0 0] 52)).there w.heap.size 0 (vecL r ws).toArray.size :=
 ⟨(VecAt.zero w).put r ws, below_putC (Nat.le_refl _) _ _ _ (box_below w _), by rw [show (vecL r ws).toArray.size = 36 from vecL_len _ _]; exact (VecAt.zero w).there (by omega)⟩
def WitsIn (h : List TxnV) (ws : Nat → Value × Value) (b0 : Nat) (w : World) : Prop := ∀ i, i < 12 → OwnW w b0 (ws i).1 (ws i).2 (decW h (i : Int)).1 (decW h (i : Int)).2.1
section
variable {h : List TxnV} {ws : Nat → Value × Value} {b0 : Nat} {w w' : World}
theorem WitsIn.below (q : WitsIn h ws b0 w) (hb : Below w.heap.size w w') : WitsIn h ws b0 w' := fun i hi => (q i hi).below hb
theorem WitsIn.cells (q : WitsIn h ws b0 w) {g : Nat} (hg : g < b0) (o : Nat) (vs : List Value) : WitsIn h ws b0 (w.setCells g o vs) := fun i hi => (q i hi).cells hg o vs
theorem WitsIn.base (q : WitsIn h ws b0 w) {b1 : Nat} (hb : b1 ≤ b0) : WitsIn h ws b1 w := fun i hi => (q i hi).base hb
theorem WitsIn.one (q : WitsIn h ws b0 w) (r : Nat → Bool) : (vecL r ws).toArray.all (·.oneCell') = true := vecL_one fun i hi => by
 obtain ⟨_, _, _, _, _, _, e1, e2⟩ := (q i hi).form
 rw [e1, e2]; exact ⟨rfl, rfl⟩
end
theorem map_cells {α : Type} {e : α → Value} {P : Program} {k : TypeId} {w : World} {b n : Nat} {f : Int → Option α} {c g : Nat} (h : MapI e P k w b n f c) {v : Value} (hc : w.cell? ⟨g, 0, none⟩ = some v) : b ≠ g := by
 rintro rfl
 obtain ⟨D, ⟨es, clock, hh, _⟩, _⟩ := h
 unfold World.cell? at hc
 simp [hh] at hc
theorem OrdIs.apart {w : World} {B b : Nat} {h : List TxnV} (hO : OrdIs w B b h) {g : Nat} (hg : g < B) (hgb : g < b) {v : Value} (hc : w.cell? ⟨g, 0, none⟩ = some v) (o : Nat) (vs : List Value) : OrdIs (w.setCells g o vs) B b h := by
 obtain ⟨bm, m, c, vk, vr, K, R, h1, h2, h3, h4, h5, h6⟩ := hO
 refine ⟨bm, m, c, vk, vr, K, R, fun i hi => ?_, MapI.cells (map_cells h2 hc) vs o w h2, h3, h4.cells hgb o vs, h5, h6⟩
 rw [World.frozen?_setCells, cell_put (p := ⟨B, i, none⟩) (by show B ≠ g; omega)]
 exact h1 i hi
theorem vof_ok {w0 w : World} {B b : Nat} {h : List TxnV} (much : Int) (F : Nat) (hF : fuelN much = F) (hO : OrdIs w0 B b h) (ht : Tab w0) (hK : Kinds w0) (hc : checkI h = 0) (hb : Below w0.heap.size w0 w) (hM : ∀ l : Nat, l < 12 → (decN h (l : Int)).2.2 + 2 ≤ 1099511627776) (hl : Lasts F 0 (vecTo h 12).2) :
  Calls Tryz.prog 23 #[.pointer (some ⟨B, 0, none⟩), .int .i64 much] w fun e w' => (∃ ws, e = .returned (.tuple #[.agg (vecL (accV h) ws).toArray, .int .i64 0]) ∧ WitsIn h ws w.heap.size w') ∧ Below w.heap.size w w' := by
 refine (vof_any much F hF hO ht hK hc hb hM).mono ?_
 rintro e w' ⟨hb', ⟨_, ws, rfl, hw⟩ | ⟨hn, _⟩⟩
 ·exact ⟨⟨ws, rfl, hw⟩, hb'⟩
 ·exact (hn hl).elim
theorem vec_few {h : List TxnV} (hn : h.length ≤ 7) : ∀ l : Nat, l < 12 → (decN h (l : Int)).2.2 + 2 ≤ 1099511627776 := fun l _ => by
 have h1 := dec_tries h (l : Int)
 have h2 := tr_le h.length hn
 omega
theorem lawof_any (va : Value) (h : List TxnV) (w : World) (hT : Txns w va h) (hok : ∀ t ∈ h, t.ok) (hsh : Short h) (hc : checkI h = 0) (ht : Tab w) (hK : Kinds w) (hM : ∀ l : Nat, l < 12 → (decN h (l : Int)).2.2 + 2 ≤ 1099511627776) :
  Calls Tryz.prog 32 #[va] w fun e w' => (∃ B ws, e = .returned (.tuple #[.pointer (some ⟨B, 0, none⟩), .agg (vecL (accV h) ws).toArray, .bool true]) ∧ OrdIs w' B (B + 2) h ∧ WitsIn h ws w.heap.size w') ∧ Below w.heap.size w w' := by
 have hg := ht.pos
 have V3 := VecAt.zero w
 have hb1 := box_below w (.cells #[.bool false, .bool false, .bool false, .bool false, .bool false, .bool false, .bool false, .bool false, .bool false, .bool false, .bool false, .bool false, .slice none 0 0, .slice none 0 0, .slice none 0 0, .slice none 0 0, .slice none 0 0, .slice none 0 0, .slice none 0 0, .slice none 0 0, .slice none 0 0, .slice none 0 0, .slice none 0 0, .slice none 0 0, .slice none 0 0, .slice none 0 0, .slice none 0 0, .slice none 0 0, .slice none 0 0, .slice none 0 0, .slice none 0 0, .slice none 0 0, .slice none 0 0, .slice none 0 0, .slice none 0 0, .slice none 0 0] 52)
 have CO := hid (of_done va h _ (hT.below hb1) hok hsh hc)
 have HT : Hid (∀ wx, Below w.heap.size w wx → Tab wx ∧ Kinds wx) := hid (fun wx hb => ⟨ht.below hb hg, hK.below hb⟩)
 have hs1 : (w.alloc (.cells #[.bool false, .bool false, .bool false, .bool false, .bool false, .bool false, .bool false, .bool false, .bool false, .bool false, .bool false, .bool false, .slice none 0 0, .slice none 0 0, .slice none 0 0, .slice none 0 0, .slice none 0 0, .slice none 0 0, .slice none 0 0, .slice none 0 0, .slice none 0 0, .slice none 0 0, .slice none 0 0, .slice none 0 0, .slice none 0 0, .slice none 0 0, .slice none 0 0, .slice none 0 0, .slice none 0 0, .slice none 0 0, .slice none 0 0, .slice none 0 0, .slice none 0 0, .slice none 0 0, .slice none 0 0, .slice none 0 0] 52)).heap.size = w.heap.size + 1 := by simp
 have HC := hid hc
 have HM := hid hM
 clear hT hok hsh hc ht hK hM
 go_enter Tryz.func32, Tryz.ntmps32
 go_upto_region 1 with fail
 generalize w.alloc (.cells #[.bool false, .bool false, .bool false, .bool false, .bool false, .bool false, .bool false, .bool false, .bool false, .bool false, .bool false, .bool false, .slice none 0 0, .slice none 0 0, .slice none 0 0, .slice none 0 0, .slice none 0 0, .slice none 0 0, .slice none 0 0, .slice none 0 0, .slice none 0 0, .slice none 0 0, .slice none 0 0, .slice none 0 0, .slice none 0 0, .slice none 0 0, .slice none 0 0, .slice none 0 0, .slice none 0 0, .slice none 0 0, .slice none 0 0, .slice none 0 0, .slice none 0 0, .slice none 0 0, .slice none 0 0, .slice none 0 0] 52) = w1 at *
 go_wp2_with fail
 refine CO.out.mono ?_
 rintro e w2 ⟨⟨B, rfl, hB, hO⟩, h2⟩
 have hb2 := below_then hb1 h2
 have h12 := h2.size
 have V3 := V3.below h2 V3.lt
 have hTK := HT.out _ hb2
 have CV := hid (vof_ok (w := w2) 4611686018427387904 4611686018427387904 fuel_most hO hTK.1 hTK.2 HC.out (Below.refl _ _) HM.out (.inl rfl))
 have HO := hid (fun wx (hx : Below w2.heap.size w2 wx) => hO.below hx)
 clear CO hO h2 hTK hb1
 go_wp2_with fail
 refine CV.out.mono ?_
 rintro e w3 ⟨⟨ws, rfl, hW⟩, h3⟩
 obtain ⟨V7, hb7, hth⟩ := vec_put w3 (accV h) ws
 have hone := hW.one (accV h)
 have hinf := info_vecA (accV h) ws
 have h27 := below_then h3 hb7
 have HO7 := hid (HO.out _ h27)
 have W7 := hW.below hb7
 have V3 := V3.below h3 V3.lt
 have hne := V3.lt
 have V3 := V3.below hb7 V3.lt
 have hbW := below_then hb2 h27
 clear CV h3 h27 hb2 hW HO
 go_upto_region 5 with (first | (with_reducible refine wpList_store_mid rfl 52 _ _ rfl w3.heap.size 0 (vecL (accV h) ws).toArray rfl rfl hth hinf hone ?_))
 generalize (w3.alloc (.cells #[.bool false, .bool false, .bool false, .bool false, .bool false, .bool false, .bool false, .bool false, .bool false, .bool false, .bool false, .bool false, .slice none 0 0, .slice none 0 0, .slice none 0 0, .slice none 0 0, .slice none 0 0, .slice none 0 0, .slice none 0 0, .slice none 0 0, .slice none 0 0, .slice none 0 0, .slice none 0 0, .slice none 0 0, .slice none 0 0, .slice none 0 0, .slice none 0 0, .slice none 0 0, .slice none 0 0, .slice none 0 0, .slice none 0 0, .slice none 0 0, .slice none 0 0, .slice none 0 0, .slice none 0 0, .slice none 0 0] 52)).setCells w3.heap.size 0 (vecL (accV h) ws) = w7 at *
 generalize w3.heap.size = g7 at *
 have kd := (Below.refl w7.heap.size w7).drew
 have V7 := hid (V7.below kd V7.lt)
 have HO7 := hid (HO7.out.below kd)
 have W7 := W7.below kd
 have HV3 := hid (V3.below kd V3.lt)
 have hbW := below_then hbW kd
 have hinf2 := info_vec (accV h) ws
 clear V3 kd hth
 refine wp_region_held_drew (S := fun wx => wx.rangeAt g7 0 (vecL (accV h) ws)) (by kernel_rfl) V7.out.all (fun hS0 => ?_)
 generalize w7.drew = wd at *
 refine tG7 (some 25) 0 ?vtg0x1 rfl rfl (Or.inl ⟨by rfl, ?htg0x1⟩) hS0 ?rtg0x1
 case htg0x1 => (intro w hw; go_simp; try (with_reducible rfl))
 try simp only [Act.put, zA7, zB7, zC7]
 refine tG7 (some 26) 1 _ rfl rfl (yieldsIf_load_mid (by rfl) 52 _ rfl g7 0 rfl (vecL (accV h) ws) _ (fun _ hw => hw) Tryz.underlying52 rfl hinf2) hS0 ?_
 try simp only [Act.put, zA7, zB7, zC7]
 refine tG7 (some 27) 2 ?vtg2x3 rfl rfl (Or.inl ⟨by rfl, ?htg2x3⟩) hS0 ?rtg2x3
 case htg2x3 => (intro w hw; go_simp; try (with_reducible rfl))
 try simp only [Act.put, zA7, zB7, zC7]
 refine tG7 (some 28) 3 ?vtg3x4 rfl rfl (Or.inl ⟨by rfl, ?htg3x4⟩) hS0 ?rtg3x4
 case htg3x4 => (intro w hw; go_simp; try (with_reducible rfl))
 try simp only [Act.put, zA7, zB7, zC7]
 refine tG7 (some 2) 4 ?vtg4x5 rfl rfl (Or.inl ⟨by rfl, ?htg4x5⟩) hS0 ?rtg4x5
 case htg4x5 => (intro w hw; go_simp; try (with_reducible rfl))
 try simp only [Act.put, zA7, zB7, zC7]
 refine rD7 5 rfl (fun K hK => ?_)
 have hth := HV3.out.there (o := 0) (n := 36) (by omega)
 rw [show 36 = (vecL (accV h) ws).toArray.size from (vecL_len _ _).symm] at hth
 refine wp_store_mid 52 _ _ rfl w.heap.size 0 (vecL (accV h) ws).toArray rfl rfl hth hinf hone ?_
 have sB : (wd.setCells w.heap.size 0 (vecL (accV h) ws)).rangeAt g7 0 (vecL (accV h) ws) := World.rangeAt_setCells_apart hS0 _ _ _ (.inl (by omega))
 refine hK.out _ _ sB (fun _ => ?_)
 clear hK K hth
 refine tG7 (some 4) 6 ?vtg6x7 rfl rfl (Or.inl ⟨by rfl, ?htg6x7⟩) sB ?rtg6x7
 case htg6x7 => (intro w hw; go_simp; try (with_reducible rfl))
 try simp only [Act.put, List.setIfInBounds_toArray]
 refine wpAnyH_done (by kernel_rfl) ?_ _
 have HV9 := hid (HV3.out.put (accV h) ws)
 have HF : Hid (OrdIs (wd.setCells w.heap.size 0 (vecL (accV h) ws)) B (B + 2) h ∧ WitsIn h ws w.heap.size (wd.setCells w.heap.size 0 (vecL (accV h) ws)) ∧ Below w.heap.size w (wd.setCells w.heap.size 0 (vecL (accV h) ws))) := hid ⟨HO7.out.apart (by omega) (by omega) (HV3.out 0 (by omega)).1 0 _, (W7.cells (by omega) 0 _).base (by omega), below_putC (Nat.le_refl _) _ _ _ hbW⟩
 go_wp2_with fail
 refine bodyPost_ret (results_vec3 rfl _ _ _ (accV h) ws rfl HV9.out) rfl ⟨⟨B, ws, rfl, HF.out.1, HF.out.2.1⟩, HF.out.2.2⟩
end

section
open Go.RowKit
def catN (i : Nat) (u : Nat → Value) : List TxnV :=
 if i = 0 then [⟨0, 0, 1, u 0, [⟨true, 0, 1⟩]⟩, ⟨0, 2, 3, u 1, [⟨false, 0, 0⟩]⟩]
 else if i = 1 then [⟨0, 0, 3, u 0, [⟨true, 0, 1⟩]⟩, ⟨1, 1, 4, u 1, [⟨false, 0, 1⟩, ⟨true, 1, 2⟩]⟩, ⟨2, 2, 5, u 2, [⟨false, 1, 2⟩, ⟨false, 0, 0⟩]⟩]
 else if i = 2 then [⟨0, 0, 4, u 0, [⟨true, 0, 1⟩]⟩, ⟨1, 1, 5, u 1, [⟨true, 1, 2⟩]⟩, ⟨2, 2, 6, u 2, [⟨false, 0, 1⟩, ⟨false, 1, 0⟩]⟩, ⟨3, 3, 7, u 3, [⟨false, 1, 2⟩, ⟨false, 0, 0⟩]⟩]
 else if i = 3 then [⟨0, 0, 2, u 0, [⟨false, 0, 0⟩, ⟨true, 0, 1⟩]⟩, ⟨1, 1, 3, u 1, [⟨false, 0, 0⟩, ⟨true, 0, 2⟩]⟩]
 else if i = 4 then [⟨0, 0, 2, u 0, [⟨false, 1, 0⟩, ⟨true, 0, 1⟩]⟩, ⟨1, 1, 3, u 1, [⟨false, 0, 0⟩, ⟨true, 1, 2⟩]⟩]
 else [⟨0, 0, 1, u 0, [⟨true, 0, 1⟩]⟩, ⟨1, 2, 3, u 1, [⟨false, 0, 0⟩]⟩]
theorem lv_in : ∀ l : Fin 12, isLv (l.val : Int) = true := by decide +kernel
section
variable (u : Nat → Value)
end
end

section
open Go.RowKit
theorem infoTxn : (Tryz.prog.info? 30).map (fun i => (i.zero, i.size, i.bytes)) = some (some (.agg #[.int .i64 0, .int .i64 0, .int .i64 0, .slice none 0 0]), 4, 48) := by kernel_rfl
def OwnT (w : World) (base : Nat) (v : Value) (h : List TxnV) : Prop := w.ownsRow base 30 4 v h.length (txV h)
end

section
open Go.RowKit
theorem txV_app (l m : List TxnV) : txV (l ++ m) = txV l ++ txV m := by simp [txV]
theorem OwnT.below {w w' : World} {base : Nat} {v : Value} {h : List TxnV} (hO : OwnT w base v h) (hb : Below w.heap.size w w') : OwnT w' base v h := owns_below hO hb
end

section
open Go.RowKit
theorem row4_newM (w : World) (x y z u : Value) (t : TypeId) : ∀ j v, [x, y, z, u][j]? = some v → (w.alloc (.cells #[x, y, z, u] t)).cell? ((⟨w.heap.size, 0, none⟩ : Addr).add j) = some v := fun j v hv => by
 rw [Addr.add_lit, cell_of_row _ _ _ _ _ _ (heap_alloc_new w _)]
 simpa using hv
end

section
open Go.RowKit
abbrev KOp := Value × List OpV
def KRows (w : World) (v : Value) (K : List KOp) : Prop := Row w v K.length 1 (K.map (·.1)) ∧ ∀ p ∈ K, Ops w p.1 p.2
section
variable {w w' : World} {v : Value} {K : List KOp}
theorem KRows.below (h : KRows w v K) (hb : Below w.heap.size w w') : KRows w' v K := ⟨h.1.below hb, fun p hp => Row.below (h.2 p hp) hb⟩
theorem KRows.form (h : KRows w v K) : ∃ ao cap, v = .slice ao K.length cap ∧ K.length ≤ 9223372036854775807 := by
 obtain ⟨_, ao, cap, rfl, hm, _, _⟩ := h.1
 exact ⟨ao, cap, rfl, Nat.le_trans hm.1 hm.2⟩
theorem KRows.at {ao : Option Addr} {n cap : Nat} (h : KRows w (.slice ao n cap) K) {k : Nat} (hk : k < K.length) : ∃ g o, ao = some ⟨g, o, none⟩ ∧ w.cell? ⟨g, o + k, none⟩ = some K[k].1 ∧ Ops w K[k].1 K[k].2 := by
 obtain ⟨_, ao', cap', he, _, _, hc⟩ := h.1
 cases he
 obtain ⟨b, off, e, hcell⟩ := hc (by omega)
 refine ⟨b, off, e, ?_, h.2 _ (List.getElem_mem hk)⟩
 have := hcell k (by omega)
 rw [this]
 simp [hk]
end
theorem Ops.slice {w : World} {v : Value} {l : List OpV} (h : Ops w v l) : ∃ ua un uc, v = .slice ua un uc := by
 obtain ⟨_, ao, cap, rfl, _⟩ := h
 exact ⟨ao, _, cap, rfl⟩
def turn1 (K : List KOp) (k : Nat) : List TxnV := (List.range k).filterMap fun (i : Nat) => K[i]?.map fun p => ⟨0, 2 * (i : Int), 2 * (i : Int) + 1, p.1, p.2⟩
def turn2 (K : List KOp) (k : Nat) : List TxnV := (List.range k).filterMap fun (i : Nat) => K[i]?.map fun p => ⟨(i : Int) % 2, 2 * (i : Int), 2 * (i : Int) + 1, p.1, p.2⟩
def onceL (K : List KOp) (k : Nat) : List TxnV := (List.range k).filterMap fun (i : Nat) => K[i]?.map fun p => ⟨(i : Int), (i : Int), (K.length : Int) + (i : Int), p.1, p.2⟩
theorem cturn1_succ {K : List KOp} {k : Nat} (hk : k < K.length) : turn1 K (k + 1) = turn1 K k ++ [⟨0, 2 * (k : Int), 2 * (k : Int) + 1, K[k].1, K[k].2⟩] := by
 unfold turn1; rw [List.range_succ, List.filterMap_append]; simp [hk]
theorem cturn2_succ {K : List KOp} {k : Nat} (hk : k < K.length) : turn2 K (k + 1) = turn2 K k ++ [⟨(k : Int) % 2, 2 * (k : Int), 2 * (k : Int) + 1, K[k].1, K[k].2⟩] := by
 unfold turn2; rw [List.range_succ, List.filterMap_append]; simp [hk]
theorem conce_succ {K : List KOp} {k : Nat} (hk : k < K.length) : onceL K (k + 1) = onceL K k ++ [⟨(k : Int), (k : Int), (K.length : Int) + (k : Int), K[k].1, K[k].2⟩] := by
 unfold onceL; rw [List.range_succ, List.filterMap_append]; simp [hk]
theorem cturn1_len {K : List KOp} (k : Nat) : (turn1 K k).length ≤ k := by
 unfold turn1; exact Nat.le_trans (List.length_filterMap_le _ _) (by simp)
theorem cturn2_len {K : List KOp} (k : Nat) : (turn2 K k).length ≤ k := by
 unfold turn2; exact Nat.le_trans (List.length_filterMap_le _ _) (by simp)
theorem conce_len {K : List KOp} (k : Nat) : (onceL K k).length ≤ k := by
 unfold onceL; exact Nat.le_trans (List.length_filterMap_le _ _) (by simp)
theorem cturn1_own {K : List KOp} {k b0 : Nat} {w : World} (hR : ∀ p ∈ K, Own w b0 p.1 p.2) : ∀ t ∈ turn1 K k, Own w b0 t.v t.l := fun t ht => by
 unfold turn1 at ht
 obtain ⟨i, _, e⟩ := List.mem_filterMap.1 ht
 obtain ⟨p, hp, rfl⟩ := Option.map_eq_some_iff.1 e
 exact hR p (List.mem_of_getElem? hp)
theorem cturn2_own {K : List KOp} {k b0 : Nat} {w : World} (hR : ∀ p ∈ K, Own w b0 p.1 p.2) : ∀ t ∈ turn2 K k, Own w b0 t.v t.l := fun t ht => by
 unfold turn2 at ht
 obtain ⟨i, _, e⟩ := List.mem_filterMap.1 ht
 obtain ⟨p, hp, rfl⟩ := Option.map_eq_some_iff.1 e
 exact hR p (List.mem_of_getElem? hp)
theorem conce_own {K : List KOp} {k b0 : Nat} {w : World} (hR : ∀ p ∈ K, Own w b0 p.1 p.2) : ∀ t ∈ onceL K k, Own w b0 t.v t.l := fun t ht => by
 unfold onceL at ht
 obtain ⟨i, _, e⟩ := List.mem_filterMap.1 ht
 obtain ⟨p, hp, rfl⟩ := Option.map_eq_some_iff.1 e
 exact hR p (List.mem_of_getElem? hp)
def CatH (w : World) (b0 : Nat) (v : Value) (h : List TxnV) : Prop := OwnT w b0 v h ∧ ∀ t ∈ h, Own w b0 t.v t.l
section
variable {w w' : World} {b0 : Nat} {v : Value} {h : List TxnV}
theorem CatH.below (q : CatH w b0 v h) (hb : Below w.heap.size w w') : CatH w' b0 v h := ⟨q.1.below hb, fun t ht => (q.2 t ht).below hb⟩
theorem CatH.txns (q : CatH w b0 v h) : Txns w v h := ⟨Row.of_owns q.1, fun t ht => (q.2 t ht).ops⟩
theorem CatH.base {b1 : Nat} (q : CatH w b0 v h) (hb : b1 ≤ b0) : CatH w b1 v h := ⟨own_base' q.1 hb, fun t ht => own_base' (q.2 t ht) hb⟩
theorem CatH.far (q : CatH w b0 v h) {p : Addr} (hp : p.block < b0) (u : Value) : CatH (w.setCell p u) b0 v h := ⟨pl_far q.1 hp u, fun t ht => pl_far (q.2 t ht) hp u⟩
def AllOwn (w : World) (b0 : Nat) : List KOp → Prop
 | [] => True
 | p :: K => Own w b0 p.1 p.2 ∧ AllOwn w b0 K
theorem all_own {b0 : Nat} : ∀ {K : List KOp}, AllOwn w b0 K → ∀ p ∈ K, Own w b0 p.1 p.2
 | [], _, p, hp => by cases hp
 | q :: K, h, p, hp => by
  rcases List.mem_cons.1 hp with rfl | hp
  ·exact h.1
  ·exact all_own h.2 p hp
end
theorem cturn1_txns {K : List KOp} {k : Nat} {w : World} {v va : Value} (hR : KRows w va K) (h : Row w v (turn1 K k).length 4 (txV (turn1 K k))) : Txns w v (turn1 K k) := ⟨h, fun t ht => by
 unfold turn1 at ht
 obtain ⟨i, _, e⟩ := List.mem_filterMap.1 ht
 obtain ⟨p, hp, rfl⟩ := Option.map_eq_some_iff.1 e
 exact hR.2 p (List.mem_of_getElem? hp)⟩
theorem cturn2_txns {K : List KOp} {k : Nat} {w : World} {v va : Value} (hR : KRows w va K) (h : Row w v (turn2 K k).length 4 (txV (turn2 K k))) : Txns w v (turn2 K k) := ⟨h, fun t ht => by
 unfold turn2 at ht
 obtain ⟨i, _, e⟩ := List.mem_filterMap.1 ht
 obtain ⟨p, hp, rfl⟩ := Option.map_eq_some_iff.1 e
 exact hR.2 p (List.mem_of_getElem? hp)⟩
theorem conce_txns {K : List KOp} {k : Nat} {w : World} {v va : Value} (hR : KRows w va K) (h : Row w v (onceL K k).length 4 (txV (onceL K k))) : Txns w v (onceL K k) := ⟨h, fun t ht => by
 unfold onceL at ht
 obtain ⟨i, _, e⟩ := List.mem_filterMap.1 ht
 obtain ⟨p, hp, rfl⟩ := Option.map_eq_some_iff.1 e
 exact hR.2 p (List.mem_of_getElem? hp)⟩
theorem crow_any (ao : Option Addr) (n cap : Nat) (w : World) : Calls Tryz.prog 91 #[.slice ao n cap] w fun e w' => e = .returned (.slice ao n cap) ∧ w = w' := by
 go_enter Tryz.func91, Tryz.ntmps91
 go_wp2_with fail
 go_ret
 exact ⟨rfl, rfl⟩
theorem cturn1_any  (va : Value) (K : List KOp) (w : World) (hR : KRows w va K) (hn : K.length ≤ 1000) :
  Calls Tryz.prog 90 #[.int .i64 1, va] w fun e w' => ∃ v, e = .returned v ∧ w'.ownsRow w.heap.size 30 4 v (turn1 K K.length).length (txV (turn1 K K.length)) ∧ Txns w' v (turn1 K K.length) ∧ Below w.heap.size w w' := by
 obtain ⟨i1, hj, hy0, hy1, hy2⟩ := info_parts infoTxn
 obtain ⟨ao, cap, rfl, hm⟩ := hR.form
 have HR := hid (fun wx (hx : Below w.heap.size w wx) => hR.below hx)
 clear hR
 go_enter Tryz.func90, Tryz.ntmps90
 go_wp2_with fail
 go_loopw [5, 10] (fun v i wr => ∃ k : Nat, k ≤ K.length ∧ i = .int .i64 (k : Int) ∧ Hid (wr.ownsRow w.heap.size 30 4 v (turn1 K k).length (txV (turn1 K k))) ∧ Hid (Below w.heap.size w wr)) (fun _ i _ => K.length - (intOf i).toNat)
 case atStart => exact ⟨0, by omega, rfl, hid (World.ownsRow_nil _ _ _ _), hid (Below.refl _ _)⟩
 case round =>
  obtain ⟨k, hk, rfl, HO, HB⟩ := hrel
  by_cases hlt : k < K.length
  ·have hki : (k : Int) < (K.length : Int) := by omega
   obtain ⟨g, o, hg, hc, hops⟩ := (HR.out wr HB.out).at hlt
   cases hg
   have hown := HO.out
   obtain ⟨ua, un, uc, hu⟩ := hops.slice
   rw [hu] at hc
   have HL : Hid (turn1 K (k + 1) = turn1 K k ++ [⟨0, (2 * (k : Int)), (2 * (k : Int) + 1), .slice ua un uc, K[k].2⟩]) := hid (by rw [cturn1_succ hlt]; rw [hu])
   have hll : (turn1 K k).length ≤ 1000 := Nat.le_trans (cturn1_len k) (by omega)
   have hka : (k : Int) ≤ 1000 := by omega
   have hbs := HB.out.size
   clear HO hops
   go_wp2_with (first | (at_builtin; refine wpList_append_own _ rfl _ _ 24 rfl w.heap.size 30 i1 (.agg #[.int .i64 0, .int .i64 0, .int .i64 0, .slice none 0 0]) 4 48 Tryz.underlying24 hj hy0 hy1 hy2 rfl (by decide) _ _ _ rfl (hown.alloc _) ⟨_, 0, none⟩ 1 1 [.int .i64 0, .int .i64 (2 * (k : Int)), .int .i64 (2 * (k : Int) + 1), .slice ua un uc] rfl rfl ?c1 ?c2 ?c3 ?c4 ?c5 ?_) | go_in)
   case c1 => exact row4_newM wr _ _ _ _ _
   case c2 =>
    intro u hu
    simp at hu
    rcases hu with rfl | rfl | rfl | rfl <;> rfl
   case c3 => unfold maxLen; omega
   case c4 => omega
   case c5 => simp; omega
   intro v10 w10 hown10 hg10 _
   have HO10 : Hid (w10.ownsRow w.heap.size 30 4 v10 (turn1 K (k + 1)).length (txV (turn1 K (k + 1)))) := hid (by
    rw [HL.out, List.length_append, txV_app]
    exact hown10)
   have HB10 : Hid (Below w.heap.size w w10) := hid (below_app0 HB.out (Nat.le_refl _) hown (Nat.le_refl _) hg10)
   clear hown10 hg10 hown HL
   go_wp2_with fail
   go_roundw
   case rel => exact ⟨k + 1, by omega, by go_num, HO10, HB10⟩
   case measure => simp [intOf]; omega
  ·obtain rfl : k = K.length := by omega
   have hki : ¬ (K.length : Int) < (K.length : Int) := by omega
   have hR := HR.out wr HB.out
   have HT := hid (cturn1_txns hR (Row.of_owns HO.out))
   clear hR HR
   go_wp2_with fail
   go_ret
   exact ⟨_, rfl, HO.out, HT.out, HB.out⟩
theorem cturn2_any  (va : Value) (K : List KOp) (w : World) (hR : KRows w va K) (hn : K.length ≤ 1000) :
  Calls Tryz.prog 90 #[.int .i64 2, va] w fun e w' => ∃ v, e = .returned v ∧ w'.ownsRow w.heap.size 30 4 v (turn2 K K.length).length (txV (turn2 K K.length)) ∧ Txns w' v (turn2 K K.length) ∧ Below w.heap.size w w' := by
 obtain ⟨i1, hj, hy0, hy1, hy2⟩ := info_parts infoTxn
 obtain ⟨ao, cap, rfl, hm⟩ := hR.form
 have HR := hid (fun wx (hx : Below w.heap.size w wx) => hR.below hx)
 clear hR
 go_enter Tryz.func90, Tryz.ntmps90
 go_wp2_with fail
 go_loopw [5, 10] (fun v i wr => ∃ k : Nat, k ≤ K.length ∧ i = .int .i64 (k : Int) ∧ Hid (wr.ownsRow w.heap.size 30 4 v (turn2 K k).length (txV (turn2 K k))) ∧ Hid (Below w.heap.size w wr)) (fun _ i _ => K.length - (intOf i).toNat)
 case atStart => exact ⟨0, by omega, rfl, hid (World.ownsRow_nil _ _ _ _), hid (Below.refl _ _)⟩
 case round =>
  obtain ⟨k, hk, rfl, HO, HB⟩ := hrel
  by_cases hlt : k < K.length
  ·have hki : (k : Int) < (K.length : Int) := by omega
   obtain ⟨g, o, hg, hc, hops⟩ := (HR.out wr HB.out).at hlt
   cases hg
   have hown := HO.out
   obtain ⟨ua, un, uc, hu⟩ := hops.slice
   rw [hu] at hc
   have HL : Hid (turn2 K (k + 1) = turn2 K k ++ [⟨((k : Int) % 2), (2 * (k : Int)), (2 * (k : Int) + 1), .slice ua un uc, K[k].2⟩]) := hid (by rw [cturn2_succ hlt]; rw [hu])
   have hll : (turn2 K k).length ≤ 1000 := Nat.le_trans (cturn2_len k) (by omega)
   have hka : (k : Int) ≤ 1000 := by omega
   have hbs := HB.out.size
   clear HO hops
   go_wp2_with (first | (at_builtin; refine wpList_append_own _ rfl _ _ 24 rfl w.heap.size 30 i1 (.agg #[.int .i64 0, .int .i64 0, .int .i64 0, .slice none 0 0]) 4 48 Tryz.underlying24 hj hy0 hy1 hy2 rfl (by decide) _ _ _ rfl (hown.alloc _) ⟨_, 0, none⟩ 1 1 [.int .i64 ((k : Int) % 2), .int .i64 (2 * (k : Int)), .int .i64 (2 * (k : Int) + 1), .slice ua un uc] rfl rfl ?c1 ?c2 ?c3 ?c4 ?c5 ?_) | go_in)
   case c1 => exact row4_newM wr _ _ _ _ _
   case c2 =>
    intro u hu
    simp at hu
    rcases hu with rfl | rfl | rfl | rfl <;> rfl
   case c3 => unfold maxLen; omega
   case c4 => omega
   case c5 => simp; omega
   intro v10 w10 hown10 hg10 _
   have HO10 : Hid (w10.ownsRow w.heap.size 30 4 v10 (turn2 K (k + 1)).length (txV (turn2 K (k + 1)))) := hid (by
    rw [HL.out, List.length_append, txV_app]
    exact hown10)
   have HB10 : Hid (Below w.heap.size w w10) := hid (below_app0 HB.out (Nat.le_refl _) hown (Nat.le_refl _) hg10)
   clear hown10 hg10 hown HL
   go_wp2_with fail
   go_roundw
   case rel => exact ⟨k + 1, by omega, by go_num, HO10, HB10⟩
   case measure => simp [intOf]; omega
  ·obtain rfl : k = K.length := by omega
   have hki : ¬ (K.length : Int) < (K.length : Int) := by omega
   have hR := HR.out wr HB.out
   have HT := hid (cturn2_txns hR (Row.of_owns HO.out))
   clear hR HR
   go_wp2_with fail
   go_ret
   exact ⟨_, rfl, HO.out, HT.out, HB.out⟩
theorem conce_any  (va : Value) (K : List KOp) (w : World) (hR : KRows w va K) (hn : K.length ≤ 1000) :
  Calls Tryz.prog 92 #[va] w fun e w' => ∃ v, e = .returned v ∧ w'.ownsRow w.heap.size 30 4 v (onceL K K.length).length (txV (onceL K K.length)) ∧ Txns w' v (onceL K K.length) ∧ Below w.heap.size w w' := by
 obtain ⟨i1, hj, hy0, hy1, hy2⟩ := info_parts infoTxn
 obtain ⟨ao, cap, rfl, hm⟩ := hR.form
 have HR := hid (fun wx (hx : Below w.heap.size w wx) => hR.below hx)
 clear hR
 go_enter Tryz.func92, Tryz.ntmps92
 go_wp2_with fail
 go_loopw [3, 8] (fun v i wr => ∃ k : Nat, k ≤ K.length ∧ i = .int .i64 (k : Int) ∧ Hid (wr.ownsRow w.heap.size 30 4 v (onceL K k).length (txV (onceL K k))) ∧ Hid (Below w.heap.size w wr)) (fun _ i _ => K.length - (intOf i).toNat)
 case atStart => exact ⟨0, by omega, rfl, hid (World.ownsRow_nil _ _ _ _), hid (Below.refl _ _)⟩
 case round =>
  obtain ⟨k, hk, rfl, HO, HB⟩ := hrel
  by_cases hlt : k < K.length
  ·have hki : (k : Int) < (K.length : Int) := by omega
   obtain ⟨g, o, hg, hc, hops⟩ := (HR.out wr HB.out).at hlt
   cases hg
   have hown := HO.out
   obtain ⟨ua, un, uc, hu⟩ := hops.slice
   rw [hu] at hc
   have HL : Hid (onceL K (k + 1) = onceL K k ++ [⟨(k : Int), (k : Int), ((K.length : Int) + (k : Int)), .slice ua un uc, K[k].2⟩]) := hid (by rw [conce_succ hlt]; rw [hu])
   have hll : (onceL K k).length ≤ 1000 := Nat.le_trans (conce_len k) (by omega)
   have hka : (k : Int) ≤ 1000 := by omega
   have hbs := HB.out.size
   clear HO hops
   go_wp2_with (first | (at_builtin; refine wpList_append_own _ rfl _ _ 24 rfl w.heap.size 30 i1 (.agg #[.int .i64 0, .int .i64 0, .int .i64 0, .slice none 0 0]) 4 48 Tryz.underlying24 hj hy0 hy1 hy2 rfl (by decide) _ _ _ rfl (hown.alloc _) ⟨_, 0, none⟩ 1 1 [.int .i64 (k : Int), .int .i64 (k : Int), .int .i64 ((K.length : Int) + (k : Int)), .slice ua un uc] rfl rfl ?c1 ?c2 ?c3 ?c4 ?c5 ?_) | go_in)
   case c1 => exact row4_newM wr _ _ _ _ _
   case c2 =>
    intro u hu
    simp at hu
    rcases hu with rfl | rfl | rfl | rfl <;> rfl
   case c3 => unfold maxLen; omega
   case c4 => omega
   case c5 => simp; omega
   intro v10 w10 hown10 hg10 _
   have HO10 : Hid (w10.ownsRow w.heap.size 30 4 v10 (onceL K (k + 1)).length (txV (onceL K (k + 1)))) := hid (by
    rw [HL.out, List.length_append, txV_app]
    exact hown10)
   have HB10 : Hid (Below w.heap.size w w10) := hid (below_app0 HB.out (Nat.le_refl _) hown (Nat.le_refl _) hg10)
   clear hown10 hg10 hown HL
   go_wp2_with fail
   go_roundw
   case rel => exact ⟨k + 1, by omega, by go_num, HO10, HB10⟩
   case measure => simp [intOf]; omega
  ·obtain rfl : k = K.length := by omega
   have hki : ¬ (K.length : Int) < (K.length : Int) := by omega
   have hR := HR.out wr HB.out
   have HT := hid (conce_txns hR (Row.of_owns HO.out))
   clear hR HR
   go_wp2_with fail
   go_ret
   exact ⟨_, rfl, HO.out, HT.out, HB.out⟩
end

section
open Go.RowKit
def catS (i : Nat) : ByteArray :=
  if i = 0 then ⟨#[111, 119, 110, 32, 119, 114, 105, 116, 101, 32, 117, 110, 115, 101, 101, 110]⟩
  else if i = 1 then ⟨#[99, 97, 117, 115, 101, 32, 117, 110, 115, 101, 101, 110]⟩
  else if i = 2 then ⟨#[108, 111, 110, 103, 32, 102, 111, 114, 107]⟩
  else if i = 3 then ⟨#[108, 111, 115, 116, 32, 117, 112, 100, 97, 116, 101]⟩
  else if i = 4 then ⟨#[119, 114, 105, 116, 101, 32, 115, 107, 101, 119]⟩
  else ⟨#[115, 116, 97, 108, 101, 32, 114, 101, 97, 100]⟩
def CatAt (w : World) (g : Nat) (vs : Nat → Value) : Prop := ∀ i, i < 6 → w.cell? ⟨g, i * 3, none⟩ = some (.string (catS i)) ∧ w.cell? ⟨g, i * 3 + 1, none⟩ = some (vs i) ∧ w.cell? ⟨g, i * 3 + 2, none⟩ = some (.int .i64 ((2 ^ i : Nat) : Int))
theorem CatAt.lt {w : World} {g : Nat} {vs : Nat → Value} (h : CatAt w g vs) : g < w.heap.size := block_lt (h 0 (by omega)).1
theorem CatAt.below {w w' : World} {g : Nat} {vs : Nat → Value} (h : CatAt w g vs) (hb : Below w.heap.size w w') : CatAt w' g vs := fun i hi => by
 have hl := h.lt
 obtain ⟨h0, h1, h2⟩ := h i hi
 exact ⟨(hb.cell (p := ⟨g, i * 3, none⟩) hl).trans h0, (hb.cell (p := ⟨g, i * 3 + 1, none⟩) hl).trans h1, (hb.cell (p := ⟨g, i * 3 + 2, none⟩) hl).trans h2⟩
theorem cat_made (w : World) (t : TypeId) (vs : Nat → Value) : CatAt (w.alloc (.cells #[.string ⟨#[111, 119, 110, 32, 119, 114, 105, 116, 101, 32, 117, 110, 115, 101, 101, 110]⟩, vs 0, .int .i64 1, .string ⟨#[99, 97, 117, 115, 101, 32, 117, 110, 115, 101, 101, 110]⟩, vs 1, .int .i64 2, .string ⟨#[108, 111, 110, 103, 32, 102, 111, 114, 107]⟩, vs 2, .int .i64 4, .string ⟨#[108, 111, 115, 116, 32, 117, 112, 100, 97, 116, 101]⟩, vs 3, .int .i64 8, .string ⟨#[119, 114, 105, 116, 101, 32, 115, 107, 101, 119]⟩, vs 4, .int .i64 16, .string ⟨#[115, 116, 97, 108, 101, 32, 114, 101, 97, 100]⟩, vs 5, .int .i64 32] t)) w.heap.size vs := fun i hi => by
 have hn := heap_alloc_new w (.cells #[.string ⟨#[111, 119, 110, 32, 119, 114, 105, 116, 101, 32, 117, 110, 115, 101, 101, 110]⟩, vs 0, .int .i64 1, .string ⟨#[99, 97, 117, 115, 101, 32, 117, 110, 115, 101, 101, 110]⟩, vs 1, .int .i64 2, .string ⟨#[108, 111, 110, 103, 32, 102, 111, 114, 107]⟩, vs 2, .int .i64 4, .string ⟨#[108, 111, 115, 116, 32, 117, 112, 100, 97, 116, 101]⟩, vs 3, .int .i64 8, .string ⟨#[119, 114, 105, 116, 101, 32, 115, 107, 101, 119]⟩, vs 4, .int .i64 16, .string ⟨#[115, 116, 97, 108, 101, 32, 114, 101, 97, 100]⟩, vs 5, .int .i64 32] t)
 rcases (by omega : i = 0 ∨ i = 1 ∨ i = 2 ∨ i = 3 ∨ i = 4 ∨ i = 5) with rfl | rfl | rfl | rfl | rfl | rfl <;> exact ⟨by rw [cell_of_row _ _ _ _ _ _ hn]; rfl, by rw [cell_of_row _ _ _ _ _ _ hn]; rfl, by rw [cell_of_row _ _ _ _ _ _ hn]; rfl⟩
theorem txns_slice {w : World} {v : Value} {h : List TxnV} (q : Txns w v h) : ∃ ao n cap, v = .slice ao n cap := by
 obtain ⟨ao, cap, e, _⟩ := q.form
 exact ⟨ao, _, cap, e⟩
def AllOps (w : World) : List KOp → Prop
 | [] => True
 | p :: K => Ops w p.1 p.2 ∧ AllOps w K
theorem krows_all {w : World} : ∀ {K : List KOp}, AllOps w K → ∀ p ∈ K, Ops w p.1 p.2
 | [], _, p, hp => by cases hp
 | q :: K, h, p, hp => by
  rcases List.mem_cons.1 hp with rfl | hp
  ·exact h.1
  ·exact krows_all h.2 p hp
theorem call_any (w : World) : Calls Tryz.prog 40 #[] w fun e w' => (∃ (g : Nat) (vs : Nat → Value) (us : Nat → Nat → Value), e = .returned (.slice (some ⟨g, 0, none⟩) 6 6) ∧ CatAt w' g vs ∧ ∀ i, i < 6 → CatH w' w.heap.size (vs i) (catN i (us i))) ∧ Below w.heap.size w w' := by
 have hb := Below.refl w.heap.size w
 go_enter Tryz.func40, Tryz.ntmps40
 go_wp2_with fail
 refine (write_op 0 1 w).mono ?_
 rintro e w1 ⟨rfl, hx1⟩
 have hb := below_then hb hx1
 clear hx1
 have O0x0 : Own (w1.alloc (.cells #[.bool true, .int .i64 0, .int .i64 1] 26)) w.heap.size (.slice (some ⟨w1.heap.size, 0, none⟩) 1 1) [⟨true, 0, 1⟩] := World.ownsRow_lit (base := w.heap.size) (e := 26) (size := 3) w1 #[.bool true, .int .i64 0, .int .i64 1] 1 hb.size (by decide) rfl
 have hb := below_then hb (box_below w1 (.cells #[.bool true, .int .i64 0, .int .i64 1] 26))
 go_wp2_with fail
 generalize w1.alloc (.cells #[.bool true, .int .i64 0, .int .i64 1] 26) = w2 at *
 generalize w1.heap.size = a0x0 at *
 refine (crow_any _ _ _ _).mono ?_
 rintro e wq ⟨rfl, rfl⟩
 go_wp2_with fail
 refine (read_any 0 0 w2).mono ?_
 rintro e w3 ⟨rfl, hx3⟩
 have O0x0 := O0x0.below hx3
 have hb := below_then hb hx3
 clear hx3
 have O0x1 : Own (w3.alloc (.cells #[.bool false, .int .i64 0, .int .i64 0] 26)) w.heap.size (.slice (some ⟨w3.heap.size, 0, none⟩) 1 1) [⟨false, 0, 0⟩] := World.ownsRow_lit (base := w.heap.size) (e := 26) (size := 3) w3 #[.bool false, .int .i64 0, .int .i64 0] 1 hb.size (by decide) rfl
 have O0x0 := O0x0.below (box_below w3 (.cells #[.bool false, .int .i64 0, .int .i64 0] 26))
 have hb := below_then hb (box_below w3 (.cells #[.bool false, .int .i64 0, .int .i64 0] 26))
 go_wp2_with fail
 generalize w3.alloc (.cells #[.bool false, .int .i64 0, .int .i64 0] 26) = w4 at *
 generalize w3.heap.size = a0x1 at *
 refine (crow_any _ _ _ _).mono ?_
 rintro e wq ⟨rfl, rfl⟩
 have O0x0 := O0x0.below (box_below w4 (.cells #[.slice (some ⟨a0x0, 0, none⟩) 1 1, .slice (some ⟨a0x1, 0, none⟩) 1 1] 28))
 have O0x1 := O0x1.below (box_below w4 (.cells #[.slice (some ⟨a0x0, 0, none⟩) 1 1, .slice (some ⟨a0x1, 0, none⟩) 1 1] 28))
 have hb := below_then hb (box_below w4 (.cells #[.slice (some ⟨a0x0, 0, none⟩) 1 1, .slice (some ⟨a0x1, 0, none⟩) 1 1] 28))
 have KR0 : KRows (w4.alloc (.cells #[.slice (some ⟨a0x0, 0, none⟩) 1 1, .slice (some ⟨a0x1, 0, none⟩) 1 1] 28)) (.slice (some ⟨w4.heap.size, 0, none⟩) 2 2) [((.slice (some ⟨a0x0, 0, none⟩) 1 1), [⟨true, 0, 1⟩]), ((.slice (some ⟨a0x1, 0, none⟩) 1 1), [⟨false, 0, 0⟩])] := ⟨Row.of_owns (World.ownsRow_lit (base := 0) (e := 28) (size := 1) w4 #[.slice (some ⟨a0x0, 0, none⟩) 1 1, .slice (some ⟨a0x1, 0, none⟩) 1 1] 2 (Nat.zero_le _) (by decide) rfl), krows_all (⟨O0x0.ops, ⟨O0x1.ops, trivial⟩⟩)⟩
 go_wp2_with fail
 generalize w4.alloc (.cells #[.slice (some ⟨a0x0, 0, none⟩) 1 1, .slice (some ⟨a0x1, 0, none⟩) 1 1] 28) = w5 at *
 generalize w4.heap.size = k0 at *
 refine (cturn1_any _ _ _ KR0 (by simp)).mono ?_
 rintro e w6 ⟨v0, rfl, hW, hT, hx6⟩
 obtain ⟨o0, n0, c0, rfl⟩ := txns_slice hT
 have e0 : turn1 [((.slice (some ⟨a0x0, 0, none⟩) 1 1), [⟨true, 0, 1⟩]), ((.slice (some ⟨a0x1, 0, none⟩) 1 1), [⟨false, 0, 0⟩])] ([((.slice (some ⟨a0x0, 0, none⟩) 1 1), [⟨true, 0, 1⟩]), ((.slice (some ⟨a0x1, 0, none⟩) 1 1), [⟨false, 0, 0⟩])] : List KOp).length = catN 0 (fun (j : Nat) => ([.slice (some ⟨a0x0, 0, none⟩) 1 1, .slice (some ⟨a0x1, 0, none⟩) 1 1] : List Value).getD j undef) := by kernel_rfl
 have hI : CatH w6 w.heap.size (.slice o0 n0 c0) (turn1 [((.slice (some ⟨a0x0, 0, none⟩) 1 1), [⟨true, 0, 1⟩]), ((.slice (some ⟨a0x1, 0, none⟩) 1 1), [⟨false, 0, 0⟩])] ([((.slice (some ⟨a0x0, 0, none⟩) 1 1), [⟨true, 0, 1⟩]), ((.slice (some ⟨a0x1, 0, none⟩) 1 1), [⟨false, 0, 0⟩])] : List KOp).length) := ⟨own_base' hW hb.size, cturn1_own (all_own (⟨O0x0.below hx6, ⟨O0x1.below hx6, trivial⟩⟩))⟩
 rw [e0] at hI
 generalize (fun (j : Nat) => ([.slice (some ⟨a0x0, 0, none⟩) 1 1, .slice (some ⟨a0x1, 0, none⟩) 1 1] : List Value).getD j undef) = u0 at hI
 have hb := below_then hb hx6
 have T0 := hI
 clear hI hT hW hx6 KR0 e0 O0x0 O0x1
 go_wp2_with fail
 refine (write_op 0 1 w6).mono ?_
 rintro e w7 ⟨rfl, hx7⟩
 have T0 := T0.below hx7
 have hb := below_then hb hx7
 clear hx7
 have O1x0 : Own (w7.alloc (.cells #[.bool true, .int .i64 0, .int .i64 1] 26)) w.heap.size (.slice (some ⟨w7.heap.size, 0, none⟩) 1 1) [⟨true, 0, 1⟩] := World.ownsRow_lit (base := w.heap.size) (e := 26) (size := 3) w7 #[.bool true, .int .i64 0, .int .i64 1] 1 hb.size (by decide) rfl
 have T0 := T0.below (box_below w7 (.cells #[.bool true, .int .i64 0, .int .i64 1] 26))
 have hb := below_then hb (box_below w7 (.cells #[.bool true, .int .i64 0, .int .i64 1] 26))
 go_wp2_with fail
 generalize w7.alloc (.cells #[.bool true, .int .i64 0, .int .i64 1] 26) = w8 at *
 generalize w7.heap.size = a1x0 at *
 refine (crow_any _ _ _ _).mono ?_
 rintro e wq ⟨rfl, rfl⟩
 go_wp2_with fail
 refine (read_any 0 1 w8).mono ?_
 rintro e w9 ⟨rfl, hx9⟩
 have T0 := T0.below hx9
 have O1x0 := O1x0.below hx9
 have hb := below_then hb hx9
 clear hx9
 go_wp2_with fail
 refine (write_op 1 2 w9).mono ?_
 rintro e w10 ⟨rfl, hx10⟩
 have T0 := T0.below hx10
 have O1x0 := O1x0.below hx10
 have hb := below_then hb hx10
 clear hx10
 have O1x1 : Own (w10.alloc (.cells #[.bool false, .int .i64 0, .int .i64 1, .bool true, .int .i64 1, .int .i64 2] 26)) w.heap.size (.slice (some ⟨w10.heap.size, 0, none⟩) 2 2) [⟨false, 0, 1⟩, ⟨true, 1, 2⟩] := World.ownsRow_lit (base := w.heap.size) (e := 26) (size := 3) w10 #[.bool false, .int .i64 0, .int .i64 1, .bool true, .int .i64 1, .int .i64 2] 2 hb.size (by decide) rfl
 have T0 := T0.below (box_below w10 (.cells #[.bool false, .int .i64 0, .int .i64 1, .bool true, .int .i64 1, .int .i64 2] 26))
 have O1x0 := O1x0.below (box_below w10 (.cells #[.bool false, .int .i64 0, .int .i64 1, .bool true, .int .i64 1, .int .i64 2] 26))
 have hb := below_then hb (box_below w10 (.cells #[.bool false, .int .i64 0, .int .i64 1, .bool true, .int .i64 1, .int .i64 2] 26))
 go_wp2_with fail
 generalize w10.alloc (.cells #[.bool false, .int .i64 0, .int .i64 1, .bool true, .int .i64 1, .int .i64 2] 26) = w11 at *
 generalize w10.heap.size = a1x1 at *
 refine (crow_any _ _ _ _).mono ?_
 rintro e wq ⟨rfl, rfl⟩
 go_wp2_with fail
 refine (read_any 1 2 w11).mono ?_
 rintro e w12 ⟨rfl, hx12⟩
 have T0 := T0.below hx12
 have O1x0 := O1x0.below hx12
 have O1x1 := O1x1.below hx12
 have hb := below_then hb hx12
 clear hx12
 go_wp2_with fail
 refine (read_any 0 0 w12).mono ?_
 rintro e w13 ⟨rfl, hx13⟩
 have T0 := T0.below hx13
 have O1x0 := O1x0.below hx13
 have O1x1 := O1x1.below hx13
 have hb := below_then hb hx13
 clear hx13
 have O1x2 : Own (w13.alloc (.cells #[.bool false, .int .i64 1, .int .i64 2, .bool false, .int .i64 0, .int .i64 0] 26)) w.heap.size (.slice (some ⟨w13.heap.size, 0, none⟩) 2 2) [⟨false, 1, 2⟩, ⟨false, 0, 0⟩] := World.ownsRow_lit (base := w.heap.size) (e := 26) (size := 3) w13 #[.bool false, .int .i64 1, .int .i64 2, .bool false, .int .i64 0, .int .i64 0] 2 hb.size (by decide) rfl
 have T0 := T0.below (box_below w13 (.cells #[.bool false, .int .i64 1, .int .i64 2, .bool false, .int .i64 0, .int .i64 0] 26))
 have O1x0 := O1x0.below (box_below w13 (.cells #[.bool false, .int .i64 1, .int .i64 2, .bool false, .int .i64 0, .int .i64 0] 26))
 have O1x1 := O1x1.below (box_below w13 (.cells #[.bool false, .int .i64 1, .int .i64 2, .bool false, .int .i64 0, .int .i64 0] 26))
 have hb := below_then hb (box_below w13 (.cells #[.bool false, .int .i64 1, .int .i64 2, .bool false, .int .i64 0, .int .i64 0] 26))
 go_wp2_with fail
 generalize w13.alloc (.cells #[.bool false, .int .i64 1, .int .i64 2, .bool false, .int .i64 0, .int .i64 0] 26) = w14 at *
 generalize w13.heap.size = a1x2 at *
 refine (crow_any _ _ _ _).mono ?_
 rintro e wq ⟨rfl, rfl⟩
 have T0 := T0.below (box_below w14 (.cells #[.slice (some ⟨a1x0, 0, none⟩) 1 1, .slice (some ⟨a1x1, 0, none⟩) 2 2, .slice (some ⟨a1x2, 0, none⟩) 2 2] 28))
 have O1x0 := O1x0.below (box_below w14 (.cells #[.slice (some ⟨a1x0, 0, none⟩) 1 1, .slice (some ⟨a1x1, 0, none⟩) 2 2, .slice (some ⟨a1x2, 0, none⟩) 2 2] 28))
 have O1x1 := O1x1.below (box_below w14 (.cells #[.slice (some ⟨a1x0, 0, none⟩) 1 1, .slice (some ⟨a1x1, 0, none⟩) 2 2, .slice (some ⟨a1x2, 0, none⟩) 2 2] 28))
 have O1x2 := O1x2.below (box_below w14 (.cells #[.slice (some ⟨a1x0, 0, none⟩) 1 1, .slice (some ⟨a1x1, 0, none⟩) 2 2, .slice (some ⟨a1x2, 0, none⟩) 2 2] 28))
 have hb := below_then hb (box_below w14 (.cells #[.slice (some ⟨a1x0, 0, none⟩) 1 1, .slice (some ⟨a1x1, 0, none⟩) 2 2, .slice (some ⟨a1x2, 0, none⟩) 2 2] 28))
 have KR1 : KRows (w14.alloc (.cells #[.slice (some ⟨a1x0, 0, none⟩) 1 1, .slice (some ⟨a1x1, 0, none⟩) 2 2, .slice (some ⟨a1x2, 0, none⟩) 2 2] 28)) (.slice (some ⟨w14.heap.size, 0, none⟩) 3 3) [((.slice (some ⟨a1x0, 0, none⟩) 1 1), [⟨true, 0, 1⟩]), ((.slice (some ⟨a1x1, 0, none⟩) 2 2), [⟨false, 0, 1⟩, ⟨true, 1, 2⟩]), ((.slice (some ⟨a1x2, 0, none⟩) 2 2), [⟨false, 1, 2⟩, ⟨false, 0, 0⟩])] := ⟨Row.of_owns (World.ownsRow_lit (base := 0) (e := 28) (size := 1) w14 #[.slice (some ⟨a1x0, 0, none⟩) 1 1, .slice (some ⟨a1x1, 0, none⟩) 2 2, .slice (some ⟨a1x2, 0, none⟩) 2 2] 3 (Nat.zero_le _) (by decide) rfl), krows_all (⟨O1x0.ops, ⟨O1x1.ops, ⟨O1x2.ops, trivial⟩⟩⟩)⟩
 go_wp2_with fail
 generalize w14.alloc (.cells #[.slice (some ⟨a1x0, 0, none⟩) 1 1, .slice (some ⟨a1x1, 0, none⟩) 2 2, .slice (some ⟨a1x2, 0, none⟩) 2 2] 28) = w15 at *
 generalize w14.heap.size = k1 at *
 refine (conce_any _ _ _ KR1 (by simp)).mono ?_
 rintro e w16 ⟨v1, rfl, hW, hT, hx16⟩
 obtain ⟨o1, n1, c1, rfl⟩ := txns_slice hT
 have e1 : onceL [((.slice (some ⟨a1x0, 0, none⟩) 1 1), [⟨true, 0, 1⟩]), ((.slice (some ⟨a1x1, 0, none⟩) 2 2), [⟨false, 0, 1⟩, ⟨true, 1, 2⟩]), ((.slice (some ⟨a1x2, 0, none⟩) 2 2), [⟨false, 1, 2⟩, ⟨false, 0, 0⟩])] ([((.slice (some ⟨a1x0, 0, none⟩) 1 1), [⟨true, 0, 1⟩]), ((.slice (some ⟨a1x1, 0, none⟩) 2 2), [⟨false, 0, 1⟩, ⟨true, 1, 2⟩]), ((.slice (some ⟨a1x2, 0, none⟩) 2 2), [⟨false, 1, 2⟩, ⟨false, 0, 0⟩])] : List KOp).length = catN 1 (fun (j : Nat) => ([.slice (some ⟨a1x0, 0, none⟩) 1 1, .slice (some ⟨a1x1, 0, none⟩) 2 2, .slice (some ⟨a1x2, 0, none⟩) 2 2] : List Value).getD j undef) := by kernel_rfl
 have hI : CatH w16 w.heap.size (.slice o1 n1 c1) (onceL [((.slice (some ⟨a1x0, 0, none⟩) 1 1), [⟨true, 0, 1⟩]), ((.slice (some ⟨a1x1, 0, none⟩) 2 2), [⟨false, 0, 1⟩, ⟨true, 1, 2⟩]), ((.slice (some ⟨a1x2, 0, none⟩) 2 2), [⟨false, 1, 2⟩, ⟨false, 0, 0⟩])] ([((.slice (some ⟨a1x0, 0, none⟩) 1 1), [⟨true, 0, 1⟩]), ((.slice (some ⟨a1x1, 0, none⟩) 2 2), [⟨false, 0, 1⟩, ⟨true, 1, 2⟩]), ((.slice (some ⟨a1x2, 0, none⟩) 2 2), [⟨false, 1, 2⟩, ⟨false, 0, 0⟩])] : List KOp).length) := ⟨own_base' hW hb.size, conce_own (all_own (⟨O1x0.below hx16, ⟨O1x1.below hx16, ⟨O1x2.below hx16, trivial⟩⟩⟩))⟩
 rw [e1] at hI
 generalize (fun (j : Nat) => ([.slice (some ⟨a1x0, 0, none⟩) 1 1, .slice (some ⟨a1x1, 0, none⟩) 2 2, .slice (some ⟨a1x2, 0, none⟩) 2 2] : List Value).getD j undef) = u1 at hI
 have T0 := T0.below hx16
 have hb := below_then hb hx16
 have T1 := hI
 clear hI hT hW hx16 KR1 e1 O1x0 O1x1 O1x2
 go_wp2_with fail
 refine (write_op 0 1 w16).mono ?_
 rintro e w17 ⟨rfl, hx17⟩
 have T0 := T0.below hx17
 have T1 := T1.below hx17
 have hb := below_then hb hx17
 clear hx17
 have O2x0 : Own (w17.alloc (.cells #[.bool true, .int .i64 0, .int .i64 1] 26)) w.heap.size (.slice (some ⟨w17.heap.size, 0, none⟩) 1 1) [⟨true, 0, 1⟩] := World.ownsRow_lit (base := w.heap.size) (e := 26) (size := 3) w17 #[.bool true, .int .i64 0, .int .i64 1] 1 hb.size (by decide) rfl
 have T0 := T0.below (box_below w17 (.cells #[.bool true, .int .i64 0, .int .i64 1] 26))
 have T1 := T1.below (box_below w17 (.cells #[.bool true, .int .i64 0, .int .i64 1] 26))
 have hb := below_then hb (box_below w17 (.cells #[.bool true, .int .i64 0, .int .i64 1] 26))
 go_wp2_with fail
 generalize w17.alloc (.cells #[.bool true, .int .i64 0, .int .i64 1] 26) = w18 at *
 generalize w17.heap.size = a2x0 at *
 refine (crow_any _ _ _ _).mono ?_
 rintro e wq ⟨rfl, rfl⟩
 go_wp2_with fail
 refine (write_op 1 2 w18).mono ?_
 rintro e w19 ⟨rfl, hx19⟩
 have T0 := T0.below hx19
 have T1 := T1.below hx19
 have O2x0 := O2x0.below hx19
 have hb := below_then hb hx19
 clear hx19
 have O2x1 : Own (w19.alloc (.cells #[.bool true, .int .i64 1, .int .i64 2] 26)) w.heap.size (.slice (some ⟨w19.heap.size, 0, none⟩) 1 1) [⟨true, 1, 2⟩] := World.ownsRow_lit (base := w.heap.size) (e := 26) (size := 3) w19 #[.bool true, .int .i64 1, .int .i64 2] 1 hb.size (by decide) rfl
 have T0 := T0.below (box_below w19 (.cells #[.bool true, .int .i64 1, .int .i64 2] 26))
 have T1 := T1.below (box_below w19 (.cells #[.bool true, .int .i64 1, .int .i64 2] 26))
 have O2x0 := O2x0.below (box_below w19 (.cells #[.bool true, .int .i64 1, .int .i64 2] 26))
 have hb := below_then hb (box_below w19 (.cells #[.bool true, .int .i64 1, .int .i64 2] 26))
 go_wp2_with fail
 generalize w19.alloc (.cells #[.bool true, .int .i64 1, .int .i64 2] 26) = w20 at *
 generalize w19.heap.size = a2x1 at *
 refine (crow_any _ _ _ _).mono ?_
 rintro e wq ⟨rfl, rfl⟩
 go_wp2_with fail
 refine (read_any 0 1 w20).mono ?_
 rintro e w21 ⟨rfl, hx21⟩
 have T0 := T0.below hx21
 have T1 := T1.below hx21
 have O2x0 := O2x0.below hx21
 have O2x1 := O2x1.below hx21
 have hb := below_then hb hx21
 clear hx21
 go_wp2_with fail
 refine (read_any 1 0 w21).mono ?_
 rintro e w22 ⟨rfl, hx22⟩
 have T0 := T0.below hx22
 have T1 := T1.below hx22
 have O2x0 := O2x0.below hx22
 have O2x1 := O2x1.below hx22
 have hb := below_then hb hx22
 clear hx22
 have O2x2 : Own (w22.alloc (.cells #[.bool false, .int .i64 0, .int .i64 1, .bool false, .int .i64 1, .int .i64 0] 26)) w.heap.size (.slice (some ⟨w22.heap.size, 0, none⟩) 2 2) [⟨false, 0, 1⟩, ⟨false, 1, 0⟩] := World.ownsRow_lit (base := w.heap.size) (e := 26) (size := 3) w22 #[.bool false, .int .i64 0, .int .i64 1, .bool false, .int .i64 1, .int .i64 0] 2 hb.size (by decide) rfl
 have T0 := T0.below (box_below w22 (.cells #[.bool false, .int .i64 0, .int .i64 1, .bool false, .int .i64 1, .int .i64 0] 26))
 have T1 := T1.below (box_below w22 (.cells #[.bool false, .int .i64 0, .int .i64 1, .bool false, .int .i64 1, .int .i64 0] 26))
 have O2x0 := O2x0.below (box_below w22 (.cells #[.bool false, .int .i64 0, .int .i64 1, .bool false, .int .i64 1, .int .i64 0] 26))
 have O2x1 := O2x1.below (box_below w22 (.cells #[.bool false, .int .i64 0, .int .i64 1, .bool false, .int .i64 1, .int .i64 0] 26))
 have hb := below_then hb (box_below w22 (.cells #[.bool false, .int .i64 0, .int .i64 1, .bool false, .int .i64 1, .int .i64 0] 26))
 go_wp2_with fail
 generalize w22.alloc (.cells #[.bool false, .int .i64 0, .int .i64 1, .bool false, .int .i64 1, .int .i64 0] 26) = w23 at *
 generalize w22.heap.size = a2x2 at *
 refine (crow_any _ _ _ _).mono ?_
 rintro e wq ⟨rfl, rfl⟩
 go_wp2_with fail
 refine (read_any 1 2 w23).mono ?_
 rintro e w24 ⟨rfl, hx24⟩
 have T0 := T0.below hx24
 have T1 := T1.below hx24
 have O2x0 := O2x0.below hx24
 have O2x1 := O2x1.below hx24
 have O2x2 := O2x2.below hx24
 have hb := below_then hb hx24
 clear hx24
 go_wp2_with fail
 refine (read_any 0 0 w24).mono ?_
 rintro e w25 ⟨rfl, hx25⟩
 have T0 := T0.below hx25
 have T1 := T1.below hx25
 have O2x0 := O2x0.below hx25
 have O2x1 := O2x1.below hx25
 have O2x2 := O2x2.below hx25
 have hb := below_then hb hx25
 clear hx25
 have O2x3 : Own (w25.alloc (.cells #[.bool false, .int .i64 1, .int .i64 2, .bool false, .int .i64 0, .int .i64 0] 26)) w.heap.size (.slice (some ⟨w25.heap.size, 0, none⟩) 2 2) [⟨false, 1, 2⟩, ⟨false, 0, 0⟩] := World.ownsRow_lit (base := w.heap.size) (e := 26) (size := 3) w25 #[.bool false, .int .i64 1, .int .i64 2, .bool false, .int .i64 0, .int .i64 0] 2 hb.size (by decide) rfl
 have T0 := T0.below (box_below w25 (.cells #[.bool false, .int .i64 1, .int .i64 2, .bool false, .int .i64 0, .int .i64 0] 26))
 have T1 := T1.below (box_below w25 (.cells #[.bool false, .int .i64 1, .int .i64 2, .bool false, .int .i64 0, .int .i64 0] 26))
 have O2x0 := O2x0.below (box_below w25 (.cells #[.bool false, .int .i64 1, .int .i64 2, .bool false, .int .i64 0, .int .i64 0] 26))
 have O2x1 := O2x1.below (box_below w25 (.cells #[.bool false, .int .i64 1, .int .i64 2, .bool false, .int .i64 0, .int .i64 0] 26))
 have O2x2 := O2x2.below (box_below w25 (.cells #[.bool false, .int .i64 1, .int .i64 2, .bool false, .int .i64 0, .int .i64 0] 26))
 have hb := below_then hb (box_below w25 (.cells #[.bool false, .int .i64 1, .int .i64 2, .bool false, .int .i64 0, .int .i64 0] 26))
 go_wp2_with fail
 generalize w25.alloc (.cells #[.bool false, .int .i64 1, .int .i64 2, .bool false, .int .i64 0, .int .i64 0] 26) = w26 at *
 generalize w25.heap.size = a2x3 at *
 refine (crow_any _ _ _ _).mono ?_
 rintro e wq ⟨rfl, rfl⟩
 have T0 := T0.below (box_below w26 (.cells #[.slice (some ⟨a2x0, 0, none⟩) 1 1, .slice (some ⟨a2x1, 0, none⟩) 1 1, .slice (some ⟨a2x2, 0, none⟩) 2 2, .slice (some ⟨a2x3, 0, none⟩) 2 2] 28))
 have T1 := T1.below (box_below w26 (.cells #[.slice (some ⟨a2x0, 0, none⟩) 1 1, .slice (some ⟨a2x1, 0, none⟩) 1 1, .slice (some ⟨a2x2, 0, none⟩) 2 2, .slice (some ⟨a2x3, 0, none⟩) 2 2] 28))
 have O2x0 := O2x0.below (box_below w26 (.cells #[.slice (some ⟨a2x0, 0, none⟩) 1 1, .slice (some ⟨a2x1, 0, none⟩) 1 1, .slice (some ⟨a2x2, 0, none⟩) 2 2, .slice (some ⟨a2x3, 0, none⟩) 2 2] 28))
 have O2x1 := O2x1.below (box_below w26 (.cells #[.slice (some ⟨a2x0, 0, none⟩) 1 1, .slice (some ⟨a2x1, 0, none⟩) 1 1, .slice (some ⟨a2x2, 0, none⟩) 2 2, .slice (some ⟨a2x3, 0, none⟩) 2 2] 28))
 have O2x2 := O2x2.below (box_below w26 (.cells #[.slice (some ⟨a2x0, 0, none⟩) 1 1, .slice (some ⟨a2x1, 0, none⟩) 1 1, .slice (some ⟨a2x2, 0, none⟩) 2 2, .slice (some ⟨a2x3, 0, none⟩) 2 2] 28))
 have O2x3 := O2x3.below (box_below w26 (.cells #[.slice (some ⟨a2x0, 0, none⟩) 1 1, .slice (some ⟨a2x1, 0, none⟩) 1 1, .slice (some ⟨a2x2, 0, none⟩) 2 2, .slice (some ⟨a2x3, 0, none⟩) 2 2] 28))
 have hb := below_then hb (box_below w26 (.cells #[.slice (some ⟨a2x0, 0, none⟩) 1 1, .slice (some ⟨a2x1, 0, none⟩) 1 1, .slice (some ⟨a2x2, 0, none⟩) 2 2, .slice (some ⟨a2x3, 0, none⟩) 2 2] 28))
 have KR2 : KRows (w26.alloc (.cells #[.slice (some ⟨a2x0, 0, none⟩) 1 1, .slice (some ⟨a2x1, 0, none⟩) 1 1, .slice (some ⟨a2x2, 0, none⟩) 2 2, .slice (some ⟨a2x3, 0, none⟩) 2 2] 28)) (.slice (some ⟨w26.heap.size, 0, none⟩) 4 4) [((.slice (some ⟨a2x0, 0, none⟩) 1 1), [⟨true, 0, 1⟩]), ((.slice (some ⟨a2x1, 0, none⟩) 1 1), [⟨true, 1, 2⟩]), ((.slice (some ⟨a2x2, 0, none⟩) 2 2), [⟨false, 0, 1⟩, ⟨false, 1, 0⟩]), ((.slice (some ⟨a2x3, 0, none⟩) 2 2), [⟨false, 1, 2⟩, ⟨false, 0, 0⟩])] := ⟨Row.of_owns (World.ownsRow_lit (base := 0) (e := 28) (size := 1) w26 #[.slice (some ⟨a2x0, 0, none⟩) 1 1, .slice (some ⟨a2x1, 0, none⟩) 1 1, .slice (some ⟨a2x2, 0, none⟩) 2 2, .slice (some ⟨a2x3, 0, none⟩) 2 2] 4 (Nat.zero_le _) (by decide) rfl), krows_all (⟨O2x0.ops, ⟨O2x1.ops, ⟨O2x2.ops, ⟨O2x3.ops, trivial⟩⟩⟩⟩)⟩
 go_wp2_with fail
 generalize w26.alloc (.cells #[.slice (some ⟨a2x0, 0, none⟩) 1 1, .slice (some ⟨a2x1, 0, none⟩) 1 1, .slice (some ⟨a2x2, 0, none⟩) 2 2, .slice (some ⟨a2x3, 0, none⟩) 2 2] 28) = w27 at *
 generalize w26.heap.size = k2 at *
 refine (conce_any _ _ _ KR2 (by simp)).mono ?_
 rintro e w28 ⟨v2, rfl, hW, hT, hx28⟩
 obtain ⟨o2, n2, c2, rfl⟩ := txns_slice hT
 have e2 : onceL [((.slice (some ⟨a2x0, 0, none⟩) 1 1), [⟨true, 0, 1⟩]), ((.slice (some ⟨a2x1, 0, none⟩) 1 1), [⟨true, 1, 2⟩]), ((.slice (some ⟨a2x2, 0, none⟩) 2 2), [⟨false, 0, 1⟩, ⟨false, 1, 0⟩]), ((.slice (some ⟨a2x3, 0, none⟩) 2 2), [⟨false, 1, 2⟩, ⟨false, 0, 0⟩])] ([((.slice (some ⟨a2x0, 0, none⟩) 1 1), [⟨true, 0, 1⟩]), ((.slice (some ⟨a2x1, 0, none⟩) 1 1), [⟨true, 1, 2⟩]), ((.slice (some ⟨a2x2, 0, none⟩) 2 2), [⟨false, 0, 1⟩, ⟨false, 1, 0⟩]), ((.slice (some ⟨a2x3, 0, none⟩) 2 2), [⟨false, 1, 2⟩, ⟨false, 0, 0⟩])] : List KOp).length = catN 2 (fun (j : Nat) => ([.slice (some ⟨a2x0, 0, none⟩) 1 1, .slice (some ⟨a2x1, 0, none⟩) 1 1, .slice (some ⟨a2x2, 0, none⟩) 2 2, .slice (some ⟨a2x3, 0, none⟩) 2 2] : List Value).getD j undef) := by kernel_rfl
 have hI : CatH w28 w.heap.size (.slice o2 n2 c2) (onceL [((.slice (some ⟨a2x0, 0, none⟩) 1 1), [⟨true, 0, 1⟩]), ((.slice (some ⟨a2x1, 0, none⟩) 1 1), [⟨true, 1, 2⟩]), ((.slice (some ⟨a2x2, 0, none⟩) 2 2), [⟨false, 0, 1⟩, ⟨false, 1, 0⟩]), ((.slice (some ⟨a2x3, 0, none⟩) 2 2), [⟨false, 1, 2⟩, ⟨false, 0, 0⟩])] ([((.slice (some ⟨a2x0, 0, none⟩) 1 1), [⟨true, 0, 1⟩]), ((.slice (some ⟨a2x1, 0, none⟩) 1 1), [⟨true, 1, 2⟩]), ((.slice (some ⟨a2x2, 0, none⟩) 2 2), [⟨false, 0, 1⟩, ⟨false, 1, 0⟩]), ((.slice (some ⟨a2x3, 0, none⟩) 2 2), [⟨false, 1, 2⟩, ⟨false, 0, 0⟩])] : List KOp).length) := ⟨own_base' hW hb.size, conce_own (all_own (⟨O2x0.below hx28, ⟨O2x1.below hx28, ⟨O2x2.below hx28, ⟨O2x3.below hx28, trivial⟩⟩⟩⟩))⟩
 rw [e2] at hI
 generalize (fun (j : Nat) => ([.slice (some ⟨a2x0, 0, none⟩) 1 1, .slice (some ⟨a2x1, 0, none⟩) 1 1, .slice (some ⟨a2x2, 0, none⟩) 2 2, .slice (some ⟨a2x3, 0, none⟩) 2 2] : List Value).getD j undef) = u2 at hI
 have T0 := T0.below hx28
 have T1 := T1.below hx28
 have hb := below_then hb hx28
 have T2 := hI
 clear hI hT hW hx28 KR2 e2 O2x0 O2x1 O2x2 O2x3
 go_wp2_with fail
 refine (read_any 0 0 w28).mono ?_
 rintro e w29 ⟨rfl, hx29⟩
 have T0 := T0.below hx29
 have T1 := T1.below hx29
 have T2 := T2.below hx29
 have hb := below_then hb hx29
 clear hx29
 go_wp2_with fail
 refine (write_op 0 1 w29).mono ?_
 rintro e w30 ⟨rfl, hx30⟩
 have T0 := T0.below hx30
 have T1 := T1.below hx30
 have T2 := T2.below hx30
 have hb := below_then hb hx30
 clear hx30
 have O3x0 : Own (w30.alloc (.cells #[.bool false, .int .i64 0, .int .i64 0, .bool true, .int .i64 0, .int .i64 1] 26)) w.heap.size (.slice (some ⟨w30.heap.size, 0, none⟩) 2 2) [⟨false, 0, 0⟩, ⟨true, 0, 1⟩] := World.ownsRow_lit (base := w.heap.size) (e := 26) (size := 3) w30 #[.bool false, .int .i64 0, .int .i64 0, .bool true, .int .i64 0, .int .i64 1] 2 hb.size (by decide) rfl
 have T0 := T0.below (box_below w30 (.cells #[.bool false, .int .i64 0, .int .i64 0, .bool true, .int .i64 0, .int .i64 1] 26))
 have T1 := T1.below (box_below w30 (.cells #[.bool false, .int .i64 0, .int .i64 0, .bool true, .int .i64 0, .int .i64 1] 26))
 have T2 := T2.below (box_below w30 (.cells #[.bool false, .int .i64 0, .int .i64 0, .bool true, .int .i64 0, .int .i64 1] 26))
 have hb := below_then hb (box_below w30 (.cells #[.bool false, .int .i64 0, .int .i64 0, .bool true, .int .i64 0, .int .i64 1] 26))
 go_wp2_with fail
 generalize w30.alloc (.cells #[.bool false, .int .i64 0, .int .i64 0, .bool true, .int .i64 0, .int .i64 1] 26) = w31 at *
 generalize w30.heap.size = a3x0 at *
 refine (crow_any _ _ _ _).mono ?_
 rintro e wq ⟨rfl, rfl⟩
 go_wp2_with fail
 refine (read_any 0 0 w31).mono ?_
 rintro e w32 ⟨rfl, hx32⟩
 have T0 := T0.below hx32
 have T1 := T1.below hx32
 have T2 := T2.below hx32
 have O3x0 := O3x0.below hx32
 have hb := below_then hb hx32
 clear hx32
 go_wp2_with fail
 refine (write_op 0 2 w32).mono ?_
 rintro e w33 ⟨rfl, hx33⟩
 have T0 := T0.below hx33
 have T1 := T1.below hx33
 have T2 := T2.below hx33
 have O3x0 := O3x0.below hx33
 have hb := below_then hb hx33
 clear hx33
 have O3x1 : Own (w33.alloc (.cells #[.bool false, .int .i64 0, .int .i64 0, .bool true, .int .i64 0, .int .i64 2] 26)) w.heap.size (.slice (some ⟨w33.heap.size, 0, none⟩) 2 2) [⟨false, 0, 0⟩, ⟨true, 0, 2⟩] := World.ownsRow_lit (base := w.heap.size) (e := 26) (size := 3) w33 #[.bool false, .int .i64 0, .int .i64 0, .bool true, .int .i64 0, .int .i64 2] 2 hb.size (by decide) rfl
 have T0 := T0.below (box_below w33 (.cells #[.bool false, .int .i64 0, .int .i64 0, .bool true, .int .i64 0, .int .i64 2] 26))
 have T1 := T1.below (box_below w33 (.cells #[.bool false, .int .i64 0, .int .i64 0, .bool true, .int .i64 0, .int .i64 2] 26))
 have T2 := T2.below (box_below w33 (.cells #[.bool false, .int .i64 0, .int .i64 0, .bool true, .int .i64 0, .int .i64 2] 26))
 have O3x0 := O3x0.below (box_below w33 (.cells #[.bool false, .int .i64 0, .int .i64 0, .bool true, .int .i64 0, .int .i64 2] 26))
 have hb := below_then hb (box_below w33 (.cells #[.bool false, .int .i64 0, .int .i64 0, .bool true, .int .i64 0, .int .i64 2] 26))
 go_wp2_with fail
 generalize w33.alloc (.cells #[.bool false, .int .i64 0, .int .i64 0, .bool true, .int .i64 0, .int .i64 2] 26) = w34 at *
 generalize w33.heap.size = a3x1 at *
 refine (crow_any _ _ _ _).mono ?_
 rintro e wq ⟨rfl, rfl⟩
 have T0 := T0.below (box_below w34 (.cells #[.slice (some ⟨a3x0, 0, none⟩) 2 2, .slice (some ⟨a3x1, 0, none⟩) 2 2] 28))
 have T1 := T1.below (box_below w34 (.cells #[.slice (some ⟨a3x0, 0, none⟩) 2 2, .slice (some ⟨a3x1, 0, none⟩) 2 2] 28))
 have T2 := T2.below (box_below w34 (.cells #[.slice (some ⟨a3x0, 0, none⟩) 2 2, .slice (some ⟨a3x1, 0, none⟩) 2 2] 28))
 have O3x0 := O3x0.below (box_below w34 (.cells #[.slice (some ⟨a3x0, 0, none⟩) 2 2, .slice (some ⟨a3x1, 0, none⟩) 2 2] 28))
 have O3x1 := O3x1.below (box_below w34 (.cells #[.slice (some ⟨a3x0, 0, none⟩) 2 2, .slice (some ⟨a3x1, 0, none⟩) 2 2] 28))
 have hb := below_then hb (box_below w34 (.cells #[.slice (some ⟨a3x0, 0, none⟩) 2 2, .slice (some ⟨a3x1, 0, none⟩) 2 2] 28))
 have KR3 : KRows (w34.alloc (.cells #[.slice (some ⟨a3x0, 0, none⟩) 2 2, .slice (some ⟨a3x1, 0, none⟩) 2 2] 28)) (.slice (some ⟨w34.heap.size, 0, none⟩) 2 2) [((.slice (some ⟨a3x0, 0, none⟩) 2 2), [⟨false, 0, 0⟩, ⟨true, 0, 1⟩]), ((.slice (some ⟨a3x1, 0, none⟩) 2 2), [⟨false, 0, 0⟩, ⟨true, 0, 2⟩])] := ⟨Row.of_owns (World.ownsRow_lit (base := 0) (e := 28) (size := 1) w34 #[.slice (some ⟨a3x0, 0, none⟩) 2 2, .slice (some ⟨a3x1, 0, none⟩) 2 2] 2 (Nat.zero_le _) (by decide) rfl), krows_all (⟨O3x0.ops, ⟨O3x1.ops, trivial⟩⟩)⟩
 go_wp2_with fail
 generalize w34.alloc (.cells #[.slice (some ⟨a3x0, 0, none⟩) 2 2, .slice (some ⟨a3x1, 0, none⟩) 2 2] 28) = w35 at *
 generalize w34.heap.size = k3 at *
 refine (conce_any _ _ _ KR3 (by simp)).mono ?_
 rintro e w36 ⟨v3, rfl, hW, hT, hx36⟩
 obtain ⟨o3, n3, c3, rfl⟩ := txns_slice hT
 have e3 : onceL [((.slice (some ⟨a3x0, 0, none⟩) 2 2), [⟨false, 0, 0⟩, ⟨true, 0, 1⟩]), ((.slice (some ⟨a3x1, 0, none⟩) 2 2), [⟨false, 0, 0⟩, ⟨true, 0, 2⟩])] ([((.slice (some ⟨a3x0, 0, none⟩) 2 2), [⟨false, 0, 0⟩, ⟨true, 0, 1⟩]), ((.slice (some ⟨a3x1, 0, none⟩) 2 2), [⟨false, 0, 0⟩, ⟨true, 0, 2⟩])] : List KOp).length = catN 3 (fun (j : Nat) => ([.slice (some ⟨a3x0, 0, none⟩) 2 2, .slice (some ⟨a3x1, 0, none⟩) 2 2] : List Value).getD j undef) := by kernel_rfl
 have hI : CatH w36 w.heap.size (.slice o3 n3 c3) (onceL [((.slice (some ⟨a3x0, 0, none⟩) 2 2), [⟨false, 0, 0⟩, ⟨true, 0, 1⟩]), ((.slice (some ⟨a3x1, 0, none⟩) 2 2), [⟨false, 0, 0⟩, ⟨true, 0, 2⟩])] ([((.slice (some ⟨a3x0, 0, none⟩) 2 2), [⟨false, 0, 0⟩, ⟨true, 0, 1⟩]), ((.slice (some ⟨a3x1, 0, none⟩) 2 2), [⟨false, 0, 0⟩, ⟨true, 0, 2⟩])] : List KOp).length) := ⟨own_base' hW hb.size, conce_own (all_own (⟨O3x0.below hx36, ⟨O3x1.below hx36, trivial⟩⟩))⟩
 rw [e3] at hI
 generalize (fun (j : Nat) => ([.slice (some ⟨a3x0, 0, none⟩) 2 2, .slice (some ⟨a3x1, 0, none⟩) 2 2] : List Value).getD j undef) = u3 at hI
 have T0 := T0.below hx36
 have T1 := T1.below hx36
 have T2 := T2.below hx36
 have hb := below_then hb hx36
 have T3 := hI
 clear hI hT hW hx36 KR3 e3 O3x0 O3x1
 go_wp2_with fail
 refine (read_any 1 0 w36).mono ?_
 rintro e w37 ⟨rfl, hx37⟩
 have T0 := T0.below hx37
 have T1 := T1.below hx37
 have T2 := T2.below hx37
 have T3 := T3.below hx37
 have hb := below_then hb hx37
 clear hx37
 go_wp2_with fail
 refine (write_op 0 1 w37).mono ?_
 rintro e w38 ⟨rfl, hx38⟩
 have T0 := T0.below hx38
 have T1 := T1.below hx38
 have T2 := T2.below hx38
 have T3 := T3.below hx38
 have hb := below_then hb hx38
 clear hx38
 have O4x0 : Own (w38.alloc (.cells #[.bool false, .int .i64 1, .int .i64 0, .bool true, .int .i64 0, .int .i64 1] 26)) w.heap.size (.slice (some ⟨w38.heap.size, 0, none⟩) 2 2) [⟨false, 1, 0⟩, ⟨true, 0, 1⟩] := World.ownsRow_lit (base := w.heap.size) (e := 26) (size := 3) w38 #[.bool false, .int .i64 1, .int .i64 0, .bool true, .int .i64 0, .int .i64 1] 2 hb.size (by decide) rfl
 have T0 := T0.below (box_below w38 (.cells #[.bool false, .int .i64 1, .int .i64 0, .bool true, .int .i64 0, .int .i64 1] 26))
 have T1 := T1.below (box_below w38 (.cells #[.bool false, .int .i64 1, .int .i64 0, .bool true, .int .i64 0, .int .i64 1] 26))
 have T2 := T2.below (box_below w38 (.cells #[.bool false, .int .i64 1, .int .i64 0, .bool true, .int .i64 0, .int .i64 1] 26))
 have T3 := T3.below (box_below w38 (.cells #[.bool false, .int .i64 1, .int .i64 0, .bool true, .int .i64 0, .int .i64 1] 26))
 have hb := below_then hb (box_below w38 (.cells #[.bool false, .int .i64 1, .int .i64 0, .bool true, .int .i64 0, .int .i64 1] 26))
 go_wp2_with fail
 generalize w38.alloc (.cells #[.bool false, .int .i64 1, .int .i64 0, .bool true, .int .i64 0, .int .i64 1] 26) = w39 at *
 generalize w38.heap.size = a4x0 at *
 refine (crow_any _ _ _ _).mono ?_
 rintro e wq ⟨rfl, rfl⟩
 go_wp2_with fail
 refine (read_any 0 0 w39).mono ?_
 rintro e w40 ⟨rfl, hx40⟩
 have T0 := T0.below hx40
 have T1 := T1.below hx40
 have T2 := T2.below hx40
 have T3 := T3.below hx40
 have O4x0 := O4x0.below hx40
 have hb := below_then hb hx40
 clear hx40
 go_wp2_with fail
 refine (write_op 1 2 w40).mono ?_
 rintro e w41 ⟨rfl, hx41⟩
 have T0 := T0.below hx41
 have T1 := T1.below hx41
 have T2 := T2.below hx41
 have T3 := T3.below hx41
 have O4x0 := O4x0.below hx41
 have hb := below_then hb hx41
 clear hx41
 have O4x1 : Own (w41.alloc (.cells #[.bool false, .int .i64 0, .int .i64 0, .bool true, .int .i64 1, .int .i64 2] 26)) w.heap.size (.slice (some ⟨w41.heap.size, 0, none⟩) 2 2) [⟨false, 0, 0⟩, ⟨true, 1, 2⟩] := World.ownsRow_lit (base := w.heap.size) (e := 26) (size := 3) w41 #[.bool false, .int .i64 0, .int .i64 0, .bool true, .int .i64 1, .int .i64 2] 2 hb.size (by decide) rfl
 have T0 := T0.below (box_below w41 (.cells #[.bool false, .int .i64 0, .int .i64 0, .bool true, .int .i64 1, .int .i64 2] 26))
 have T1 := T1.below (box_below w41 (.cells #[.bool false, .int .i64 0, .int .i64 0, .bool true, .int .i64 1, .int .i64 2] 26))
 have T2 := T2.below (box_below w41 (.cells #[.bool false, .int .i64 0, .int .i64 0, .bool true, .int .i64 1, .int .i64 2] 26))
 have T3 := T3.below (box_below w41 (.cells #[.bool false, .int .i64 0, .int .i64 0, .bool true, .int .i64 1, .int .i64 2] 26))
 have O4x0 := O4x0.below (box_below w41 (.cells #[.bool false, .int .i64 0, .int .i64 0, .bool true, .int .i64 1, .int .i64 2] 26))
 have hb := below_then hb (box_below w41 (.cells #[.bool false, .int .i64 0, .int .i64 0, .bool true, .int .i64 1, .int .i64 2] 26))
 go_wp2_with fail
 generalize w41.alloc (.cells #[.bool false, .int .i64 0, .int .i64 0, .bool true, .int .i64 1, .int .i64 2] 26) = w42 at *
 generalize w41.heap.size = a4x1 at *
 refine (crow_any _ _ _ _).mono ?_
 rintro e wq ⟨rfl, rfl⟩
 have T0 := T0.below (box_below w42 (.cells #[.slice (some ⟨a4x0, 0, none⟩) 2 2, .slice (some ⟨a4x1, 0, none⟩) 2 2] 28))
 have T1 := T1.below (box_below w42 (.cells #[.slice (some ⟨a4x0, 0, none⟩) 2 2, .slice (some ⟨a4x1, 0, none⟩) 2 2] 28))
 have T2 := T2.below (box_below w42 (.cells #[.slice (some ⟨a4x0, 0, none⟩) 2 2, .slice (some ⟨a4x1, 0, none⟩) 2 2] 28))
 have T3 := T3.below (box_below w42 (.cells #[.slice (some ⟨a4x0, 0, none⟩) 2 2, .slice (some ⟨a4x1, 0, none⟩) 2 2] 28))
 have O4x0 := O4x0.below (box_below w42 (.cells #[.slice (some ⟨a4x0, 0, none⟩) 2 2, .slice (some ⟨a4x1, 0, none⟩) 2 2] 28))
 have O4x1 := O4x1.below (box_below w42 (.cells #[.slice (some ⟨a4x0, 0, none⟩) 2 2, .slice (some ⟨a4x1, 0, none⟩) 2 2] 28))
 have hb := below_then hb (box_below w42 (.cells #[.slice (some ⟨a4x0, 0, none⟩) 2 2, .slice (some ⟨a4x1, 0, none⟩) 2 2] 28))
 have KR4 : KRows (w42.alloc (.cells #[.slice (some ⟨a4x0, 0, none⟩) 2 2, .slice (some ⟨a4x1, 0, none⟩) 2 2] 28)) (.slice (some ⟨w42.heap.size, 0, none⟩) 2 2) [((.slice (some ⟨a4x0, 0, none⟩) 2 2), [⟨false, 1, 0⟩, ⟨true, 0, 1⟩]), ((.slice (some ⟨a4x1, 0, none⟩) 2 2), [⟨false, 0, 0⟩, ⟨true, 1, 2⟩])] := ⟨Row.of_owns (World.ownsRow_lit (base := 0) (e := 28) (size := 1) w42 #[.slice (some ⟨a4x0, 0, none⟩) 2 2, .slice (some ⟨a4x1, 0, none⟩) 2 2] 2 (Nat.zero_le _) (by decide) rfl), krows_all (⟨O4x0.ops, ⟨O4x1.ops, trivial⟩⟩)⟩
 go_wp2_with fail
 generalize w42.alloc (.cells #[.slice (some ⟨a4x0, 0, none⟩) 2 2, .slice (some ⟨a4x1, 0, none⟩) 2 2] 28) = w43 at *
 generalize w42.heap.size = k4 at *
 refine (conce_any _ _ _ KR4 (by simp)).mono ?_
 rintro e w44 ⟨v4, rfl, hW, hT, hx44⟩
 obtain ⟨o4, n4, c4, rfl⟩ := txns_slice hT
 have e4 : onceL [((.slice (some ⟨a4x0, 0, none⟩) 2 2), [⟨false, 1, 0⟩, ⟨true, 0, 1⟩]), ((.slice (some ⟨a4x1, 0, none⟩) 2 2), [⟨false, 0, 0⟩, ⟨true, 1, 2⟩])] ([((.slice (some ⟨a4x0, 0, none⟩) 2 2), [⟨false, 1, 0⟩, ⟨true, 0, 1⟩]), ((.slice (some ⟨a4x1, 0, none⟩) 2 2), [⟨false, 0, 0⟩, ⟨true, 1, 2⟩])] : List KOp).length = catN 4 (fun (j : Nat) => ([.slice (some ⟨a4x0, 0, none⟩) 2 2, .slice (some ⟨a4x1, 0, none⟩) 2 2] : List Value).getD j undef) := by kernel_rfl
 have hI : CatH w44 w.heap.size (.slice o4 n4 c4) (onceL [((.slice (some ⟨a4x0, 0, none⟩) 2 2), [⟨false, 1, 0⟩, ⟨true, 0, 1⟩]), ((.slice (some ⟨a4x1, 0, none⟩) 2 2), [⟨false, 0, 0⟩, ⟨true, 1, 2⟩])] ([((.slice (some ⟨a4x0, 0, none⟩) 2 2), [⟨false, 1, 0⟩, ⟨true, 0, 1⟩]), ((.slice (some ⟨a4x1, 0, none⟩) 2 2), [⟨false, 0, 0⟩, ⟨true, 1, 2⟩])] : List KOp).length) := ⟨own_base' hW hb.size, conce_own (all_own (⟨O4x0.below hx44, ⟨O4x1.below hx44, trivial⟩⟩))⟩
 rw [e4] at hI
 generalize (fun (j : Nat) => ([.slice (some ⟨a4x0, 0, none⟩) 2 2, .slice (some ⟨a4x1, 0, none⟩) 2 2] : List Value).getD j undef) = u4 at hI
 have T0 := T0.below hx44
 have T1 := T1.below hx44
 have T2 := T2.below hx44
 have T3 := T3.below hx44
 have hb := below_then hb hx44
 have T4 := hI
 clear hI hT hW hx44 KR4 e4 O4x0 O4x1
 go_wp2_with fail
 refine (write_op 0 1 w44).mono ?_
 rintro e w45 ⟨rfl, hx45⟩
 have T0 := T0.below hx45
 have T1 := T1.below hx45
 have T2 := T2.below hx45
 have T3 := T3.below hx45
 have T4 := T4.below hx45
 have hb := below_then hb hx45
 clear hx45
 have O5x0 : Own (w45.alloc (.cells #[.bool true, .int .i64 0, .int .i64 1] 26)) w.heap.size (.slice (some ⟨w45.heap.size, 0, none⟩) 1 1) [⟨true, 0, 1⟩] := World.ownsRow_lit (base := w.heap.size) (e := 26) (size := 3) w45 #[.bool true, .int .i64 0, .int .i64 1] 1 hb.size (by decide) rfl
 have T0 := T0.below (box_below w45 (.cells #[.bool true, .int .i64 0, .int .i64 1] 26))
 have T1 := T1.below (box_below w45 (.cells #[.bool true, .int .i64 0, .int .i64 1] 26))
 have T2 := T2.below (box_below w45 (.cells #[.bool true, .int .i64 0, .int .i64 1] 26))
 have T3 := T3.below (box_below w45 (.cells #[.bool true, .int .i64 0, .int .i64 1] 26))
 have T4 := T4.below (box_below w45 (.cells #[.bool true, .int .i64 0, .int .i64 1] 26))
 have hb := below_then hb (box_below w45 (.cells #[.bool true, .int .i64 0, .int .i64 1] 26))
 go_wp2_with fail
 generalize w45.alloc (.cells #[.bool true, .int .i64 0, .int .i64 1] 26) = w46 at *
 generalize w45.heap.size = a5x0 at *
 refine (crow_any _ _ _ _).mono ?_
 rintro e wq ⟨rfl, rfl⟩
 go_wp2_with fail
 refine (read_any 0 0 w46).mono ?_
 rintro e w47 ⟨rfl, hx47⟩
 have T0 := T0.below hx47
 have T1 := T1.below hx47
 have T2 := T2.below hx47
 have T3 := T3.below hx47
 have T4 := T4.below hx47
 have O5x0 := O5x0.below hx47
 have hb := below_then hb hx47
 clear hx47
 have O5x1 : Own (w47.alloc (.cells #[.bool false, .int .i64 0, .int .i64 0] 26)) w.heap.size (.slice (some ⟨w47.heap.size, 0, none⟩) 1 1) [⟨false, 0, 0⟩] := World.ownsRow_lit (base := w.heap.size) (e := 26) (size := 3) w47 #[.bool false, .int .i64 0, .int .i64 0] 1 hb.size (by decide) rfl
 have T0 := T0.below (box_below w47 (.cells #[.bool false, .int .i64 0, .int .i64 0] 26))
 have T1 := T1.below (box_below w47 (.cells #[.bool false, .int .i64 0, .int .i64 0] 26))
 have T2 := T2.below (box_below w47 (.cells #[.bool false, .int .i64 0, .int .i64 0] 26))
 have T3 := T3.below (box_below w47 (.cells #[.bool false, .int .i64 0, .int .i64 0] 26))
 have T4 := T4.below (box_below w47 (.cells #[.bool false, .int .i64 0, .int .i64 0] 26))
 have O5x0 := O5x0.below (box_below w47 (.cells #[.bool false, .int .i64 0, .int .i64 0] 26))
 have hb := below_then hb (box_below w47 (.cells #[.bool false, .int .i64 0, .int .i64 0] 26))
 go_wp2_with fail
 generalize w47.alloc (.cells #[.bool false, .int .i64 0, .int .i64 0] 26) = w48 at *
 generalize w47.heap.size = a5x1 at *
 refine (crow_any _ _ _ _).mono ?_
 rintro e wq ⟨rfl, rfl⟩
 have T0 := T0.below (box_below w48 (.cells #[.slice (some ⟨a5x0, 0, none⟩) 1 1, .slice (some ⟨a5x1, 0, none⟩) 1 1] 28))
 have T1 := T1.below (box_below w48 (.cells #[.slice (some ⟨a5x0, 0, none⟩) 1 1, .slice (some ⟨a5x1, 0, none⟩) 1 1] 28))
 have T2 := T2.below (box_below w48 (.cells #[.slice (some ⟨a5x0, 0, none⟩) 1 1, .slice (some ⟨a5x1, 0, none⟩) 1 1] 28))
 have T3 := T3.below (box_below w48 (.cells #[.slice (some ⟨a5x0, 0, none⟩) 1 1, .slice (some ⟨a5x1, 0, none⟩) 1 1] 28))
 have T4 := T4.below (box_below w48 (.cells #[.slice (some ⟨a5x0, 0, none⟩) 1 1, .slice (some ⟨a5x1, 0, none⟩) 1 1] 28))
 have O5x0 := O5x0.below (box_below w48 (.cells #[.slice (some ⟨a5x0, 0, none⟩) 1 1, .slice (some ⟨a5x1, 0, none⟩) 1 1] 28))
 have O5x1 := O5x1.below (box_below w48 (.cells #[.slice (some ⟨a5x0, 0, none⟩) 1 1, .slice (some ⟨a5x1, 0, none⟩) 1 1] 28))
 have hb := below_then hb (box_below w48 (.cells #[.slice (some ⟨a5x0, 0, none⟩) 1 1, .slice (some ⟨a5x1, 0, none⟩) 1 1] 28))
 have KR5 : KRows (w48.alloc (.cells #[.slice (some ⟨a5x0, 0, none⟩) 1 1, .slice (some ⟨a5x1, 0, none⟩) 1 1] 28)) (.slice (some ⟨w48.heap.size, 0, none⟩) 2 2) [((.slice (some ⟨a5x0, 0, none⟩) 1 1), [⟨true, 0, 1⟩]), ((.slice (some ⟨a5x1, 0, none⟩) 1 1), [⟨false, 0, 0⟩])] := ⟨Row.of_owns (World.ownsRow_lit (base := 0) (e := 28) (size := 1) w48 #[.slice (some ⟨a5x0, 0, none⟩) 1 1, .slice (some ⟨a5x1, 0, none⟩) 1 1] 2 (Nat.zero_le _) (by decide) rfl), krows_all (⟨O5x0.ops, ⟨O5x1.ops, trivial⟩⟩)⟩
 go_wp2_with fail
 generalize w48.alloc (.cells #[.slice (some ⟨a5x0, 0, none⟩) 1 1, .slice (some ⟨a5x1, 0, none⟩) 1 1] 28) = w49 at *
 generalize w48.heap.size = k5 at *
 refine (cturn2_any _ _ _ KR5 (by simp)).mono ?_
 rintro e w50 ⟨v5, rfl, hW, hT, hx50⟩
 obtain ⟨o5, n5, c5, rfl⟩ := txns_slice hT
 have e5 : turn2 [((.slice (some ⟨a5x0, 0, none⟩) 1 1), [⟨true, 0, 1⟩]), ((.slice (some ⟨a5x1, 0, none⟩) 1 1), [⟨false, 0, 0⟩])] ([((.slice (some ⟨a5x0, 0, none⟩) 1 1), [⟨true, 0, 1⟩]), ((.slice (some ⟨a5x1, 0, none⟩) 1 1), [⟨false, 0, 0⟩])] : List KOp).length = catN 5 (fun (j : Nat) => ([.slice (some ⟨a5x0, 0, none⟩) 1 1, .slice (some ⟨a5x1, 0, none⟩) 1 1] : List Value).getD j undef) := by kernel_rfl
 have hI : CatH w50 w.heap.size (.slice o5 n5 c5) (turn2 [((.slice (some ⟨a5x0, 0, none⟩) 1 1), [⟨true, 0, 1⟩]), ((.slice (some ⟨a5x1, 0, none⟩) 1 1), [⟨false, 0, 0⟩])] ([((.slice (some ⟨a5x0, 0, none⟩) 1 1), [⟨true, 0, 1⟩]), ((.slice (some ⟨a5x1, 0, none⟩) 1 1), [⟨false, 0, 0⟩])] : List KOp).length) := ⟨own_base' hW hb.size, cturn2_own (all_own (⟨O5x0.below hx50, ⟨O5x1.below hx50, trivial⟩⟩))⟩
 rw [e5] at hI
 generalize (fun (j : Nat) => ([.slice (some ⟨a5x0, 0, none⟩) 1 1, .slice (some ⟨a5x1, 0, none⟩) 1 1] : List Value).getD j undef) = u5 at hI
 have T0 := T0.below hx50
 have T1 := T1.below hx50
 have T2 := T2.below hx50
 have T3 := T3.below hx50
 have T4 := T4.below hx50
 have hb := below_then hb hx50
 have T5 := hI
 clear hI hT hW hx50 KR5 e5 O5x0 O5x1
 have T0 := T0.below (box_below w50 (.cells #[.string ⟨#[111, 119, 110, 32, 119, 114, 105, 116, 101, 32, 117, 110, 115, 101, 101, 110]⟩, .slice o0 n0 c0, .int .i64 1, .string ⟨#[99, 97, 117, 115, 101, 32, 117, 110, 115, 101, 101, 110]⟩, .slice o1 n1 c1, .int .i64 2, .string ⟨#[108, 111, 110, 103, 32, 102, 111, 114, 107]⟩, .slice o2 n2 c2, .int .i64 4, .string ⟨#[108, 111, 115, 116, 32, 117, 112, 100, 97, 116, 101]⟩, .slice o3 n3 c3, .int .i64 8, .string ⟨#[119, 114, 105, 116, 101, 32, 115, 107, 101, 119]⟩, .slice o4 n4 c4, .int .i64 16, .string ⟨#[115, 116, 97, 108, 101, 32, 114, 101, 97, 100]⟩, .slice o5 n5 c5, .int .i64 32] 81))
 have T1 := T1.below (box_below w50 (.cells #[.string ⟨#[111, 119, 110, 32, 119, 114, 105, 116, 101, 32, 117, 110, 115, 101, 101, 110]⟩, .slice o0 n0 c0, .int .i64 1, .string ⟨#[99, 97, 117, 115, 101, 32, 117, 110, 115, 101, 101, 110]⟩, .slice o1 n1 c1, .int .i64 2, .string ⟨#[108, 111, 110, 103, 32, 102, 111, 114, 107]⟩, .slice o2 n2 c2, .int .i64 4, .string ⟨#[108, 111, 115, 116, 32, 117, 112, 100, 97, 116, 101]⟩, .slice o3 n3 c3, .int .i64 8, .string ⟨#[119, 114, 105, 116, 101, 32, 115, 107, 101, 119]⟩, .slice o4 n4 c4, .int .i64 16, .string ⟨#[115, 116, 97, 108, 101, 32, 114, 101, 97, 100]⟩, .slice o5 n5 c5, .int .i64 32] 81))
 have T2 := T2.below (box_below w50 (.cells #[.string ⟨#[111, 119, 110, 32, 119, 114, 105, 116, 101, 32, 117, 110, 115, 101, 101, 110]⟩, .slice o0 n0 c0, .int .i64 1, .string ⟨#[99, 97, 117, 115, 101, 32, 117, 110, 115, 101, 101, 110]⟩, .slice o1 n1 c1, .int .i64 2, .string ⟨#[108, 111, 110, 103, 32, 102, 111, 114, 107]⟩, .slice o2 n2 c2, .int .i64 4, .string ⟨#[108, 111, 115, 116, 32, 117, 112, 100, 97, 116, 101]⟩, .slice o3 n3 c3, .int .i64 8, .string ⟨#[119, 114, 105, 116, 101, 32, 115, 107, 101, 119]⟩, .slice o4 n4 c4, .int .i64 16, .string ⟨#[115, 116, 97, 108, 101, 32, 114, 101, 97, 100]⟩, .slice o5 n5 c5, .int .i64 32] 81))
 have T3 := T3.below (box_below w50 (.cells #[.string ⟨#[111, 119, 110, 32, 119, 114, 105, 116, 101, 32, 117, 110, 115, 101, 101, 110]⟩, .slice o0 n0 c0, .int .i64 1, .string ⟨#[99, 97, 117, 115, 101, 32, 117, 110, 115, 101, 101, 110]⟩, .slice o1 n1 c1, .int .i64 2, .string ⟨#[108, 111, 110, 103, 32, 102, 111, 114, 107]⟩, .slice o2 n2 c2, .int .i64 4, .string ⟨#[108, 111, 115, 116, 32, 117, 112, 100, 97, 116, 101]⟩, .slice o3 n3 c3, .int .i64 8, .string ⟨#[119, 114, 105, 116, 101, 32, 115, 107, 101, 119]⟩, .slice o4 n4 c4, .int .i64 16, .string ⟨#[115, 116, 97, 108, 101, 32, 114, 101, 97, 100]⟩, .slice o5 n5 c5, .int .i64 32] 81))
 have T4 := T4.below (box_below w50 (.cells #[.string ⟨#[111, 119, 110, 32, 119, 114, 105, 116, 101, 32, 117, 110, 115, 101, 101, 110]⟩, .slice o0 n0 c0, .int .i64 1, .string ⟨#[99, 97, 117, 115, 101, 32, 117, 110, 115, 101, 101, 110]⟩, .slice o1 n1 c1, .int .i64 2, .string ⟨#[108, 111, 110, 103, 32, 102, 111, 114, 107]⟩, .slice o2 n2 c2, .int .i64 4, .string ⟨#[108, 111, 115, 116, 32, 117, 112, 100, 97, 116, 101]⟩, .slice o3 n3 c3, .int .i64 8, .string ⟨#[119, 114, 105, 116, 101, 32, 115, 107, 101, 119]⟩, .slice o4 n4 c4, .int .i64 16, .string ⟨#[115, 116, 97, 108, 101, 32, 114, 101, 97, 100]⟩, .slice o5 n5 c5, .int .i64 32] 81))
 have T5 := T5.below (box_below w50 (.cells #[.string ⟨#[111, 119, 110, 32, 119, 114, 105, 116, 101, 32, 117, 110, 115, 101, 101, 110]⟩, .slice o0 n0 c0, .int .i64 1, .string ⟨#[99, 97, 117, 115, 101, 32, 117, 110, 115, 101, 101, 110]⟩, .slice o1 n1 c1, .int .i64 2, .string ⟨#[108, 111, 110, 103, 32, 102, 111, 114, 107]⟩, .slice o2 n2 c2, .int .i64 4, .string ⟨#[108, 111, 115, 116, 32, 117, 112, 100, 97, 116, 101]⟩, .slice o3 n3 c3, .int .i64 8, .string ⟨#[119, 114, 105, 116, 101, 32, 115, 107, 101, 119]⟩, .slice o4 n4 c4, .int .i64 16, .string ⟨#[115, 116, 97, 108, 101, 32, 114, 101, 97, 100]⟩, .slice o5 n5 c5, .int .i64 32] 81))
 have hb := below_then hb (box_below w50 (.cells #[.string ⟨#[111, 119, 110, 32, 119, 114, 105, 116, 101, 32, 117, 110, 115, 101, 101, 110]⟩, .slice o0 n0 c0, .int .i64 1, .string ⟨#[99, 97, 117, 115, 101, 32, 117, 110, 115, 101, 101, 110]⟩, .slice o1 n1 c1, .int .i64 2, .string ⟨#[108, 111, 110, 103, 32, 102, 111, 114, 107]⟩, .slice o2 n2 c2, .int .i64 4, .string ⟨#[108, 111, 115, 116, 32, 117, 112, 100, 97, 116, 101]⟩, .slice o3 n3 c3, .int .i64 8, .string ⟨#[119, 114, 105, 116, 101, 32, 115, 107, 101, 119]⟩, .slice o4 n4 c4, .int .i64 16, .string ⟨#[115, 116, 97, 108, 101, 32, 114, 101, 97, 100]⟩, .slice o5 n5 c5, .int .i64 32] 81))
 have hn := heap_alloc_new w50 (.cells #[.string ⟨#[111, 119, 110, 32, 119, 114, 105, 116, 101, 32, 117, 110, 115, 101, 101, 110]⟩, .slice o0 n0 c0, .int .i64 1, .string ⟨#[99, 97, 117, 115, 101, 32, 117, 110, 115, 101, 101, 110]⟩, .slice o1 n1 c1, .int .i64 2, .string ⟨#[108, 111, 110, 103, 32, 102, 111, 114, 107]⟩, .slice o2 n2 c2, .int .i64 4, .string ⟨#[108, 111, 115, 116, 32, 117, 112, 100, 97, 116, 101]⟩, .slice o3 n3 c3, .int .i64 8, .string ⟨#[119, 114, 105, 116, 101, 32, 115, 107, 101, 119]⟩, .slice o4 n4 c4, .int .i64 16, .string ⟨#[115, 116, 97, 108, 101, 32, 114, 101, 97, 100]⟩, .slice o5 n5 c5, .int .i64 32] 81)
 have HF := hid (cat_made w50 81 (fun i => if i = 0 then .slice o0 n0 c0 else if i = 1 then .slice o1 n1 c1 else if i = 2 then .slice o2 n2 c2 else if i = 3 then .slice o3 n3 c3 else if i = 4 then .slice o4 n4 c4 else .slice o5 n5 c5))
 have HTT := hid (And.intro T0 (And.intro T1 (And.intro T2 (And.intro T3 (And.intro T4 T5)))))
 clear T0 T1 T2 T3 T4 T5 hn
 go_wp2_with fail
 go_ret
 refine ⟨⟨_, (fun i => if i = 0 then .slice o0 n0 c0 else if i = 1 then .slice o1 n1 c1 else if i = 2 then .slice o2 n2 c2 else if i = 3 then .slice o3 n3 c3 else if i = 4 then .slice o4 n4 c4 else .slice o5 n5 c5), (fun i => if i = 0 then u0 else if i = 1 then u1 else if i = 2 then u2 else if i = 3 then u3 else if i = 4 then u4 else u5), rfl, HF.out, fun i hi => ?_⟩, hb⟩
 obtain ⟨T0, T1, T2, T3, T4, T5⟩ := HTT.out
 rcases (by omega : i = 0 ∨ i = 1 ∨ i = 2 ∨ i = 3 ∨ i = 4 ∨ i = 5) with rfl | rfl | rfl | rfl | rfl | rfl
 ·exact T0
 ·exact T1
 ·exact T2
 ·exact T3
 ·exact T4
 ·exact T5
end

section
open Go.RowKit
def catF (a b : Int) : Option Nat := if (isLv a && isLv b) = true then (List.range 6).find? (fun i => (missN a b).testBit i) else none
theorem missN_lt (a b : Int) : missN a b < 64 := by
 unfold missN
 exact Nat.xor_lt_two_pow (n := 6) (askN_lt b) (Nat.lt_of_le_of_lt Nat.and_le_left (askN_lt b))
theorem range_find {p : Nat → Bool} {n k : Nat} (hk : k < n) (hn : ∀ j, j < k → p j = false) (hp : p k = true) : (List.range n).find? p = some k := by
 obtain ⟨d, rfl⟩ : ∃ d, n = k + (d + 1) := ⟨n - k - 1, by omega⟩
 rw [List.range_add, List.find?_append, List.find?_eq_none.2 (fun j hj => by rw [hn j (List.mem_range.1 hj)]; simp), Option.none_or]
 rw [List.range_succ_eq_map, List.map_cons, List.find?_cons]
 simp [hp]
theorem range_none {p : Nat → Bool} {n : Nat} (hn : ∀ j, j < n → p j = false) : (List.range n).find? p = none := List.find?_eq_none.2 (fun j hj => by rw [hn j (List.mem_range.1 hj)]; simp)
theorem catF_none {a b : Int} (h : impB a b = true) : catF a b = none := by
 unfold impB at h
 simp only [Bool.and_eq_true, decide_eq_true_eq] at h
 unfold catF
 rw [if_pos (by rw [h.1, h.2.1]; rfl), h.2.2]
 exact range_none fun j _ => Nat.zero_testBit j
theorem catF_off {a b : Int} (h : (isLv a && isLv b) = false) : catF a b = none := by unfold catF; rw [if_neg (by rw [h]; simp)]
theorem catF_some {a b : Int} (hl : (isLv a && isLv b) = true) (h : impB a b = false) : ∃ i, i < 6 ∧ catF a b = some i ∧ (missN a b).testBit i = true ∧ ∀ j, j < i → (missN a b).testBit j = false := by
 have hl2 := hl
 rw [Bool.and_eq_true] at hl2
 have hm : missN a b ≠ 0 := fun e => by
  unfold impB at h
  rw [hl2.1, hl2.2, e] at h
  simp at h
 unfold catF
 rw [if_pos hl]
 cases hf : (List.range 6).find? (fun i => (missN a b).testBit i) with
 | none =>
  exact (hm (Nat.eq_of_testBit_eq fun i => by
   rw [Nat.zero_testBit]
   by_cases hi : i < 6
   ·have := List.find?_eq_none.1 hf i (List.mem_range.2 hi)
    simpa using this
   ·exact Nat.testBit_lt_two_pow (Nat.lt_of_lt_of_le (missN_lt a b) (Nat.pow_le_pow_right (n := 2) (by omega) (show 6 ≤ i by omega))))).elim
 | some i =>
  have hi := List.mem_range.1 (List.mem_of_find?_eq_some hf)
  refine ⟨i, hi, rfl, List.find?_some hf, fun j hj => ?_⟩
  cases e : (missN a b).testBit j with
  | false => rfl
  | true =>
   obtain ⟨k, hk, hb⟩ : ∃ k, k ≤ j ∧ ((missN a b).testBit k = true ∧ ∀ m, m < k → (missN a b).testBit m = false) := by
    have key : ∀ n, (∃ k, k ≤ n ∧ (missN a b).testBit k = true) → ∃ k, k ≤ n ∧ ((missN a b).testBit k = true ∧ ∀ m, m < k → (missN a b).testBit m = false) := by
     intro n
     induction n with
     | zero => rintro ⟨k, hk, h⟩; exact ⟨k, hk, h, fun m hm => by omega⟩
     | succ n ih =>
      rintro ⟨k, hk, h⟩
      by_cases q : ∃ k, k ≤ n ∧ (missN a b).testBit k = true
      ·obtain ⟨k, h1, h2⟩ := ih q
       exact ⟨k, by omega, h2⟩
      ·exact ⟨k, hk, h, fun m hm => by
        cases e : (missN a b).testBit m with
        | false => rfl
        | true => exact (q ⟨m, by omega, e⟩).elim⟩
    exact key j ⟨j, Nat.le_refl _, e⟩
   have hg := range_find (n := 6) (p := fun i => (missN a b).testBit i) (show k < 6 by omega) hb.2 hb.1
   rw [hf] at hg
   injection hg with hg
   omega
structure EntAt (w : World) (g : Nat) (s : ByteArray) (v : Value) (m : Int) : Prop where
 c0 : w.cell? ⟨g, 0, none⟩ = some (.string s)
 c1 : w.cell? ⟨g, 1, none⟩ = some v
 c2 : w.cell? ⟨g, 2, none⟩ = some (.int .i64 m)
 f0 : w.frozen? ⟨g, 0, none⟩ = false
 f1 : w.frozen? ⟨g, 1, none⟩ = false
 f2 : w.frozen? ⟨g, 2, none⟩ = false
theorem EntAt.made (w : World) (s : ByteArray) (v : Value) (m : Int) (t : TypeId) : EntAt (w.alloc (.cells #[.string s, v, .int .i64 m] t)) w.heap.size s v m := by
 have hn := heap_alloc_new w (.cells #[.string s, v, .int .i64 m] t)
 refine ⟨?_, ?_, ?_, frozen_of_row _ _ _ _ _ hn, frozen_of_row _ _ _ _ _ hn, frozen_of_row _ _ _ _ _ hn⟩ <;> (rw [cell_of_row _ _ _ _ _ _ hn]; rfl)
section
variable {w w' : World} {g : Nat} {s : ByteArray} {v : Value} {m : Int}
theorem EntAt.lt (h : EntAt w g s v m) : g < w.heap.size := block_lt h.c0
theorem EntAt.below {B : Nat} (h : EntAt w g s v m) (hb : Below B w w') (hB : g < B) : EntAt w' g s v m :=
 ⟨(hb.cell (p := ⟨g, 0, none⟩) hB).trans h.c0, (hb.cell (p := ⟨g, 1, none⟩) hB).trans h.c1, (hb.cell (p := ⟨g, 2, none⟩) hB).trans h.c2, (hb.frozen (p := ⟨g, 0, none⟩) hB).trans h.f0, (hb.frozen (p := ⟨g, 1, none⟩) hB).trans h.f1, (hb.frozen (p := ⟨g, 2, none⟩) hB).trans h.f2⟩
theorem EntAt.set (h : EntAt w g s v m) (s' : ByteArray) (v' : Value) (m' : Int) : EntAt (((w.setCell ⟨g, 0, none⟩ (.string s')).setCell ⟨g, 1, none⟩ v').setCell ⟨g, 2, none⟩ (.int .i64 m')) g s' v' m' := by
 refine ⟨?_, ?_, ?_, ?_, ?_, ?_⟩
 ·rw [World.cell?_setCell_other _ _ _ _ (by simp), World.cell?_setCell_other _ _ _ _ (by simp), World.cell?_setCell_same _ _ _ h.c0]
 ·rw [World.cell?_setCell_other _ _ _ _ (by simp)]
  exact World.cell?_setCell_same _ _ _ (by rw [World.cell?_setCell_other _ _ _ _ (by simp)]; exact h.c1)
 ·exact World.cell?_setCell_same _ _ _ (by rw [World.cell?_setCell_other _ _ _ _ (by simp), World.cell?_setCell_other _ _ _ _ (by simp)]; exact h.c2)
 all_goals (rw [World.frozen?_setCell, World.frozen?_setCell, World.frozen?_setCell])
 ·exact h.f0
 ·exact h.f1
 ·exact h.f2
end
def CatRes (a b : Int) (b0 : Nat) (e : Ending) (w' : World) : Prop := match catF a b with
 | none => e = .returned (.tuple #[.agg #[.string ByteArray.empty, .slice none 0 0, .int .i64 0], .bool false])
 | some i => ∃ v u, e = .returned (.tuple #[.agg #[.string (catS i), v, .int .i64 ((2 ^ i : Nat) : Int)], .bool true]) ∧ CatH w' b0 v (catN i u)
theorem cat_bit (i : Nat) (hi : i < 6) (a b : Int) : ((bits .and .i64 ((2 ^ i : Nat) : Int) ((missN a b : Nat) : Int)) != 0) = (missN a b).testBit i := by
 have hm := missN_lt a b
 have hp : 2 ^ i < 9223372036854775808 := Nat.lt_of_lt_of_le (Nat.pow_lt_pow_right (a := 2) (by omega) hi) (by decide)
 have e : bits .and .i64 ((2 ^ i : Nat) : Int) ((missN a b : Nat) : Int) = ((2 ^ i &&& missN a b : Nat) : Int) := i64_and_nat _ _ hp (by omega)
 rw [e, Nat.and_comm]
 have := nat_bit (missN a b) i
 cases h : (missN a b).testBit i with
 | false => rw [this.2 h]; rfl
 | true =>
  rw [bne_iff_ne]
  intro q
  have q2 : missN a b &&& 2 ^ i = 0 := by omega
  rw [this.1 q2] at h
  cases h
theorem cfind_any (a b : Int) (w : World) (hK : Kinds w) : Calls Tryz.prog 49 #[.int .i64 a, .int .i64 b] w fun e w' => CatRes a b w.heap.size e w' ∧ Below w.heap.size w w' := by
 have hbx := box_below w (.cells #[.string ByteArray.empty, .slice none 0 0, .int .i64 0] 81)
 have hs1 : (w.alloc (.cells #[.string ByteArray.empty, .slice none 0 0, .int .i64 0] 81)).heap.size = w.heap.size + 1 := by simp
 have E0 := EntAt.made w ByteArray.empty (.slice none 0 0) 0 81
 have CA := hid (fun wx => lis_any a wx)
 have CB := hid (fun wx => lis_any b wx)
 have CM := hid (lmiss_any a b _ (hK.below hbx))
 have CL := hid (fun wx => call_any wx)
 have HBX := hid hbx
 have HE0 := hid E0
 have hz : (({ data := #[] } : ByteArray)) = ByteArray.empty := rfl
 clear hK hbx E0
 go_enter Tryz.func49, Tryz.ntmps49
 go_upto_region 1 with fail
 clear hz
 generalize w.alloc (.cells #[.string ByteArray.empty, .slice none 0 0, .int .i64 0] 81) = w1 at *
 have HE := HE0.out
 have hb1 := HBX.out
 cases ha : isLv a with
 | false =>
  have HCF : Hid (catF a b = none) := hid (catF_off (by rw [ha]; rfl))
  rw [ha] at CA
  clear CB CM CL ha HE0 HBX
  go_wp2_with fail
  refine (CA.out _).mono ?_
  rintro e wq ⟨rfl, rfl⟩
  clear CA
  have HE9 := hid (HE.set ⟨#[]⟩ (.slice none 0 0) 0)
  have HB9 := hid (((hb1.setCell (p := ⟨w.heap.size, 0, none⟩) (Nat.le_refl _) (.string ⟨#[]⟩)).setCell (p := ⟨w.heap.size, 1, none⟩) (Nat.le_refl _) (.slice none 0 0)).setCell (p := ⟨w.heap.size, 2, none⟩) (Nat.le_refl _) (.int .i64 0))
  have HF : Hid (CatRes a b w.heap.size (.returned (.tuple #[.agg #[.string ⟨#[]⟩, .slice none 0 0, .int .i64 0], .bool false])) ((((w1).setCell ⟨w.heap.size, 0, none⟩ (.string ⟨#[]⟩)).setCell ⟨w.heap.size, 1, none⟩ (.slice none 0 0)).setCell ⟨w.heap.size, 2, none⟩ (.int .i64 0))) := hid (by unfold CatRes; rw [HCF.out]; rfl)
  obtain ⟨k0, k1, k2, k3, k4, k5⟩ := HE
  go_wp2_with fail
  obtain ⟨d0, d1, d2, _, _, _⟩ := HE9.out
  refine bodyPost_ret (v := .tuple #[.agg #[.string ⟨#[]⟩, .slice none 0 0, .int .i64 0], .bool false]) ?_ rfl ⟨HF.out, HB9.out⟩
  simp [results, Tryz.results49, go_sem, d0, d1, d2]
 | true =>
  rw [ha] at CA
  cases hb : isLv b with
  | false =>
   have HCF : Hid (catF a b = none) := hid (catF_off (by rw [ha, hb]; rfl))
   rw [hb] at CB
   clear CM CL ha hb HE0 HBX
   go_wp2_with fail
   refine (CA.out _).mono ?_
   rintro e wq ⟨rfl, rfl⟩
   go_wp2_with fail
   refine (CB.out _).mono ?_
   rintro e wq ⟨rfl, rfl⟩
   clear CA CB
   have HE9 := hid (HE.set ⟨#[]⟩ (.slice none 0 0) 0)
   have HB9 := hid (((hb1.setCell (p := ⟨w.heap.size, 0, none⟩) (Nat.le_refl _) (.string ⟨#[]⟩)).setCell (p := ⟨w.heap.size, 1, none⟩) (Nat.le_refl _) (.slice none 0 0)).setCell (p := ⟨w.heap.size, 2, none⟩) (Nat.le_refl _) (.int .i64 0))
   have HF : Hid (CatRes a b w.heap.size (.returned (.tuple #[.agg #[.string ⟨#[]⟩, .slice none 0 0, .int .i64 0], .bool false])) ((((w1).setCell ⟨w.heap.size, 0, none⟩ (.string ⟨#[]⟩)).setCell ⟨w.heap.size, 1, none⟩ (.slice none 0 0)).setCell ⟨w.heap.size, 2, none⟩ (.int .i64 0))) := hid (by unfold CatRes; rw [HCF.out]; rfl)
   obtain ⟨k0, k1, k2, k3, k4, k5⟩ := HE
   go_wp2_with fail
   obtain ⟨d0, d1, d2, _, _, _⟩ := HE9.out
   refine bodyPost_ret (v := .tuple #[.agg #[.string ⟨#[]⟩, .slice none 0 0, .int .i64 0], .bool false]) ?_ rfl ⟨HF.out, HB9.out⟩
   simp [results, Tryz.results49, go_sem, d0, d1, d2]
  | true =>
   have HCN : Hid (∀ i, i < 6 → (∀ j, j < i → (missN a b).testBit j = false) → (missN a b).testBit i = true → catF a b = some i) := hid (fun i hi h1 h2 => by unfold catF; rw [if_pos (by rw [ha, hb]; rfl)]; exact range_find hi h1 h2)
   have HCO : Hid ((∀ j, j < 6 → (missN a b).testBit j = false) → catF a b = none) := hid (fun h1 => by unfold catF; rw [if_pos (by rw [ha, hb]; rfl)]; exact range_none h1)
   rw [hb] at CB
   have HBIT := hid (fun i hi => cat_bit i hi a b)
   have HML := hid (missN_lt a b)
   clear ha hb HE0 HBX
   go_wp2_with fail
   refine (CA.out _).mono ?_
   rintro e wq ⟨rfl, rfl⟩
   go_wp2_with fail
   refine (CB.out _).mono ?_
   rintro e wq ⟨rfl, rfl⟩
   clear CA CB
   go_wp2_with fail
   refine CM.out.mono ?_
   rintro e wq ⟨rfl, rfl⟩
   clear CM
   go_wp2_with fail
   refine (CL.out _).mono ?_
   rintro e w2 ⟨⟨g, vs, us, rfl, hC, hT⟩, h2⟩
   have hg1 := HE.lt
   have HE := HE.below h2 HE.lt
   have hb2 := below_then hb1 h2
   have HCT := hid (fun wx (hx : Below w2.heap.size w2 wx) => hC.below hx)
   have HTT := hid (fun i hi wx (hx : Below w2.heap.size w2 wx) => (hT i hi).below hx)
   have HVF := hid (fun i (hi : i < 6) => txns_slice (hT i hi).txns)
   have HS2 := hid (show w.heap.size < w2.heap.size by have := h2.size; omega)
   clear CL hC hT h2 hb1 hg1
   go_wp2_with fail
   generalize hmm : missN a b = mm at *
   go_loopw [23] (fun i wr => ∃ k : Nat, k ≤ 6 ∧ i = .int .i64 (k : Int) ∧ Hid (∀ j, j < k → mm.testBit j = false) ∧ EntAt wr w.heap.size ByteArray.empty (.slice none 0 0) 0 ∧ Below w2.heap.size w2 wr) (fun i _ => 6 - (intOf i).toNat)
   case atStart => exact ⟨0, by omega, rfl, hid (fun j hj => by omega), HE, Below.refl _ _⟩
   case round =>
    obtain ⟨k, hk, rfl, HN, HE, hbr⟩ := hrel
    by_cases hlt : k < 6
    ·have hki : (k : Int) < 6 := by omega
     obtain ⟨c0, c1, c2⟩ := HCT.out wr hbr k hlt
     obtain ⟨oo, nn, cc, hv⟩ := HVF.out k hlt
     rw [hv] at c1
     have hbt := HBIT.out k hlt
     have hd0 : decide ((k : Int) < 0) = false := decide_eq_false (by omega)
     have hd1 : decide ((6 : Int) ≤ (k : Int)) = false := decide_eq_false (by omega)
     have hd2 : decide (6 ≤ k) = false := decide_eq_false (by omega)
     have hx := box_below wr (.cells #[.string (catS k), .slice oo nn cc, .int .i64 ((2 ^ k : Nat) : Int)] 81)
     have hE := EntAt.made wr (catS k) (.slice oo nn cc) ((2 ^ k : Nat) : Int) 81
     have HER := HE.below hx HE.lt
     have hbx := below_then hbr hx
     have HTK := hid (fun wx (hxx : Below w2.heap.size w2 wx) => by have h := HTT.out k hlt wx hxx; rw [hv] at h; exact h)
     generalize h2k : (((2 ^ k : Nat)) : Int) = tk at *
     have H2K := hid h2k
     clear HE hx hv h2k
     have hlw := hE.lt
     have hneq : w.heap.size < wr.heap.size := by have := HS2.out; have := hbr.size; omega
     go_upto_region 7 with fail
     generalize wr.alloc (.cells #[.string (catS k), .slice oo nn cc, .int .i64 tk] 81) = w3 at *
     generalize wr.heap.size = x3 at *
     obtain ⟨m0, m1, m2, _, _, _⟩ := hE
     cases htb : mm.testBit k with
     | false =>
      rw [htb] at hbt
      have HN2 : Hid (∀ j, j < k + 1 → mm.testBit j = false) := hid (fun j hj => by
       by_cases e : j = k
       ·rw [e]; exact htb
       ·exact HN.out j (by omega))
      clear htb HN
      go_wp2_with fail
      go_roundw
      case rel => exact ⟨k + 1, by omega, by go_num, HN2, HER, hbx⟩
      case measure => simp [intOf]; omega
     | true =>
      rw [htb] at hbt
      subst hmm
      have HCF := hid (HCN.out k hlt HN.out htb)
      have HE9 := hid (HER.set (catS k) (.slice oo nn cc) tk)
      have HB9 := hid ((((below_then hb2 hbx).setCell (p := ⟨w.heap.size, 0, none⟩) (Nat.le_refl _) (.string (catS k))).setCell (p := ⟨w.heap.size, 1, none⟩) (Nat.le_refl _) (.slice oo nn cc)).setCell (p := ⟨w.heap.size, 2, none⟩) (Nat.le_refl _) (.int .i64 tk))
      have HT9 := hid ((((HTK.out _ hbx).far (p := ⟨w.heap.size, 0, none⟩) (by show w.heap.size < w1.heap.size; omega) (.string (catS k))).far (p := ⟨w.heap.size, 1, none⟩) (by show w.heap.size < w1.heap.size; omega) (.slice oo nn cc)).far (p := ⟨w.heap.size, 2, none⟩) (by show w.heap.size < w1.heap.size; omega) (.int .i64 tk))
      clear htb HN HCN HCO
      obtain ⟨k0, k1, k2, k3, k4, k5⟩ := HER
      go_wp2_with fail
      obtain ⟨d0, d1, d2, _, _, _⟩ := HE9.out
      refine bodyPost_ret (v := .tuple #[.agg #[.string (catS k), .slice oo nn cc, .int .i64 tk], .bool true]) ?_ rfl ⟨?_, HB9.out⟩
      ·simp [results, Tryz.results49, go_sem, d0, d1, d2]
      ·unfold CatRes
       rw [HCF.out]
       exact ⟨_, _, by rw [← H2K.out], HT9.out.base (by omega)⟩
    ·obtain rfl : k = 6 := by omega
     have hki : ¬ ((6 : Nat) : Int) < 6 := by omega
     subst hmm
     have HCF : Hid (catF a b = none) := hid (HCO.out HN.out)
     have hbz := below_then hb2 hbr
     clear HCN HCO HBIT HN HTT HCT HVF
     have HE9 := hid (HE.set ⟨#[]⟩ (.slice none 0 0) 0)
     have HB9 := hid (((hbz.setCell (p := ⟨w.heap.size, 0, none⟩) (Nat.le_refl _) (.string ⟨#[]⟩)).setCell (p := ⟨w.heap.size, 1, none⟩) (Nat.le_refl _) (.slice none 0 0)).setCell (p := ⟨w.heap.size, 2, none⟩) (Nat.le_refl _) (.int .i64 0))
     have HF : Hid (CatRes a b w.heap.size (.returned (.tuple #[.agg #[.string ⟨#[]⟩, .slice none 0 0, .int .i64 0], .bool false])) ((((wr).setCell ⟨w.heap.size, 0, none⟩ (.string ⟨#[]⟩)).setCell ⟨w.heap.size, 1, none⟩ (.slice none 0 0)).setCell ⟨w.heap.size, 2, none⟩ (.int .i64 0))) := hid (by unfold CatRes; rw [HCF.out]; rfl)
     obtain ⟨k0, k1, k2, k3, k4, k5⟩ := HE
     go_wp2_with fail
     obtain ⟨d0, d1, d2, _, _, _⟩ := HE9.out
     refine bodyPost_ret (v := .tuple #[.agg #[.string ⟨#[]⟩, .slice none 0 0, .int .i64 0], .bool false]) ?_ rfl ⟨HF.out, HB9.out⟩
     simp [results, Tryz.results49, go_sem, d0, d1, d2]
end

end Go.Proofs.YtmcicfdnmfbimaaGreatDoor
