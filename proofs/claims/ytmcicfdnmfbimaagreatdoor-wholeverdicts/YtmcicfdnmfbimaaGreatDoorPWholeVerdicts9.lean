/- Walks and plain facts that the proof of the statement WholeVerdicts uses, joined: VecD TblM TblB TblC VecE VecF VecG VecH LevD TblD TblE TblF TblG TblJ TblH TblK VecJ VecK VerA. Conditions: each theorem's own. -/
import Derived.ChangeKeysEq
import Derived.Outline
import Derived.Deep.MidRow
import Derived.Laws.BitsAllLaws
import Derived.Test.YtmcicfdnmfbimaaGreatDoorPWholeVerdicts0
import Derived.Test.YtmcicfdnmfbimaaGreatDoorPWholeVerdicts2
import Derived.Test.YtmcicfdnmfbimaaGreatDoorPWholeVerdicts5
import Derived.Test.YtmcicfdnmfbimaaGreatDoorPWholeVerdicts7
import Derived.Test.YtmcicfdnmfbimaaGreatDoorPWholeVerdicts8
namespace Go.Proofs.YtmcicfdnmfbimaaGreatDoor
set_option maxHeartbeats 32000000
set_option maxRecDepth 100000
open Lib (hid)
section
theorem zA9 {α : Type _} (l : List α) (i : Nat) (a : α) : l.toArray.setIfInBounds i a = (l.set i a).toArray := List.setIfInBounds_toArray ..
theorem zB9 {α : Type _} {x : α} {xs : List α} {a : α} : (x :: xs).set 0 a = a :: xs := List.set_cons_zero
theorem zC9 {α : Type _} {x : α} {xs : List α} {i : Nat} {a : α} : (x :: xs).set (i + 1) a = x :: xs.set i a := List.set_cons_succ
theorem tG9 {P : Program} {ops : Array Oper} {Q : Exit → Act → World → Prop} {md : Region.Mode} {S : World → Prop} (d : Option Tmp) (i : Nat) {oi : Oper} (v : Value) {fuel : Nat} {listed : Array Bool} {a : Act} {w : World} (hi : ops[i]? = some oi) (hd : oi.dst = d)
 (hy : YieldsIf P ops S oi v a) (hS : S w) (h : wpAnyH P md ops Q S fuel (listed.setIfInBounds i true) (a.put d v) w)
 (hs : Region.noSelect ops = true := by kernel_rfl) (hf : Region.free md ops listed i = true := by kernel_rfl) (hr : (Region.ready md ops listed).contains i = true := by kernel_rfl)
 (hQ : ∀ c a w, Q (.panic c) (a.put oi.dst v) w → Q (.panic c) a w := by exact fun _ _ _ h => h) : wpAnyH P md ops Q S (fuel + 1) listed a w := takeG d hi hd hs hf hr hQ hy hS h
theorem tA9 {P : Program} {ops : Array Oper} {Q : Exit → Act → World → Prop} {md : Region.Mode} {S : World → Prop} (d : Option Tmp) (i : Nat) {oi : Oper} {v : Value} {fuel : Nat} {listed : Array Bool} {a : Act} {w : World} (hi : ops[i]? = some oi) (hd : oi.dst = d)
 (hS : S w) (h : wpAnyH P md ops Q S fuel (listed.setIfInBounds i true) (a.put d v) w)
 (hy : YieldsIf P ops S oi v a := by exact Or.inl ⟨by rfl, by intro w _; go_simp; try (with_reducible rfl)⟩)
 (hs : Region.noSelect ops = true := by kernel_rfl) (hf : Region.free md ops listed i = true := by kernel_rfl) (hr : (Region.ready md ops listed).contains i = true := by kernel_rfl)
 (hQ : ∀ c a w, Q (.panic c) (a.put oi.dst v) w → Q (.panic c) a w := by exact fun _ _ _ h => h) : wpAnyH P md ops Q S (fuel + 1) listed a w := takeG d hi hd hs hf hr hQ hy hS h
theorem rD9 {P : Program} {ops : Array Oper} {Q : Exit → Act → World → Prop} {md : Region.Mode} {S : World → Prop} {fuel : Nat} {listed : Array Bool} {a : Act} {w : World} (i : Nat) {o : Oper} (ho : ops[i]? = some o)
 (h : ∀ K' : Act → World → Prop, Go.Shut (∀ a w, S w → (S w → wpAnyH P md ops Q S fuel (listed.setIfInBounds i true) a w) → K' a w) → if Region.wanted o (yielded ops a.tmps) = true then Oper.wp P o a w K' Q else K' (a.put o.dst undef) w)
 (hr : Region.ready md ops listed = [i] := by kernel_rfl) : wpAnyH P md ops Q S (fuel + 1) listed a w := wpAnyH_ready hr (by simp) (AllReadyH.cons ho h AllReadyH.nil)
end
section
open Go.RowKit
theorem vec_zero : #[.bool false, .bool false, .bool false, .bool false, .bool false, .bool false, .bool false, .bool false, .bool false, .bool false, .bool false, .bool false, .slice none 0 0, .slice none 0 0, .slice none 0 0, .slice none 0 0, .slice none 0 0, .slice none 0 0, .slice none 0 0, .slice none 0 0, .slice none 0 0, .slice none 0 0, .slice none 0 0, .slice none 0 0, .slice none 0 0, .slice none 0 0, .slice none 0 0, .slice none 0 0, .slice none 0 0, .slice none 0 0, .slice none 0 0, .slice none 0 0, .slice none 0 0, .slice none 0 0, .slice none 0 0, .slice none 0 0] = (vecL noB wZ0).toArray := by kernel_rfl
theorem VecAt.zero (w : World) : VecAt (w.alloc (.cells #[.bool false, .bool false, .bool false, .bool false, .bool false, .bool false, .bool false, .bool false, .bool false, .bool false, .bool false, .bool false, .slice none 0 0, .slice none 0 0, .slice none 0 0, .slice none 0 0, .slice none 0 0, .slice none 0 0, .slice none 0 0, .slice none 0 0, .slice none 0 0, .slice none 0 0, .slice none 0 0, .slice none 0 0, .slice none 0 0, .slice none 0 0, .slice none 0 0, .slice none 0 0, .slice none 0 0, .slice none 0 0, .slice none 0 0, .slice none 0 0, .slice none 0 0, .slice none 0 0, .slice none 0 0, .slice none 0 0] 52)) w.heap.size noB wZ0 := by rw [vec_zero]; exact VecAt.made w _ noB wZ0
def VofRes (h : List TxnV) (F : Nat) (w : World) (e : Ending) (w' : World) : Prop :=
 Below w.heap.size w w' ∧ ((Lasts F 0 (vecTo h 12).2 ∧ ∃ ws, e = .returned (.tuple #[.agg (vecL (accV h) ws).toArray, .int .i64 0]) ∧ ∀ i, i < 12 → OwnW w' w.heap.size (ws i).1 (ws i).2 (decW h (i : Int)).1 (decW h (i : Int)).2.1) ∨
  (¬ Lasts F 0 (vecTo h 12).2 ∧ e = .returned (.tuple #[.agg (vecL noB wZ0).toArray, .int .i64 4])))
structure VecOn (h : List TxnV) (w : World) (g b0 k : Nat) (ws : Nat → Value × Value) (W : World) : Prop where
 at_ : VecAt W g (vecTo h k).1 ws
 own : ∀ i, i < 12 → OwnW W b0 (ws i).1 (ws i).2 (if i < k then (decW h (i : Int)).1 else []) (if i < k then (decW h (i : Int)).2.1 else [])
 bel : Below w.heap.size w W
section
variable {h : List TxnV} {w W W' : World} {g b0 k : Nat} {ws : Nat → Value × Value}
theorem VecOn.grown {T : Nat} (q : VecOn h w g b0 k ws W) (hg : W.grownBy W' (some T)) (hT : T < b0) (hgT : g ≠ T) (hw : w.heap.size ≤ T) : VecOn h w g b0 k ws W' :=
 ⟨q.at_.grown hg (fun e => hgT (Option.some.inj e)), fun i hi => (q.own i hi).kept hg hT, q.bel.grown hg q.bel.size (fun j hj => by cases hj; exact hw)⟩
theorem VecOn.below (q : VecOn h w g b0 k ws W) (hb : Below W.heap.size W W') : VecOn h w g b0 k ws W' := ⟨q.at_.below hb q.at_.lt, fun i hi => (q.own i hi).below hb, below_then q.bel hb⟩
theorem heap_three (w : World) (g k o : Nat) (a x y : Value) {j : Nat} (hj : j ≠ g) : ((w.setCell ⟨g, k, none⟩ a).setCells g o [x, y]).heap[j]? = w.heap[j]? := by
 have e : (w.setCell ⟨g, k, none⟩ a).setCells g o [x, y] = ((w.setCell ⟨g, k, none⟩ a).setCell ⟨g, o, none⟩ x).setCell ⟨g, o + 1, none⟩ y := rfl
 rw [e, Below.heap_setCell _ _ _ _ hj, Below.heap_setCell _ _ _ _ hj, Below.heap_setCell _ _ _ _ hj]
theorem VecAt.apart {r : Nat → Bool} (h : VecAt w g r ws) {g' : Nat} (hne : g ≠ g') (i o : Nat) (a x y : Value) : VecAt ((w.setCell ⟨g', i, none⟩ a).setCells g' o [x, y]) g r ws := fun j hj => by
 obtain ⟨h1, h2⟩ := h j hj
 have hb := heap_three w g' i o a x y hne
 exact ⟨by unfold World.cell? at *; rw [hb]; exact h1, by unfold World.frozen? at *; rw [hb]; exact h2⟩
theorem MtAt.apart {T F U : Nat} (h : MtAt w T F U) {g' : Nat} (hne : T ≠ g') (i o : Nat) (a x y : Value) : MtAt ((w.setCell ⟨g', i, none⟩ a).setCells g' o [x, y]) T F U := h.block (heap_three w g' i o a x y hne)
theorem VecOn.shut (q : VecOn h w g b0 k ws W) (hc : checkI h = 0) (ho : opn (vecTo h k).1 k = false) : VecOn h w g b0 (k + 1) ws W := by
 refine ⟨by rw [vecTo_shut ho]; exact q.at_, fun i hi => ?_, q.bel⟩
 have h1 := q.own i hi
 by_cases e : i < k
 ·rw [if_pos e] at h1; rw [if_pos e] at h1; rw [if_pos (show i < k + 1 by omega), if_pos (show i < k + 1 by omega)]; exact h1
 ·rw [if_neg e] at h1; rw [if_neg e] at h1
  by_cases e2 : i = k
  ·subst e2
   have hn := shut_no hc (r := (vecTo h i).1) (l := i) (fun j hj => by rw [vec_row hc, decide_eq_true hj, Bool.true_and]) ho
   obtain ⟨e3, e4⟩ := decW_none h (i : Int) hn
   rw [if_pos (show i < i + 1 by omega), if_pos (show i < i + 1 by omega), e3, e4]; exact h1
  ·rw [if_neg (show ¬ i < k + 1 by omega), if_neg (show ¬ i < k + 1 by omega)]; exact h1
theorem VecOn.more (q : VecOn h w g b0 k ws W) (hk : k < 12) (ho : opn (vecTo h k).1 k = true) (hgb : g < b0) (hgw : w.heap.size ≤ g) {vo vs : Value} (hW : OwnW W b0 vo vs (decW h (k : Int)).1 (decW h (k : Int)).2.1) :
  VecOn h w g b0 (k + 1) (updW ws k (vo, vs)) ((W.setCell ⟨g, k, none⟩ (.bool (decW h (k : Int)).2.2)).setCells g (12 + 2 * k) [vo, vs]) := by
 have hs : ∀ x y : Value, (W.setCells g (12 + 2 * k) [x, y]) = (W.setCell ⟨g, 12 + 2 * k, none⟩ x).setCell ⟨g, 12 + 2 * k + 1, none⟩ y := fun _ _ => rfl
 have ha := (q.at_.setR hk (decW h (k : Int)).2.2).setW hk vo vs
 have hf : ∀ {vo' vs' : Value} {l : List Int} {LL : List (List Int)}, OwnW W b0 vo' vs' l LL → OwnW ((W.setCell ⟨g, k, none⟩ (.bool (decW h (k : Int)).2.2)).setCells g (12 + 2 * k) [vo, vs]) b0 vo' vs' l LL := fun hq =>
  ((hq.far (p := ⟨g, k, none⟩) hgb _).far (p := ⟨g, 12 + 2 * k, none⟩) hgb vo).far (p := ⟨g, 12 + 2 * k + 1, none⟩) hgb vs
 refine ⟨by rw [vecTo_open ho]; exact ha, fun i hi => ?_, ?_⟩
 ·have h1 := q.own i hi
  unfold updW
  by_cases e2 : i = k
  ·subst e2
   rw [if_pos rfl, if_pos (show i < i + 1 by omega), if_pos (show i < i + 1 by omega)]
   exact hf hW
  ·rw [if_neg e2]
   by_cases e : i < k
   ·rw [if_pos e] at h1; rw [if_pos e] at h1; rw [if_pos (show i < k + 1 by omega), if_pos (show i < k + 1 by omega)]; exact hf h1
   ·rw [if_neg e] at h1; rw [if_neg e] at h1; rw [if_neg (show ¬ i < k + 1 by omega), if_neg (show ¬ i < k + 1 by omega)]; exact hf h1
 ·exact ((q.bel.setCell (p := ⟨g, k, none⟩) hgw _).setCell (p := ⟨g, 12 + 2 * k, none⟩) hgw vo).setCell (p := ⟨g, 12 + 2 * k + 1, none⟩) hgw vs
end
theorem vof_any {w0 w : World} {B b : Nat} {h : List TxnV} (much : Int) (F : Nat) (hF : fuelN much = F) (hO : OrdIs w0 B b h) (ht : Tab w0) (hK : Kinds w0) (hc : checkI h = 0) (hb : Below w0.heap.size w0 w) (hM : ∀ l : Nat, l < 12 → (decN h (l : Int)).2.2 + 2 ≤ 1099511627776) :
  Calls Tryz.prog 23 #[.pointer (some ⟨B, 0, none⟩), .int .i64 much] w fun e w' => VofRes h F w e w' := by
 have CN := hid (fun wx => fnew_any much wx)
 rw [hF] at CN
 have hw0 := hb.size
 have HB0 : Hid (∀ wx, Below w.heap.size w wx → Below w0.heap.size w0 wx) := hid (fun wx hx => hb.trans (hx.mono hb.size))
 have CO := hid (fun (r : Nat → Bool) (l : Nat) wx (hl : l ≤ 12) (hx : Below w.heap.size w wx) => vopen_any r l wx hl (hK.below (hb.trans (hx.mono hb.size))))
 have hbd : ∀ j, j ≤ 12 → (vecTo h j).2 ≤ j * 1099511627776 := vec_bound 1099511627776 (fun (l : Nat) hl => by have := hM l hl; omega)
 have CD := hid (fun (l : Nat) (T F : Nat) wx (hl : l < 12) (hx : Below w.heap.size w wx) (hT : w.heap.size ≤ T) hm (hla : Lasts F (vecTo h l).2 (decN h (l : Int)).2.2) => sdecide_own (w := wx) (l : Int) T F (vecTo h l).2 hO ht hK hc (hb.trans (hx.mono hb.size)) (Nat.le_trans hw0 hT) hm (hM l hl) (fun _ => by have h1 := hM l hl; have h2 := hbd l (by omega); have h3 : l * 1099511627776 ≤ 12 * 1099511627776 := Nat.mul_le_mul_right _ (by omega); omega) hla)
 have CZ := hid (fun (l : Nat) (T F : Nat) wx (hl : l < 12) (hx : Below w.heap.size w wx) (hT : w.heap.size ≤ T) hm (hla : ¬ Lasts F (vecTo h l).2 (decN h (l : Int)).2.2) => sdecide_no (w := wx) (l : Int) T F (vecTo h l).2 hO ht hK hc (hb.trans (hx.mono hb.size)) (Nat.le_trans hw0 hT) hm (hM l hl) hla)
 have HC := hid hc
 clear hO ht hK hc hb hM hbd hw0 hF
 go_enter Tryz.func23, Tryz.ntmps23
 go_upto_region 2 with fail
 have V1 := VecAt.zero w
 have V2 := VecAt.zero (w.alloc (.cells #[.bool false, .bool false, .bool false, .bool false, .bool false, .bool false, .bool false, .bool false, .bool false, .bool false, .bool false, .bool false, .slice none 0 0, .slice none 0 0, .slice none 0 0, .slice none 0 0, .slice none 0 0, .slice none 0 0, .slice none 0 0, .slice none 0 0, .slice none 0 0, .slice none 0 0, .slice none 0 0, .slice none 0 0, .slice none 0 0, .slice none 0 0, .slice none 0 0, .slice none 0 0, .slice none 0 0, .slice none 0 0, .slice none 0 0, .slice none 0 0, .slice none 0 0, .slice none 0 0, .slice none 0 0, .slice none 0 0] 52))
 have hs1 : (w.alloc (.cells #[.bool false, .bool false, .bool false, .bool false, .bool false, .bool false, .bool false, .bool false, .bool false, .bool false, .bool false, .bool false, .slice none 0 0, .slice none 0 0, .slice none 0 0, .slice none 0 0, .slice none 0 0, .slice none 0 0, .slice none 0 0, .slice none 0 0, .slice none 0 0, .slice none 0 0, .slice none 0 0, .slice none 0 0, .slice none 0 0, .slice none 0 0, .slice none 0 0, .slice none 0 0, .slice none 0 0, .slice none 0 0, .slice none 0 0, .slice none 0 0, .slice none 0 0, .slice none 0 0, .slice none 0 0, .slice none 0 0] 52)).heap.size = w.heap.size + 1 := by simp
 have hs2 : ((w.alloc (.cells #[.bool false, .bool false, .bool false, .bool false, .bool false, .bool false, .bool false, .bool false, .bool false, .bool false, .bool false, .bool false, .slice none 0 0, .slice none 0 0, .slice none 0 0, .slice none 0 0, .slice none 0 0, .slice none 0 0, .slice none 0 0, .slice none 0 0, .slice none 0 0, .slice none 0 0, .slice none 0 0, .slice none 0 0, .slice none 0 0, .slice none 0 0, .slice none 0 0, .slice none 0 0, .slice none 0 0, .slice none 0 0, .slice none 0 0, .slice none 0 0, .slice none 0 0, .slice none 0 0, .slice none 0 0, .slice none 0 0] 52)).alloc (.cells #[.bool false, .bool false, .bool false, .bool false, .bool false, .bool false, .bool false, .bool false, .bool false, .bool false, .bool false, .bool false, .slice none 0 0, .slice none 0 0, .slice none 0 0, .slice none 0 0, .slice none 0 0, .slice none 0 0, .slice none 0 0, .slice none 0 0, .slice none 0 0, .slice none 0 0, .slice none 0 0, .slice none 0 0, .slice none 0 0, .slice none 0 0, .slice none 0 0, .slice none 0 0, .slice none 0 0, .slice none 0 0, .slice none 0 0, .slice none 0 0, .slice none 0 0, .slice none 0 0, .slice none 0 0, .slice none 0 0] 52)).heap.size = w.heap.size + 1 + 1 := by simp
 rw [hs1] at V2
 have V1 := V1.below (box_below _ (.cells #[.bool false, .bool false, .bool false, .bool false, .bool false, .bool false, .bool false, .bool false, .bool false, .bool false, .bool false, .bool false, .slice none 0 0, .slice none 0 0, .slice none 0 0, .slice none 0 0, .slice none 0 0, .slice none 0 0, .slice none 0 0, .slice none 0 0, .slice none 0 0, .slice none 0 0, .slice none 0 0, .slice none 0 0, .slice none 0 0, .slice none 0 0, .slice none 0 0, .slice none 0 0, .slice none 0 0, .slice none 0 0, .slice none 0 0, .slice none 0 0, .slice none 0 0, .slice none 0 0, .slice none 0 0, .slice none 0 0] 52)) (by rw [hs1]; omega)
 have hb2 : Below w.heap.size w ((w.alloc (.cells #[.bool false, .bool false, .bool false, .bool false, .bool false, .bool false, .bool false, .bool false, .bool false, .bool false, .bool false, .bool false, .slice none 0 0, .slice none 0 0, .slice none 0 0, .slice none 0 0, .slice none 0 0, .slice none 0 0, .slice none 0 0, .slice none 0 0, .slice none 0 0, .slice none 0 0, .slice none 0 0, .slice none 0 0, .slice none 0 0, .slice none 0 0, .slice none 0 0, .slice none 0 0, .slice none 0 0, .slice none 0 0, .slice none 0 0, .slice none 0 0, .slice none 0 0, .slice none 0 0, .slice none 0 0, .slice none 0 0] 52)).alloc (.cells #[.bool false, .bool false, .bool false, .bool false, .bool false, .bool false, .bool false, .bool false, .bool false, .bool false, .bool false, .bool false, .slice none 0 0, .slice none 0 0, .slice none 0 0, .slice none 0 0, .slice none 0 0, .slice none 0 0, .slice none 0 0, .slice none 0 0, .slice none 0 0, .slice none 0 0, .slice none 0 0, .slice none 0 0, .slice none 0 0, .slice none 0 0, .slice none 0 0, .slice none 0 0, .slice none 0 0, .slice none 0 0, .slice none 0 0, .slice none 0 0, .slice none 0 0, .slice none 0 0, .slice none 0 0, .slice none 0 0] 52)) := below_then (box_below w (.cells #[.bool false, .bool false, .bool false, .bool false, .bool false, .bool false, .bool false, .bool false, .bool false, .bool false, .bool false, .bool false, .slice none 0 0, .slice none 0 0, .slice none 0 0, .slice none 0 0, .slice none 0 0, .slice none 0 0, .slice none 0 0, .slice none 0 0, .slice none 0 0, .slice none 0 0, .slice none 0 0, .slice none 0 0, .slice none 0 0, .slice none 0 0, .slice none 0 0, .slice none 0 0, .slice none 0 0, .slice none 0 0, .slice none 0 0, .slice none 0 0, .slice none 0 0, .slice none 0 0, .slice none 0 0, .slice none 0 0] 52)) (box_below _ (.cells #[.bool false, .bool false, .bool false, .bool false, .bool false, .bool false, .bool false, .bool false, .bool false, .bool false, .bool false, .bool false, .slice none 0 0, .slice none 0 0, .slice none 0 0, .slice none 0 0, .slice none 0 0, .slice none 0 0, .slice none 0 0, .slice none 0 0, .slice none 0 0, .slice none 0 0, .slice none 0 0, .slice none 0 0, .slice none 0 0, .slice none 0 0, .slice none 0 0, .slice none 0 0, .slice none 0 0, .slice none 0 0, .slice none 0 0, .slice none 0 0, .slice none 0 0, .slice none 0 0, .slice none 0 0, .slice none 0 0] 52))
 generalize (w.alloc (.cells #[.bool false, .bool false, .bool false, .bool false, .bool false, .bool false, .bool false, .bool false, .bool false, .bool false, .bool false, .bool false, .slice none 0 0, .slice none 0 0, .slice none 0 0, .slice none 0 0, .slice none 0 0, .slice none 0 0, .slice none 0 0, .slice none 0 0, .slice none 0 0, .slice none 0 0, .slice none 0 0, .slice none 0 0, .slice none 0 0, .slice none 0 0, .slice none 0 0, .slice none 0 0, .slice none 0 0, .slice none 0 0, .slice none 0 0, .slice none 0 0, .slice none 0 0, .slice none 0 0, .slice none 0 0, .slice none 0 0] 52)).alloc (.cells #[.bool false, .bool false, .bool false, .bool false, .bool false, .bool false, .bool false, .bool false, .bool false, .bool false, .bool false, .bool false, .slice none 0 0, .slice none 0 0, .slice none 0 0, .slice none 0 0, .slice none 0 0, .slice none 0 0, .slice none 0 0, .slice none 0 0, .slice none 0 0, .slice none 0 0, .slice none 0 0, .slice none 0 0, .slice none 0 0, .slice none 0 0, .slice none 0 0, .slice none 0 0, .slice none 0 0, .slice none 0 0, .slice none 0 0, .slice none 0 0, .slice none 0 0, .slice none 0 0, .slice none 0 0, .slice none 0 0] 52) = w2 at *
 clear hs1
 go_wp2_with fail
 refine (CN.out _).mono ?_
 rintro e w3 ⟨T, rfl, hm, hT, hb3⟩
 have hTl := hm.lt
 have q0 : VecOn h w (w.heap.size + 1) (T + 1) 0 wZ0 w3 := ⟨by rw [vecTo_zero]; exact V2.below hb3 (by omega), fun i _ => by rw [if_neg (by omega), if_neg (by omega)]; exact OwnW.nil _ _, below_then hb2 hb3⟩
 have V1 := V1.below hb3 (by omega)
 clear CN V2 hb2
 go_wp2_with fail
 go_loopw [14] (fun i wr => ∃ k : Nat, k ≤ 12 ∧ i = .int .i64 k ∧ ∃ ws, VecOn h w (w.heap.size + 1) (T + 1) k ws wr ∧ VecAt wr w.heap.size noB wZ0 ∧ MtAt wr T F (vecTo h k).2 ∧ Lasts F 0 (vecTo h k).2) (fun i _ => 12 - (intOf i).toNat)
 case atStart => exact ⟨0, by omega, rfl, wZ0, q0, V1, by rw [vecTo_zero]; exact hm, by
   rw [vecTo_zero]
   by_cases e : F = 4611686018427387904
   ·exact .inl e
   ·exact .inr (by omega)⟩
 case round =>
  obtain ⟨k, hk, rfl, ws, q, v1, hm, hla⟩ := hrel
  have hTl := hm.lt
  have hkq := q.at_.lt
  by_cases hlt : k < 12
  ·have hki : (k : Int) < 12 := by omega
   have hrow := q.at_.row
   have CO1 := hid (CO.out (vecTo h k).1 k wr (by omega) q.bel)
   cases ho : opn (vecTo h k).1 k with
   | false =>
    rw [ho] at CO1
    have HS := hid (q.shut HC.out ho)
    have HM : Hid (MtAt wr T F (vecTo h (k + 1)).2 ∧ Lasts F 0 (vecTo h (k + 1)).2) := hid (by rw [vecTo_shut ho]; exact ⟨hm, hla⟩)
    clear q hm hla ho CO CD CZ HC
    go_wp2_with (with_reducible refine wpList_load_mid rfl 49 _ rfl (w.heap.size + 1) 0 rfl (rowB (vecTo h k).1).toList _ hrow Tryz.underlying49 rfl (by kernel_rfl) ?_)
    refine CO1.out.mono ?_
    rintro e w4 ⟨rfl, h4⟩
    have HS4 := hid (HS.out.below h4)
    have HM4 := hid (HM.out.1.below h4 hTl)
    have v4 := v1.below h4 v1.lt
    have HLA := hid HM.out.2
    clear HS HM h4 v1 hrow CO1
    go_wp2_with fail
    go_roundw
    case rel => exact ⟨k + 1, by omega, by go_num, ws, HS4.out, v4, HM4.out, HLA.out⟩
    case measure => simp [intOf]; omega
   | true =>
    rw [ho] at CO1
    have HO := hid ho
    have Q := hid q
    have HM := hid hm
    have HLA := hid hla
    have HTT : Hid (w.heap.size ≤ T ∧ T ≠ w.heap.size + 1 ∧ T ≠ w.heap.size) := hid ⟨by omega, by omega, by omega⟩
    clear q hm hla ho
    go_wp2_with (with_reducible refine wpList_load_mid rfl 49 _ rfl (w.heap.size + 1) 0 rfl (rowB (vecTo h k).1).toList _ hrow Tryz.underlying49 rfl (by kernel_rfl) ?_)
    refine CO1.out.mono ?_
    rintro e w4 ⟨rfl, h4⟩
    have q4 := Q.out.below h4
    have hm4 := HM.out.below h4 hTl
    have v4 := v1.below h4 v1.lt
    clear hrow CO1 Q HM v1
    by_cases hl2 : Lasts F (vecTo h k).2 (decN h (k : Int)).2.2
    ·have CD1 := hid (CD.out k T F w4 hlt q4.bel HTT.out.1 hm4 hl2)
     have HL2 : Hid (Lasts F 0 (vecTo h (k + 1)).2) := hid (by
      rw [vecTo_open HO.out]
      rcases hl2 with e | e
      ·exact .inl e
      ·exact .inr (by show 0 + (_ + _) ≤ F; omega))
     have Q := hid q4
     have HT4 := hm4.lt
     clear q4 hm4 hl2 CO CD CZ HLA h4
     go_wp2_with fail
     refine CD1.out.mono ?_
     rintro e w5 ⟨vo, vs, rfl, hW, hm5, hg5⟩
     obtain ⟨oo, no, oc, so, ns, sc, rfl, rfl⟩ := hW.form
     have q5 := Q.out.grown hg5 (by omega) (by have := HTT.out.2.1; omega) HTT.out.1
     have v5 := v4.grown hg5 (fun e => by have := HTT.out.2.2; injection e; omega)
     have hW := hW.base (show T + 1 ≤ w4.heap.size by omega)
     have hbx := box_below w5 (.cells #[.slice oo no oc, .slice so ns sc] 39)
     have WT := WitT.made w5 (.slice oo no oc) (.slice so ns sc) 39
     have q6 := q5.below hbx
     have v6 := v5.below hbx v5.lt
     have hW := hW.below hbx
     have hm6 := hm5.below hbx hm5.lt
     have hs6 : (w5.alloc (.cells #[.slice oo no oc, .slice so ns sc] 39)).heap.size = w5.heap.size + 1 := by simp
     have hq5 := q5.at_.lt
     have hM6 : MtAt (w5.alloc (.cells #[.slice oo no oc, .slice so ns sc] 39)) T F (vecTo h (k + 1)).2 := by rw [vecTo_open HO.out]; exact hm6
     clear CD1 Q v4 hg5 hbx hm5 q5 v5 hm6
     go_upto_region 10 with fail
     generalize w5.alloc (.cells #[.slice oo no oc, .slice so ns sc] 39) = w6 at *
     generalize w5.heap.size = x5 at *
     have kd := (Below.refl w6.heap.size w6).drew
     have WT := WT.below kd
     have q7 := q6.below kd
     have v7 := v6.below kd v6.lt
     have hM7 := hM6.below kd hM6.lt
     have hW := hW.below kd
     have HQ := hid (q7.more hlt HO.out (by omega) (by omega) hW)
     have HV : Hid (VecAt w6.drew (w.heap.size + 1) (vecTo h k).1 ws) := hid q7.at_
     have HV7 := hid v7
     have HM7 := hid hM7
     have hd0 : decide ((k : Int) < 0) = false := decide_eq_false (by omega)
     have hd1 : decide ((12 : Int) ≤ (k : Int)) = false := decide_eq_false (by omega)
     have hd2 : decide (12 ≤ k) = false := decide_eq_false (by omega)
     clear hW q6 q7 v6 v7 hM6 hM7 kd
     refine wp_region_held_drew (S := fun wx => wx.cell? ⟨x5, 0, none⟩ = some (.slice oo no oc) ∧ wx.cell? ⟨x5, 1, none⟩ = some (.slice so ns sc)) (by kernel_rfl) ⟨WT.c0, WT.c1⟩ (fun hS0 => ?_)
     generalize w6.drew = wd at *
     refine tG9 (some 34) 0 ?vtv0x1 rfl rfl (Or.inl ⟨by rfl, ?htv0x1⟩) hS0 ?rtv0x1
     case htv0x1 => (intro w hw; obtain ⟨m0, m1⟩ := hw; go_simp; try (with_reducible rfl))
     try simp only [Act.put, zA9, zB9, zC9]
     refine tG9 (some 35) 1 ?vtv1x2 rfl rfl (Or.inl ⟨by rfl, ?htv1x2⟩) hS0 ?rtv1x2
     case htv1x2 => (intro w hw; obtain ⟨m0, m1⟩ := hw; go_simp; try (with_reducible rfl))
     try simp only [Act.put, zA9, zB9, zC9]
     refine tG9 (some 36) 2 ?vtv2x3 rfl rfl (Or.inl ⟨by rfl, ?htv2x3⟩) hS0 ?rtv2x3
     case htv2x3 => (intro w hw; obtain ⟨m0, m1⟩ := hw; go_simp; try (with_reducible rfl))
     try simp only [Act.put, zA9, zB9, zC9]
     refine tG9 (some 37) 3 ?vtv3x4 rfl rfl (Or.inl ⟨by rfl, ?htv3x4⟩) hS0 ?rtv3x4
     case htv3x4 => (intro w hw; obtain ⟨m0, m1⟩ := hw; go_simp; try (with_reducible rfl))
     try simp only [Act.put, zA9, zB9, zC9]
     refine tG9 (some 38) 4 ?vtv4x5 rfl rfl (Or.inl ⟨by rfl, ?htv4x5⟩) hS0 ?rtv4x5
     case htv4x5 => (intro w hw; obtain ⟨m0, m1⟩ := hw; go_simp; try (with_reducible rfl))
     try simp only [Act.put, zA9, zB9, zC9]
     refine tG9 (some 39) 5 ?vtv5x6 rfl rfl (Or.inl ⟨by rfl, ?htv5x6⟩) hS0 ?rtv5x6
     case htv5x6 => (intro w hw; obtain ⟨m0, m1⟩ := hw; go_simp; try (with_reducible rfl))
     try simp only [Act.put, zA9, zB9, zC9]
     refine tG9 (some 40) 7 ?vtv7x7 rfl rfl (Or.inl ⟨by rfl, ?htv7x7⟩) hS0 ?rtv7x7
     case htv7x7 => (intro w hw; obtain ⟨m0, m1⟩ := hw; go_simp; try (with_reducible rfl))
     try simp only [Act.put, zA9, zB9, zC9]
     refine rD9 6 rfl (fun K hK => ?_)
     have hc0 := (HV.out k (by omega)).1
     have hf0 := (HV.out k (by omega)).2
     go_simp
     have sA : (wd.setCell ⟨w.heap.size + 1, k, none⟩ (.bool (decW h (k : Int)).2.2)).cell? ⟨x5, 0, none⟩ = some (.slice oo no oc) ∧ (wd.setCell ⟨w.heap.size + 1, k, none⟩ (.bool (decW h (k : Int)).2.2)).cell? ⟨x5, 1, none⟩ = some (.slice so ns sc) := ⟨by rw [World.cell?_setCell_other _ _ _ _ (fun e => by injection e; omega)]; exact hS0.1, by rw [World.cell?_setCell_other _ _ _ _ (fun e => by injection e; omega)]; exact hS0.2⟩
     refine hK.out _ _ sA (fun _ => ?_)
     clear hK K hc0 hf0
     refine tG9 (some 41) 8 ?vtv8x9 rfl rfl (Or.inl ⟨by rfl, ?htv8x9⟩) sA ?rtv8x9
     case htv8x9 => (intro w hw; obtain ⟨m0, m1⟩ := hw; go_simp; try (with_reducible rfl))
     try simp only [Act.put, zA9, zB9, zC9]
     refine rD9 9 rfl (fun K hK => ?_)
     have hth : (wd.setCell ⟨w.heap.size + 1, k, none⟩ (.bool (decW h (k : Int)).2.2)).there (w.heap.size + 1) (12 + k * 2) 2 := fun j hj => by
      obtain ⟨q1, q2⟩ := (HV.out.setR hlt (decW h (k : Int)).2.2) (12 + k * 2 + j) (by omega)
      exact ⟨by rw [q1]; rfl, q2⟩
     refine wp_store_mid 39 _ _ rfl (w.heap.size + 1) (12 + k * 2) #[.slice oo no oc, .slice so ns sc] rfl rfl hth (by kernel_rfl) (by simp [Value.oneCell']) ?_
     have sB : ((wd.setCell ⟨w.heap.size + 1, k, none⟩ (.bool (decW h (k : Int)).2.2)).setCells (w.heap.size + 1) (12 + k * 2) [.slice oo no oc, .slice so ns sc]).cell? ⟨x5, 0, none⟩ = some (.slice oo no oc) ∧ ((wd.setCell ⟨w.heap.size + 1, k, none⟩ (.bool (decW h (k : Int)).2.2)).setCells (w.heap.size + 1) (12 + k * 2) [.slice oo no oc, .slice so ns sc]).cell? ⟨x5, 1, none⟩ = some (.slice so ns sc) := ⟨(World.cell?_setCells_out _ _ _ _ _ (fun hb _ => absurd hb (by show ¬ x5 = w.heap.size + 1; omega))).trans sA.1, (World.cell?_setCells_out _ _ _ _ _ (fun hb _ => absurd hb (by show ¬ x5 = w.heap.size + 1; omega))).trans sA.2⟩
     refine hK.out _ _ sB (fun _ => ?_)
     clear hK K hth
     refine wpAnyH_done (by kernel_rfl) ?_ _
     have h12 : 12 + k * 2 = 12 + 2 * k := by omega
     have HR : Hid (VecAt ((wd.setCell ⟨w.heap.size + 1, k, none⟩ (.bool (decW h (k : Int)).2.2)).setCells (w.heap.size + 1) (12 + k * 2) [.slice oo no oc, .slice so ns sc]) w.heap.size noB wZ0 ∧ MtAt ((wd.setCell ⟨w.heap.size + 1, k, none⟩ (.bool (decW h (k : Int)).2.2)).setCells (w.heap.size + 1) (12 + k * 2) [.slice oo no oc, .slice so ns sc]) T F (vecTo h (k + 1)).2) := hid ⟨HV7.out.apart (by omega) _ _ _ _ _, HM7.out.apart (by have := HTT.out.2.1; omega) _ _ _ _ _⟩
     rw [← h12] at HQ
     generalize (wd.setCell ⟨w.heap.size + 1, k, none⟩ (.bool (decW h (k : Int)).2.2)).setCells (w.heap.size + 1) (12 + k * 2) [.slice oo no oc, .slice so ns sc] = w8 at *
     go_wp2_with fail
     go_roundw
     case rel => exact ⟨k + 1, by omega, by go_num, _, HQ.out, HR.out.1, HR.out.2, HL2.out⟩
     case measure => simp [intOf]; omega
    ·have CZ1 := hid (CZ.out k T F w4 hlt q4.bel HTT.out.1 hm4 hl2)
     have HL2 : Hid (¬ Lasts F 0 (vecTo h 12).2) := hid (fun e => by
      have h1 := vecTo_cost h (i := k + 1) (j := 12) (by omega)
      rw [vecTo_open HO.out] at h1
      have h1 : (vecTo h k).2 + (decN h (k : Int)).2.2 ≤ (vecTo h 12).2 := h1
      rcases e with e | e
      ·exact hl2 (.inl e)
      ·exact hl2 (.inr (by omega)))
     have Q := hid q4
     clear q4 hm4 hl2 CO CD CZ HLA h4
     go_wp2_with fail
     refine CZ1.out.mono ?_
     rintro e w5 ⟨rfl, hm5, hg5, _⟩
     have q5 := Q.out.grown hg5 (by omega) (by have := HTT.out.2.1; omega) HTT.out.1
     have v5 := v4.grown hg5 (fun e => by have := HTT.out.2.2; injection e; omega)
     have hbx := box_below w5 (.cells #[.slice none 0 0, .slice none 0 0] 39)
     have HQB := hid (below_then q5.bel hbx)
     have v6 := v5.below hbx v5.lt
     clear CZ1 Q v4 hg5 hbx hm5 q5 v5
     go_upto_region 9 with fail
     generalize w5.alloc (.cells #[.slice none 0 0, .slice none 0 0] 39) = w6 at *
     have hth : w6.there w.heap.size 0 (#[.bool false, .bool false, .bool false, .bool false, .bool false, .bool false, .bool false, .bool false, .bool false, .bool false, .bool false, .bool false, .slice none 0 0, .slice none 0 0, .slice none 0 0, .slice none 0 0, .slice none 0 0, .slice none 0 0, .slice none 0 0, .slice none 0 0, .slice none 0 0, .slice none 0 0, .slice none 0 0, .slice none 0 0, .slice none 0 0, .slice none 0 0, .slice none 0 0, .slice none 0 0, .slice none 0 0, .slice none 0 0, .slice none 0 0, .slice none 0 0, .slice none 0 0, .slice none 0 0, .slice none 0 0, .slice none 0 0] : Array Value).size := v6.there (n := 36) (by omega)
     have hzl : vecL noB wZ0 = [.bool false, .bool false, .bool false, .bool false, .bool false, .bool false, .bool false, .bool false, .bool false, .bool false, .bool false, .bool false, .slice none 0 0, .slice none 0 0, .slice none 0 0, .slice none 0 0, .slice none 0 0, .slice none 0 0, .slice none 0 0, .slice none 0 0, .slice none 0 0, .slice none 0 0, .slice none 0 0, .slice none 0 0, .slice none 0 0, .slice none 0 0, .slice none 0 0, .slice none 0 0, .slice none 0 0, .slice none 0 0, .slice none 0 0, .slice none 0 0, .slice none 0 0, .slice none 0 0, .slice none 0 0, .slice none 0 0] := by kernel_rfl
     have HV9 := v6.put noB wZ0
     have HB9 : Below w.heap.size w (w6.setCells w.heap.size 0 (vecL noB wZ0)) := below_putC (Nat.le_refl _) _ _ _ HQB.out
     rw [hzl] at HV9 HB9
     have HV9 := hid HV9
     have HB9 := hid HB9
     have hone : (#[.bool false, .bool false, .bool false, .bool false, .bool false, .bool false, .bool false, .bool false, .bool false, .bool false, .bool false, .bool false, .slice none 0 0, .slice none 0 0, .slice none 0 0, .slice none 0 0, .slice none 0 0, .slice none 0 0, .slice none 0 0, .slice none 0 0, .slice none 0 0, .slice none 0 0, .slice none 0 0, .slice none 0 0, .slice none 0 0, .slice none 0 0, .slice none 0 0, .slice none 0 0, .slice none 0 0, .slice none 0 0, .slice none 0 0, .slice none 0 0, .slice none 0 0, .slice none 0 0, .slice none 0 0, .slice none 0 0] : Array Value).all (·.oneCell') = true := by simp [Value.oneCell']
     clear v6 hzl
     go_wp2_with (with_reducible refine wpList_store_mid rfl 52 _ _ rfl w.heap.size 0 #[.bool false, .bool false, .bool false, .bool false, .bool false, .bool false, .bool false, .bool false, .bool false, .bool false, .bool false, .bool false, .slice none 0 0, .slice none 0 0, .slice none 0 0, .slice none 0 0, .slice none 0 0, .slice none 0 0, .slice none 0 0, .slice none 0 0, .slice none 0 0, .slice none 0 0, .slice none 0 0, .slice none 0 0, .slice none 0 0, .slice none 0 0, .slice none 0 0, .slice none 0 0, .slice none 0 0, .slice none 0 0, .slice none 0 0, .slice none 0 0, .slice none 0 0, .slice none 0 0, .slice none 0 0, .slice none 0 0] rfl rfl hth (by kernel_rfl) hone ?_)
     exact bodyPost_ret (results_vec rfl _ _ _ noB wZ0 rfl HV9.out) rfl ⟨HB9.out, .inr ⟨HL2.out, rfl⟩⟩
  ·obtain rfl : k = 12 := by omega
   have hki : ¬ ((12 : Nat) : Int) < 12 := by omega
   have hall := q.at_.all
   have hth : wr.there w.heap.size 0 36 := v1.there (by omega)
   have HV9 := hid (v1.put (vecTo h 12).1 ws)
   have HB9 : Hid (Below w.heap.size w (wr.setCells w.heap.size 0 (vecL (vecTo h 12).1 ws))) := hid (below_putC (Nat.le_refl _) _ _ _ q.bel)
   have HO9 : Hid (∀ i, i < 12 → OwnW (wr.setCells w.heap.size 0 (vecL (vecTo h 12).1 ws)) w.heap.size (ws i).1 (ws i).2 (decW h (i : Int)).1 (decW h (i : Int)).2.1) := hid (fun i hi => by
    have h1 := q.own i hi
    rw [if_pos hi] at h1; rw [if_pos hi] at h1
    exact (h1.cells (g := w.heap.size) (by omega) 0 _).base (by omega))
   have HE9 : Hid (vecL (accV h) ws = vecL (vecTo h 12).1 ws) := hid (vecL_congr fun i hi => by rw [vec_row HC.out, decide_eq_true hi, Bool.true_and]; rfl)
   have hone : (vecL (vecTo h 12).1 ws).toArray.all (·.oneCell') = true := vecL_one fun i hi => by obtain ⟨_, _, _, _, _, _, e1, e2⟩ := (q.own i hi).form; rw [e1, e2]; exact ⟨rfl, rfl⟩
   have hth2 : wr.there w.heap.size 0 (vecL (vecTo h 12).1 ws).toArray.size := by rw [show (vecL (vecTo h 12).1 ws).toArray.size = 36 from vecL_len _ _]; exact hth
   have hinf : (Tryz.prog.info? 52).map (·.size) = some (vecL (vecTo h 12).1 ws).toArray.size := by rw [show (vecL (vecTo h 12).1 ws).toArray.size = 36 from vecL_len _ _]; kernel_rfl
   have hinf2 : (Tryz.prog.info? 52).map (·.size) = some (vecL (vecTo h 12).1 ws).length := by rw [vecL_len]; kernel_rfl
   go_wp2_with (first
    | (with_reducible refine wpList_load_mid rfl 52 _ rfl (w.heap.size + 1) 0 rfl (vecL (vecTo h 12).1 ws) _ hall Tryz.underlying52 rfl hinf2 ?_)
    | (with_reducible refine wpList_store_mid rfl 52 _ _ rfl w.heap.size 0 (vecL (vecTo h 12).1 ws).toArray rfl rfl hth2 hinf hone ?_))
   refine bodyPost_ret (results_vec rfl _ _ _ (vecTo h 12).1 ws rfl HV9.out) rfl ⟨HB9.out, .inl ⟨hla, ws, ?_, HO9.out⟩⟩
   rw [HE9.out]; rfl
end

section
open Go.RowKit
def abvTo (r : Nat → Bool) (b : Int) (k : Nat) : Bool := (List.range k).any fun a => r a && (decide ((a : Int) ≠ b) && impB (a : Int) b)
def abv (r : Nat → Bool) (b : Int) : Bool := abvTo r b 12
theorem abvTo_succ (r : Nat → Bool) (b : Int) (k : Nat) : abvTo r b (k + 1) = (abvTo r b k || (r k && (decide ((k : Int) ≠ b) && impB (k : Int) b))) := by
 unfold abvTo; rw [List.range_succ, List.any_append]; simp
theorem abvTo_hit {r : Nat → Bool} {b : Int} {k : Nat} (hk : k < 12) (h : (r k && (decide ((k : Int) ≠ b) && impB (k : Int) b)) = true) : abv r b = true := List.any_eq_true.2 ⟨k, List.mem_range.2 hk, h⟩
theorem above_any (r : Nat → Bool) (b : Int) (w : World) (hK : Kinds w) : Calls Tryz.prog 122 #[.agg (rowB r), .int .i64 b] w fun e w' => e = .returned (.bool (abv r b)) ∧ Below w.heap.size w w' := by
 have HK := hid (fun wx (hb : Below w.heap.size w wx) => hK.below hb)
 clear hK
 go_enter Tryz.func122, Tryz.ntmps122
 go_wp2_with fail
 go_loopw [6] (fun i wr => ∃ k : Nat, k ≤ 12 ∧ i = .int .i64 k ∧ abvTo r b k = false ∧ BRow wr w.heap.size r ∧ Below w.heap.size w wr) (fun i _ => 12 - (intOf i).toNat)
 case atStart => exact ⟨0, by omega, rfl, rfl, BRow.made w r rfl rfl, (Below.refl w.heap.size w).alloc (Nat.le_refl _) _⟩
 case round =>
  obtain ⟨k, hk, rfl, hno, h0, hb⟩ := hrel
  have HNO := hid hno
  clear hno
  by_cases hlt : k < 12
  ·have hki : (k : Int) < 12 := by omega
   have hc := h0.cell hlt
   have HS := hid (abvTo_succ r b k)
   have HH := hid (fun h => abvTo_hit (r := r) (b := b) hlt h)
   have CI := hid (limp_any (k : Int) b wr (HK.out _ hb))
   rw [HNO.out] at HS
   cases hr : r k
   ·rw [hr] at hc HS
    clear hr HH CI
    have HM : Hid (abvTo r b (k + 1) = false) := hid (by rw [HS.out]; rfl)
    go_wp2_with fail
    go_roundw
    case rel => exact ⟨k + 1, by omega, by go_num, HM.out, h0, hb⟩
    case measure => simp [intOf]; omega
   ·rw [hr] at hc HS HH
    clear hr
    by_cases hkb : (k : Int) = b
    ·have HM : Hid (abvTo r b (k + 1) = false) := hid (by rw [HS.out, decide_eq_false (by simpa using hkb)]; rfl)
     have hkb' : ((k : Int) == b) = true := by rw [beq_iff_eq]; exact hkb
     clear hkb HH CI HS
     go_wp2_with fail
     ·go_roundw
      case rel => exact ⟨k + 1, by omega, by go_num, HM.out, h0, hb⟩
      case measure => simp [intOf]; omega
     ·exact absurd (beq_iff_eq.1 hkb') (by assumption)
    ·rw [decide_eq_true (show (k : Int) ≠ b from hkb)] at HS HH
     cases hm : impB (k : Int) b
     ·rw [hm] at CI HS
      have HM : Hid (abvTo r b (k + 1) = false) := hid (by rw [HS.out]; rfl)
      clear hm HH HS
      go_wp2_with (go_at_call 46; refine (CI.out).mono ?_; rintro e w' ⟨rfl, rfl⟩)
      go_roundw
      case rel => exact ⟨k + 1, by omega, by go_num, HM.out, h0, hb⟩
      case measure => simp [intOf]; omega
     ·rw [hm] at CI HH
      have HM : Hid (true = abv r b) := hid (HH.out rfl).symm
      clear hm HH HS
      go_wp2_with (go_at_call 46; refine (CI.out).mono ?_; rintro e w' ⟨rfl, rfl⟩)
      go_ret
      exact ⟨lret_b HM.out, hb⟩
  ·have hkn : k = 12 := by omega
   subst hkn
   have HM : Hid (false = abv r b) := hid HNO.out.symm
   go_wp2_with fail
   go_ret
   exact ⟨lret_b HM.out, hb⟩
theorem wpList_load_rowB_g {ops : Array Oper} {rest : List Oper} {o : Oper} {a : Act} {w : World} {Q : Exit → Act → World → Prop} {g : Nat} {r : Nat → Bool} (h : BRow w g r) (x : Operand) (ho : o.op = .load 49 x)
  (hw : Region.wanted o (yielded ops a.tmps) = true) (hx : a.eval x = .pointer (some ⟨g, 0, none⟩)) (hn : wpList Tryz.prog ops Q rest (a.put o.dst (.agg (rowB r))) w) : wpList Tryz.prog ops Q (o :: rest) a w :=
 wpList_step fun K hK => by rw [if_pos hw]; exact wp_load_row 49 x ho g hx _ (rowB r) _ _ h Tryz.underlying49 rfl (infoRow' _) (hK _ _ hn)
def clsTo (r : Nat → Bool) (k : Nat) : Bool := (List.range k).all fun b => !(!r b && abv r (b : Int))
def cls (r : Nat → Bool) : Bool := clsTo r 12
theorem clsTo_succ (r : Nat → Bool) (k : Nat) : clsTo r (k + 1) = (clsTo r k && !(!r k && abv r (k : Int))) := by
 unfold clsTo; rw [List.range_succ, List.all_append]; simp
theorem cls_no {r : Nat → Bool} {k : Nat} (hk : k < 12) (h : (!(!r k && abv r (k : Int))) = false) : cls r = false := by
 unfold cls clsTo
 rw [List.all_eq_false]
 exact ⟨k, List.mem_range.2 hk, by rw [h]; simp⟩
theorem tclosed_any (r : Nat → Bool) (w : World) (hK : Kinds w) : Calls Tryz.prog 73 #[.agg (rowB r)] w fun e w' => e = .returned (.bool (cls r)) ∧ Below w.heap.size w w' := by
 have HK := hid (fun wx (hb : Below w.heap.size w wx) => hK.below hb)
 clear hK
 go_enter Tryz.func73, Tryz.ntmps73
 go_wp2_with fail
 go_loopw [4] (fun i wr => ∃ k : Nat, k ≤ 12 ∧ i = .int .i64 k ∧ clsTo r k = true ∧ BRow wr w.heap.size r ∧ Below w.heap.size w wr) (fun i _ => 12 - (intOf i).toNat)
 case atStart => exact ⟨0, by omega, rfl, rfl, BRow.made w r rfl rfl, (Below.refl w.heap.size w).alloc (Nat.le_refl _) _⟩
 case round =>
  obtain ⟨k, hk, rfl, hno, h0, hb⟩ := hrel
  have HNO := hid hno
  clear hno
  by_cases hlt : k < 12
  ·have hki : (k : Int) < 12 := by omega
   have hc := h0.cell hlt
   have HS := hid (clsTo_succ r k)
   have HH := hid (fun h => cls_no (r := r) hlt h)
   have CI := hid (above_any r (k : Int) wr (HK.out _ hb))
   rw [HNO.out] at HS
   have h2 : ∀ wx, Below wr.heap.size wr wx → BRow wx w.heap.size r := fun wx hx => h0.below hx h0.lt
   have H2 := hid h2
   have HB := hid (fun wx (hx : Below wr.heap.size wr wx) => hb.trans (hx.mono hb.size))
   clear h2
   cases hr : r k
   ·rw [hr] at hc HS HH
    clear hr
    cases hm : abv r (k : Int)
    ·rw [hm] at CI HS
     have HM : Hid (clsTo r (k + 1) = true) := hid (by rw [HS.out]; rfl)
     clear hm HH HS
     go_wp2_with (first
      | (with_reducible refine wpList_load_rowB_g h0 _ rfl (by kernel_rfl) rfl ?_)
      | (go_at_call 122; refine (CI.out).mono ?_; rintro e w' ⟨rfl, hbb⟩))
     go_roundw
     case rel => exact ⟨k + 1, by omega, by go_num, HM.out, H2.out _ hbb, HB.out _ hbb⟩
     case measure => simp [intOf]; omega
    ·rw [hm] at CI HH
     have HM : Hid (false = cls r) := hid (HH.out rfl).symm
     clear hm HH HS
     go_wp2_with (first
      | (with_reducible refine wpList_load_rowB_g h0 _ rfl (by kernel_rfl) rfl ?_)
      | (go_at_call 122; refine (CI.out).mono ?_; rintro e w' ⟨rfl, hbb⟩))
     go_ret
     exact ⟨lret_b HM.out, HB.out _ hbb⟩
   ·rw [hr] at hc HS
    clear hr HH
    have HM : Hid (clsTo r (k + 1) = true) := hid (by rw [HS.out]; rfl)
    go_wp2_with fail
    go_roundw
    case rel => exact ⟨k + 1, by omega, by go_num, HM.out, h0, hb⟩
    case measure => simp [intOf]; omega
  ·have hkn : k = 12 := by omega
   subst hkn
   have HM : Hid (true = cls r) := hid HNO.out.symm
   go_wp2_with fail
   go_ret
   exact ⟨lret_b HM.out, hb⟩
end

section
open Go.RowKit
theorem wpList_load_midG {P : Program} {ops : Array Oper} {rest : List Oper} {op : Oper} {a : Act} {w : World} {Q : Exit → Act → World → Prop} (ty : TypeId) (x : Operand) (ho : op.op = .load ty x) (hw : Region.wanted op (yielded ops a.tmps) = true)
  (b o : Nat) (hx : a.eval x = .pointer (some ⟨b, o, none⟩)) (cs : List Value) (d : TypeDesc) (hc : w.rangeAt b o cs)
  (hu : P.underlying ty = some d) (hd : d.isRow = true) (hi : (P.info? ty).map (·.size) = some cs.length)
  (h : wpList P ops Q rest (a.put op.dst (.agg cs.toArray)) w) : wpList P ops Q (op :: rest) a w :=
 wpList_step fun K hK => by rw [if_pos hw]; exact wp_load_mid ty x ho b o hx cs d hc hu hd hi (hK _ _ h)
theorem VecAt.boxed (w : World) (r : Nat → Bool) (ws : Nat → Value × Value) : VecAt (w.alloc (.cells (vecL r ws).toArray 52)) w.heap.size r ws := VecAt.made w _ r ws
theorem vempty_any (oo so : Option Addr) (n m oc sc : Nat) (w : World) :
  Calls Tryz.prog 77 #[.agg #[.slice oo n oc, .slice so m sc]] w fun e w' => e = .returned (.bool (decide (n = 0) && decide (m = 0))) ∧ Below w.heap.size w w' := by
 have W1 := WitT.made w (.slice oo n oc) (.slice so m sc) 39
 have hb := box_below w (.cells #[.slice oo n oc, .slice so m sc] 39)
 have HE : ∀ k : Nat, (((k : Nat) : Int) == 0) = decide (k = 0) := fun k => by rw [Bool.eq_iff_iff, beq_iff_eq, decide_eq_true_eq]; omega
 have HN := hid (HE n)
 have HM := hid (HE m)
 clear HE
 obtain ⟨c0, c1⟩ := W1
 cases hn : decide (n = 0) with
 | false =>
  rw [hn] at HN
  have hn1 := HN.out
  have hn2 : ¬ (n : Int) = 0 := by have := of_decide_eq_false hn; omega
  clear hn HM
  go_enter Tryz.func77, Tryz.ntmps77
  go_wp2_with fail
  go_ret
  exact ⟨rfl, hb⟩
 | true =>
  rw [hn] at HN
  have hn1 := HN.out
  have hn2 : (n : Int) = 0 := by have := of_decide_eq_true hn; omega
  have hm1 := HM.out
  generalize decide (m = 0) = q at *
  clear hn
  go_enter Tryz.func77, Tryz.ntmps77
  go_wp2_with fail
  go_ret
  refine ⟨?_, hb⟩
  simp
end

section
open Go.RowKit
def vrgAt (h : List TxnV) (r : Nat → Bool) (lo : Nat → List Int) (ls : Nat → List (List Int)) (i : Nat) : Bool := if r i = true then acceptsB h (i : Int) (lo i) (ls i) else decide ((lo i).length = 0) && decide ((ls i).length = 0)
def vrgTo (h : List TxnV) (r : Nat → Bool) (lo : Nat → List Int) (ls : Nat → List (List Int)) (k : Nat) : Bool := (List.range k).all (vrgAt h r lo ls)
def vrgB (h : List TxnV) (r : Nat → Bool) (lo : Nat → List Int) (ls : Nat → List (List Int)) : Bool := vrgTo h r lo ls 12 && cls r
theorem vrgTo_succ (h : List TxnV) (r : Nat → Bool) (lo : Nat → List Int) (ls : Nat → List (List Int)) (k : Nat) : vrgTo h r lo ls (k + 1) = (vrgTo h r lo ls k && vrgAt h r lo ls k) := by
 unfold vrgTo; rw [List.range_succ, List.all_append]; simp
theorem vrg_no {h : List TxnV} {r : Nat → Bool} {lo : Nat → List Int} {ls : Nat → List (List Int)} {k : Nat} (hk : k < 12) (hn : vrgAt h r lo ls k = false) : vrgB h r lo ls = false := by
 have : vrgTo h r lo ls 12 = false := by
  unfold vrgTo
  rw [List.all_eq_false]
  exact ⟨k, List.mem_range.2 hk, by rw [hn]; simp⟩
 unfold vrgB
 rw [this]; rfl
theorem vright_any (h : List TxnV) (B b : Nat) (r : Nat → Bool) (ws : Nat → Value × Value) (lo : Nat → List Int) (ls : Nat → List (List Int)) (w : World) (hO : OrdIs w B b h) (hc : checkI h = 0) (ht : Tab w) (hK : Kinds w)
  (hI : ∀ i, i < 12 → Ints w (ws i).1 (lo i)) (hL : ∀ i, i < 12 → Lists w (ws i).2 (ls i)) :
  Calls Tryz.prog 27 #[.agg (vecL r ws).toArray, .pointer (some ⟨B, 0, none⟩)] w fun e w' => e = .returned (.bool (vrgB h r lo ls)) ∧ Below w.heap.size w w' := by
 have hg := ht.pos
 have CA := hid (fun (k : Nat) wx (hk : k < 12) (hx : Below w.heap.size w wx) => aaccepts_any (k : Int) (ws k).1 (ws k).2 (lo k) (ls k) h B b wx (hO.below hx) hc (ht.below hx hg) (hK.below hx) ((hI k hk).below hx) ((hL k hk).below hx))
 have CC := hid (fun wx (hx : Below w.heap.size w wx) => tclosed_any r wx (hK.below hx))
 have HF : Hid (∀ k, k < 12 → ∃ oo oc so sc, ws k = (.slice oo (lo k).length oc, .slice so (ls k).length sc)) := hid (fun k hk => by
  obtain ⟨oo, oc, e1, _⟩ := (hI k hk).form
  obtain ⟨so, sc, e2, _⟩ := (hL k hk).form
  exact ⟨oo, oc, so, sc, by rw [← e1, ← e2]⟩)
 have v1 := VecAt.boxed w r ws
 have hb := box_below w (.cells (vecL r ws).toArray 52)
 clear hO hc ht hK hI hL hg
 go_enter Tryz.func27, Tryz.ntmps27
 go_upto_region 1 with fail
 generalize w.alloc (.cells (vecL r ws).toArray 52) = w2 at *
 have r1 := v1.row
 go_wp2_with (with_reducible refine wpList_load_mid rfl 49 _ rfl w.heap.size 0 rfl (rowB r).toList _ r1 Tryz.underlying49 rfl (by kernel_rfl) ?_)
 clear r1
 go_loopw [9] (fun i wr => ∃ k : Nat, k ≤ 12 ∧ i = .int .i64 k ∧ vrgTo h r lo ls k = true ∧ VecAt wr w.heap.size r ws ∧ Below w.heap.size w wr) (fun i _ => 12 - (intOf i).toNat)
 case atStart => exact ⟨0, by omega, rfl, rfl, v1, hb⟩
 case round =>
  obtain ⟨k, hk, rfl, hno, v, hbr⟩ := hrel
  by_cases hlt : k < 12
  ·have hki : (k : Int) < 12 := by omega
   have HX := fun wx => run_index_rowB r k hlt wx
   have HS := hid (vrgTo_succ h r lo ls k)
   have HN := hid (fun e => vrg_no (h := h) (r := r) (lo := lo) (ls := ls) hlt e)
   rw [hno] at HS
   have hwy := v.why hlt
   have e12 : 12 + 2 * k = 12 + k * 2 := by omega
   rw [e12] at hwy
   have hd0 : decide ((k : Int) < 0) = false := decide_eq_false (by omega)
   have hd1 : decide ((12 : Int) ≤ (k : Int)) = false := decide_eq_false (by omega)
   have hd2 : decide (12 ≤ k) = false := decide_eq_false (by omega)
   have V := hid v
   have CA1 := hid (CA.out k wr hlt hbr)
   obtain ⟨oo, oc, so, sc, hw⟩ := HF.out k hlt
   rw [hw] at hwy CA1
   have CE := hid (vempty_any oo so (lo k).length (ls k).length oc sc wr)
   have HA : Hid (vrgAt h r lo ls k = if r k = true then acceptsB h (k : Int) (lo k) (ls k) else decide ((lo k).length = 0) && decide ((ls k).length = 0)) := hid rfl
   clear v hno hw e12
   generalize acceptsB h (k : Int) (lo k) (ls k) = acc at *
   generalize (decide ((lo k).length = 0) && decide ((ls k).length = 0)) = emp at *
   cases hr : r k with
   | true =>
    rw [hr] at HX HA
    have HA : Hid (vrgAt h r lo ls k = acc) := hid (by rw [HA.out]; rfl)
    clear CE hr
    cases acc with
    | true =>
     have HM : Hid (vrgTo h r lo ls (k + 1) = true) := hid (by rw [HS.out, HA.out]; rfl)
     clear HS HN HA
     go_wp2_with (with_reducible refine wpList_load_midG 39 _ rfl (by kernel_rfl) w.heap.size (12 + k * 2) rfl [.slice oo (lo k).length oc, .slice so (ls k).length sc] _ hwy Tryz.underlying39 rfl (by kernel_rfl) ?_)
     refine CA1.out.mono ?_
     rintro e w4 ⟨rfl, h4⟩
     have v4 := hid (V.out.below h4 V.out.lt)
     have hb4 := below_then hbr h4
     clear CA1 h4 V hbr hwy
     go_wp2_with fail
     go_roundw
     case rel => exact ⟨k + 1, by omega, by go_num, HM.out, v4.out, hb4⟩
     case measure => simp [intOf]; omega
    | false =>
     have HM : Hid (vrgB h r lo ls = false) := hid (HN.out HA.out)
     clear HS HN HA
     go_wp2_with (with_reducible refine wpList_load_midG 39 _ rfl (by kernel_rfl) w.heap.size (12 + k * 2) rfl [.slice oo (lo k).length oc, .slice so (ls k).length sc] _ hwy Tryz.underlying39 rfl (by kernel_rfl) ?_)
     refine CA1.out.mono ?_
     rintro e w4 ⟨rfl, h4⟩
     have hb4 := below_then hbr h4
     clear CA1 h4 V hbr hwy
     go_wp2_with fail
     go_ret
     exact ⟨ret_v HM.out.symm, hb4⟩
   | false =>
    rw [hr] at HX HA
    have HA : Hid (vrgAt h r lo ls k = emp) := hid (by rw [HA.out]; rfl)
    clear CA1 hr
    cases emp with
    | true =>
     have HM : Hid (vrgTo h r lo ls (k + 1) = true) := hid (by rw [HS.out, HA.out]; rfl)
     clear HS HN HA
     go_wp2_with (with_reducible refine wpList_load_midG 39 _ rfl (by kernel_rfl) w.heap.size (12 + k * 2) rfl [.slice oo (lo k).length oc, .slice so (ls k).length sc] _ hwy Tryz.underlying39 rfl (by kernel_rfl) ?_)
     refine CE.out.mono ?_
     rintro e w4 ⟨rfl, h4⟩
     have v4 := hid (V.out.below h4 V.out.lt)
     have hb4 := below_then hbr h4
     clear CE h4 V hbr hwy
     go_wp2_with fail
     go_roundw
     case rel => exact ⟨k + 1, by omega, by go_num, HM.out, v4.out, hb4⟩
     case measure => simp [intOf]; omega
    | false =>
     have HM : Hid (vrgB h r lo ls = false) := hid (HN.out HA.out)
     clear HS HN HA
     go_wp2_with (with_reducible refine wpList_load_midG 39 _ rfl (by kernel_rfl) w.heap.size (12 + k * 2) rfl [.slice oo (lo k).length oc, .slice so (ls k).length sc] _ hwy Tryz.underlying39 rfl (by kernel_rfl) ?_)
     refine CE.out.mono ?_
     rintro e w4 ⟨rfl, h4⟩
     have hb4 := below_then hbr h4
     clear CE h4 V hbr hwy
     go_wp2_with fail
     go_ret
     exact ⟨ret_v HM.out.symm, hb4⟩
  ·obtain rfl : k = 12 := by omega
   have hki : ¬ ((12 : Nat) : Int) < 12 := by omega
   have HM : Hid (vrgB h r lo ls = cls r) := hid (by unfold vrgB; rw [hno]; rfl)
   have r1 := v.row
   have CC1 := hid (CC.out wr hbr)
   clear v hno CA CC
   go_wp2_with (with_reducible refine wpList_load_mid rfl 49 _ rfl w.heap.size 0 rfl (rowB r).toList _ r1 Tryz.underlying49 rfl (by kernel_rfl) ?_)
   refine CC1.out.mono ?_
   rintro e w4 ⟨rfl, h4⟩
   have hb4 := below_then hbr h4
   go_wp2_with fail
   go_ret
   exact ⟨ret_v HM.out.symm, hb4⟩
end

section
open Go.RowKit
section
variable {h : List TxnV}
theorem dec_told (hc : checkI h = 0) {lv : Int} (hy : (decW h lv).2.2 = true) : acceptsB h lv (decW h lv).1 (decW h lv).2.1 = true := by
 rw [decW_some hc, Option.isSome_iff_exists] at hy
 obtain ⟨r, hf⟩ := hy
 obtain ⟨X, hX⟩ := least_ex h (askN lv) (r.map Int.ofNat)
 exact dec_accepts hc hf hX
theorem acc_cls (hc : checkI h = 0) : cls (accV h) = true := by
 unfold cls clsTo
 rw [List.all_eq_true]
 intro b _
 cases hb : accV h b with
 | true => simp
 | false =>
  cases ha : abv (accV h) (b : Int) with
  | false => simp
  | true =>
   unfold abv abvTo at ha
   rw [List.any_eq_true] at ha
   obtain ⟨a, _, ha⟩ := ha
   simp only [Bool.and_eq_true] at ha
   have := dec_implied hc ha.2.2 ha.1
   unfold accV at hb
   rw [hb] at this
   cases this
theorem vec_right (hc : checkI h = 0) : vrgB h (accV h) (fun i => (decW h (i : Int)).1) (fun i => (decW h (i : Int)).2.1) = true := by
 unfold vrgB vrgTo
 rw [acc_cls hc, Bool.and_true, List.all_eq_true]
 intro i _
 unfold vrgAt accV
 cases hy : (decW h (i : Int)).2.2 with
 | true => rw [if_pos rfl]; exact dec_told hc hy
 | false =>
  obtain ⟨e1, e2⟩ := decW_none h (i : Int) hy
  rw [if_neg (by simp)]
  simp only [e1, e2]; rfl
end
theorem fuel_most : fuelN 4611686018427387904 = 4611686018427387904 := by decide +kernel
theorem info_vec (r : Nat → Bool) (ws : Nat → Value × Value) : (Tryz.prog.info? 52).map (·.size) = some (vecL r ws).length := by rw [vecL_len]; kernel_rfl
theorem info_vecA (r : Nat → Bool) (ws : Nat → Value × Value) : (Tryz.prog.info? 52).map (·.size) = some (vecL r ws).toArray.size := by rw [show (vecL r ws).toArray.size = 36 from vecL_len _ _]; kernel_rfl
theorem results_vec3 {fn : Func} {p u v : Tmp} (h : fn.results = #[.tmp u, .cell p 52, .tmp v]) (tmps : Array Value) (w : World) (g : Nat) (r : Nat → Bool) (ws : Nat → Value × Value)
  (hp : tmps.getD p undef = .pointer (some ⟨g, 0, none⟩)) (hg : VecAt w g r ws) : (results fn tmps).run Tryz.prog w = .ok (.tuple #[tmps.getD u undef, .agg (vecL r ws).toArray, tmps.getD v undef]) w := by
 have hp' : tmps[p]?.getD undef = .pointer (some ⟨g, 0, none⟩) := by simpa using hp
 simp [results, h, hp', asAddr, run_loadVar_mid w g 0 52 (vecL r ws) _ hg.all Tryz.underlying52 rfl (info_vec r ws)]
theorem vec_put (w : World) (r : Nat → Bool) (ws : Nat → Value × Value) : VecAt ((w.alloc (.cells #[.bool false, .bool false, .bool false, .bool false, .bool false, .bool false, .bool false, .bool false, .bool false, .bool false, .bool false, .bool false, .slice none 0 0, .slice none 0 0, .slice none 0 0, .slice none 0 0, .slice none 0 0, .slice none 0 0, .slice none 0 0, .slice none 0 0, .slice none 0 0, .slice none 0 0, .slice none 0 0, .slice none 0 0, .slice none 0 0, .slice none 0 0, .slice none 0 0, .slice none 0 0, .slice none 0 0, .slice none 0 0, .slice none 0 0, .slice none 0 0, .slice none 0 0, .slice none 0 0, .slice none 0 0, .slice none 0 0] 52)).setCells w.heap.size 0 (vecL r ws)) w.heap.size r ws ∧ Below w.heap.size w ((w.alloc (.cells #[.bool false, .bool false, .bool false, .bool false, .bool false, .bool false, .bool false, .bool false, .bool false, .bool false, .bool false, .bool false, .slice none 0 0, .slice none 0 0, .slice none 0 0, .slice none 0 0, .slice none 0 0, .slice none 0 0, .slice none 0 0, .slice none 0 0, .slice none 0 0, .slice none 0 0, .slice none 0 0, .slice none 0 0, .slice none 0 0, .slice none 0 0, .slice none 0 0, .slice none 0 0, .slice none 0 0, .slice none 0 0, .slice none 0 0, .slice none 0 0, .slice none 0 0, .slice none 0 0, .slice none 0 0, .slice none 0 0] 52)).setCells w.heap.size 0 (vecL r ws)) ∧ (w.alloc (.cells #[.bool false, .bool false, .bool false, .bool false, .bool false, .bool false, .bool false, .bool false, .bool false, .bool false, .bool false, .bool false, .slice none 0 0, .slice none 0 0, .slice none 0 0, .slice none 0 0, .slice none 0 0, .slice none 0 0, .slice none 0 0, .slice none 0 0, .slice none 0 0, .slice none 0 0, .slice none 0 0, .slice none 0 0, .slice none 0 0, .slice none 0 0, .slice none 0 0, .slice none 0 0, .slice none 0 0, .slice none 0 0, .slice none 0 0, .slice none 0 0, .slice none 0 0, .slice none 0 0, .slice none 0 0, .slice none 0 0] 52)).there w.heap.size 0 (vecL r ws).toArray.size :=
 ⟨(VecAt.zero w).put r ws, below_putC (Nat.le_refl _) _ _ _ (box_below w _), by rw [show (vecL r ws).toArray.size = 36 from vecL_len _ _]; exact (VecAt.zero w).there (by omega)⟩
def WitsIn (h : List TxnV) (ws : Nat → Value × Value) (b0 : Nat) (w : World) : Prop := ∀ i, i < 12 → OwnW w b0 (ws i).1 (ws i).2 (decW h (i : Int)).1 (decW h (i : Int)).2.1
section
variable {h : List TxnV} {ws : Nat → Value × Value} {b0 : Nat} {w w' : World}
theorem WitsIn.below (q : WitsIn h ws b0 w) (hb : Below w.heap.size w w') : WitsIn h ws b0 w' := fun i hi => (q i hi).below hb
theorem WitsIn.cells (q : WitsIn h ws b0 w) {g : Nat} (hg : g < b0) (o : Nat) (vs : List Value) : WitsIn h ws b0 (w.setCells g o vs) := fun i hi => (q i hi).cells hg o vs
theorem WitsIn.base (q : WitsIn h ws b0 w) {b1 : Nat} (hb : b1 ≤ b0) : WitsIn h ws b1 w := fun i hi => (q i hi).base hb
theorem WitsIn.one (q : WitsIn h ws b0 w) (r : Nat → Bool) : (vecL r ws).toArray.all (·.oneCell') = true := vecL_one fun i hi => by
 obtain ⟨_, _, _, _, _, _, e1, e2⟩ := (q i hi).form
 rw [e1, e2]; exact ⟨rfl, rfl⟩
end
theorem map_cells {α : Type} {e : α → Value} {P : Program} {k : TypeId} {w : World} {b n : Nat} {f : Int → Option α} {c g : Nat} (h : MapI e P k w b n f c) {v : Value} (hc : w.cell? ⟨g, 0, none⟩ = some v) : b ≠ g := by
 rintro rfl
 obtain ⟨D, ⟨es, clock, hh, _⟩, _⟩ := h
 unfold World.cell? at hc
 simp [hh] at hc
theorem OrdIs.apart {w : World} {B b : Nat} {h : List TxnV} (hO : OrdIs w B b h) {g : Nat} (hg : g < B) (hgb : g < b) {v : Value} (hc : w.cell? ⟨g, 0, none⟩ = some v) (o : Nat) (vs : List Value) : OrdIs (w.setCells g o vs) B b h := by
 obtain ⟨bm, m, c, vk, vr, K, R, h1, h2, h3, h4, h5, h6⟩ := hO
 refine ⟨bm, m, c, vk, vr, K, R, fun i hi => ?_, MapI.cells (map_cells h2 hc) vs o w h2, h3, h4.cells hgb o vs, h5, h6⟩
 rw [World.frozen?_setCells, cell_put (p := ⟨B, i, none⟩) (by show B ≠ g; omega)]
 exact h1 i hi
theorem vof_ok {w0 w : World} {B b : Nat} {h : List TxnV} (much : Int) (F : Nat) (hF : fuelN much = F) (hO : OrdIs w0 B b h) (ht : Tab w0) (hK : Kinds w0) (hc : checkI h = 0) (hb : Below w0.heap.size w0 w) (hM : ∀ l : Nat, l < 12 → (decN h (l : Int)).2.2 + 2 ≤ 1099511627776) (hl : Lasts F 0 (vecTo h 12).2) :
  Calls Tryz.prog 23 #[.pointer (some ⟨B, 0, none⟩), .int .i64 much] w fun e w' => (∃ ws, e = .returned (.tuple #[.agg (vecL (accV h) ws).toArray, .int .i64 0]) ∧ WitsIn h ws w.heap.size w') ∧ Below w.heap.size w w' := by
 refine (vof_any much F hF hO ht hK hc hb hM).mono ?_
 rintro e w' ⟨hb', ⟨_, ws, rfl, hw⟩ | ⟨hn, _⟩⟩
 ·exact ⟨⟨ws, rfl, hw⟩, hb'⟩
 ·exact (hn hl).elim
theorem vec_few {h : List TxnV} (hn : h.length ≤ 7) : ∀ l : Nat, l < 12 → (decN h (l : Int)).2.2 + 2 ≤ 1099511627776 := fun l _ => by
 have h1 := dec_tries h (l : Int)
 have h2 := tr_le h.length hn
 omega
theorem lawof_any (va : Value) (h : List TxnV) (w : World) (hT : Txns w va h) (hok : ∀ t ∈ h, t.ok) (hsh : Short h) (hc : checkI h = 0) (ht : Tab w) (hK : Kinds w) (hM : ∀ l : Nat, l < 12 → (decN h (l : Int)).2.2 + 2 ≤ 1099511627776) :
  Calls Tryz.prog 32 #[va] w fun e w' => (∃ B ws, e = .returned (.tuple #[.pointer (some ⟨B, 0, none⟩), .agg (vecL (accV h) ws).toArray, .bool true]) ∧ OrdIs w' B (B + 2) h ∧ WitsIn h ws w.heap.size w') ∧ Below w.heap.size w w' := by
 have hg := ht.pos
 have V3 := VecAt.zero w
 have hb1 := box_below w (.cells #[.bool false, .bool false, .bool false, .bool false, .bool false, .bool false, .bool false, .bool false, .bool false, .bool false, .bool false, .bool false, .slice none 0 0, .slice none 0 0, .slice none 0 0, .slice none 0 0, .slice none 0 0, .slice none 0 0, .slice none 0 0, .slice none 0 0, .slice none 0 0, .slice none 0 0, .slice none 0 0, .slice none 0 0, .slice none 0 0, .slice none 0 0, .slice none 0 0, .slice none 0 0, .slice none 0 0, .slice none 0 0, .slice none 0 0, .slice none 0 0, .slice none 0 0, .slice none 0 0, .slice none 0 0, .slice none 0 0] 52)
 have CO := hid (of_done va h _ (hT.below hb1) hok hsh hc)
 have HT : Hid (∀ wx, Below w.heap.size w wx → Tab wx ∧ Kinds wx) := hid (fun wx hb => ⟨ht.below hb hg, hK.below hb⟩)
 have hs1 : (w.alloc (.cells #[.bool false, .bool false, .bool false, .bool false, .bool false, .bool false, .bool false, .bool false, .bool false, .bool false, .bool false, .bool false, .slice none 0 0, .slice none 0 0, .slice none 0 0, .slice none 0 0, .slice none 0 0, .slice none 0 0, .slice none 0 0, .slice none 0 0, .slice none 0 0, .slice none 0 0, .slice none 0 0, .slice none 0 0, .slice none 0 0, .slice none 0 0, .slice none 0 0, .slice none 0 0, .slice none 0 0, .slice none 0 0, .slice none 0 0, .slice none 0 0, .slice none 0 0, .slice none 0 0, .slice none 0 0, .slice none 0 0] 52)).heap.size = w.heap.size + 1 := by simp
 have HC := hid hc
 have HM := hid hM
 clear hT hok hsh hc ht hK hM
 go_enter Tryz.func32, Tryz.ntmps32
 go_upto_region 1 with fail
 generalize w.alloc (.cells #[.bool false, .bool false, .bool false, .bool false, .bool false, .bool false, .bool false, .bool false, .bool false, .bool false, .bool false, .bool false, .slice none 0 0, .slice none 0 0, .slice none 0 0, .slice none 0 0, .slice none 0 0, .slice none 0 0, .slice none 0 0, .slice none 0 0, .slice none 0 0, .slice none 0 0, .slice none 0 0, .slice none 0 0, .slice none 0 0, .slice none 0 0, .slice none 0 0, .slice none 0 0, .slice none 0 0, .slice none 0 0, .slice none 0 0, .slice none 0 0, .slice none 0 0, .slice none 0 0, .slice none 0 0, .slice none 0 0] 52) = w1 at *
 go_wp2_with fail
 refine CO.out.mono ?_
 rintro e w2 ⟨⟨B, rfl, hB, hO⟩, h2⟩
 have hb2 := below_then hb1 h2
 have h12 := h2.size
 have V3 := V3.below h2 V3.lt
 have hTK := HT.out _ hb2
 have CV := hid (vof_ok (w := w2) 4611686018427387904 4611686018427387904 fuel_most hO hTK.1 hTK.2 HC.out (Below.refl _ _) HM.out (.inl rfl))
 have HO := hid (fun wx (hx : Below w2.heap.size w2 wx) => hO.below hx)
 clear CO hO h2 hTK hb1
 go_wp2_with fail
 refine CV.out.mono ?_
 rintro e w3 ⟨⟨ws, rfl, hW⟩, h3⟩
 obtain ⟨V7, hb7, hth⟩ := vec_put w3 (accV h) ws
 have hone := hW.one (accV h)
 have hinf := info_vecA (accV h) ws
 have h27 := below_then h3 hb7
 have HO7 := hid (HO.out _ h27)
 have W7 := hW.below hb7
 have V3 := V3.below h3 V3.lt
 have hne := V3.lt
 have V3 := V3.below hb7 V3.lt
 have hbW := below_then hb2 h27
 clear CV h3 h27 hb2 hW HO
 go_upto_region 5 with (first | (with_reducible refine wpList_store_mid rfl 52 _ _ rfl w3.heap.size 0 (vecL (accV h) ws).toArray rfl rfl hth hinf hone ?_))
 generalize (w3.alloc (.cells #[.bool false, .bool false, .bool false, .bool false, .bool false, .bool false, .bool false, .bool false, .bool false, .bool false, .bool false, .bool false, .slice none 0 0, .slice none 0 0, .slice none 0 0, .slice none 0 0, .slice none 0 0, .slice none 0 0, .slice none 0 0, .slice none 0 0, .slice none 0 0, .slice none 0 0, .slice none 0 0, .slice none 0 0, .slice none 0 0, .slice none 0 0, .slice none 0 0, .slice none 0 0, .slice none 0 0, .slice none 0 0, .slice none 0 0, .slice none 0 0, .slice none 0 0, .slice none 0 0, .slice none 0 0, .slice none 0 0] 52)).setCells w3.heap.size 0 (vecL (accV h) ws) = w7 at *
 generalize w3.heap.size = g7 at *
 have kd := (Below.refl w7.heap.size w7).drew
 have V7 := hid (V7.below kd V7.lt)
 have HO7 := hid (HO7.out.below kd)
 have W7 := W7.below kd
 have HV3 := hid (V3.below kd V3.lt)
 have hbW := below_then hbW kd
 have hinf2 := info_vec (accV h) ws
 clear V3 kd hth
 refine wp_region_held_drew (S := fun wx => wx.rangeAt g7 0 (vecL (accV h) ws)) (by kernel_rfl) V7.out.all (fun hS0 => ?_)
 generalize w7.drew = wd at *
 refine tG9 (some 25) 0 ?vtg0x1 rfl rfl (Or.inl ⟨by rfl, ?htg0x1⟩) hS0 ?rtg0x1
 case htg0x1 => (intro w hw; go_simp; try (with_reducible rfl))
 try simp only [Act.put, zA9, zB9, zC9]
 refine tG9 (some 26) 1 _ rfl rfl (yieldsIf_load_mid (by rfl) 52 _ rfl g7 0 rfl (vecL (accV h) ws) _ (fun _ hw => hw) Tryz.underlying52 rfl hinf2) hS0 ?_
 try simp only [Act.put, zA9, zB9, zC9]
 refine tG9 (some 27) 2 ?vtg2x3 rfl rfl (Or.inl ⟨by rfl, ?htg2x3⟩) hS0 ?rtg2x3
 case htg2x3 => (intro w hw; go_simp; try (with_reducible rfl))
 try simp only [Act.put, zA9, zB9, zC9]
 refine tG9 (some 28) 3 ?vtg3x4 rfl rfl (Or.inl ⟨by rfl, ?htg3x4⟩) hS0 ?rtg3x4
 case htg3x4 => (intro w hw; go_simp; try (with_reducible rfl))
 try simp only [Act.put, zA9, zB9, zC9]
 refine tG9 (some 2) 4 ?vtg4x5 rfl rfl (Or.inl ⟨by rfl, ?htg4x5⟩) hS0 ?rtg4x5
 case htg4x5 => (intro w hw; go_simp; try (with_reducible rfl))
 try simp only [Act.put, zA9, zB9, zC9]
 refine rD9 5 rfl (fun K hK => ?_)
 have hth := HV3.out.there (o := 0) (n := 36) (by omega)
 rw [show 36 = (vecL (accV h) ws).toArray.size from (vecL_len _ _).symm] at hth
 refine wp_store_mid 52 _ _ rfl w.heap.size 0 (vecL (accV h) ws).toArray rfl rfl hth hinf hone ?_
 have sB : (wd.setCells w.heap.size 0 (vecL (accV h) ws)).rangeAt g7 0 (vecL (accV h) ws) := World.rangeAt_setCells_apart hS0 _ _ _ (.inl (by omega))
 refine hK.out _ _ sB (fun _ => ?_)
 clear hK K hth
 refine tG9 (some 4) 6 ?vtg6x7 rfl rfl (Or.inl ⟨by rfl, ?htg6x7⟩) sB ?rtg6x7
 case htg6x7 => (intro w hw; go_simp; try (with_reducible rfl))
 try simp only [Act.put, List.setIfInBounds_toArray]
 refine wpAnyH_done (by kernel_rfl) ?_ _
 have HV9 := hid (HV3.out.put (accV h) ws)
 have HF : Hid (OrdIs (wd.setCells w.heap.size 0 (vecL (accV h) ws)) B (B + 2) h ∧ WitsIn h ws w.heap.size (wd.setCells w.heap.size 0 (vecL (accV h) ws)) ∧ Below w.heap.size w (wd.setCells w.heap.size 0 (vecL (accV h) ws))) := hid ⟨HO7.out.apart (by omega) (by omega) (HV3.out 0 (by omega)).1 0 _, (W7.cells (by omega) 0 _).base (by omega), below_putC (Nat.le_refl _) _ _ _ hbW⟩
 go_wp2_with fail
 refine bodyPost_ret (results_vec3 rfl _ _ _ (accV h) ws rfl HV9.out) rfl ⟨⟨B, ws, rfl, HF.out.1, HF.out.2.1⟩, HF.out.2.2⟩
end

section
open Go.RowKit
theorem told_implied {h : List TxnV} (hc : checkI h = 0) {a b : Int} (hi : impB a b = true) (hy : (decW h a).2.2 = true) : acceptsB h b (decW h a).1 (decW h a).2.1 = true := by
 rw [decW_some hc, Option.isSome_iff_exists] at hy
 obtain ⟨r, hf⟩ := hy
 obtain ⟨X, hX⟩ := least_ex h (askN a) (r.map Int.ofNat)
 obtain ⟨e1, e2⟩ := dec_same hc hf hX
 have hk := List.find?_some hf
 have hp := orders_perm (List.mem_of_find?_eq_some hf)
 have h64 := (check_zero hc).1
 have hlow := least_low hc hp hk hX
 have hrep := low_rep h64 hlow
 rw [e1, e2]
 unfold acceptsB
 rw [low_ok h64 hlow, Bool.true_and, ← holds_same hc hrep]
 exact implied_holds hc (nodup_ofNat (hp.nodup_iff.2 List.nodup_range)) (by rw [kept_holds hc a hp hX]; exact hk) hi
theorem verdicts9_walk (va : Value) (h : List TxnV) (w : World) (ht : Tab w) (hK : Kinds w) (hT : Txns w va h) (hok : ∀ t ∈ h, t.ok) (hsh : Short h) :
  Calls Tryz.prog 9 #[va] w fun e w' => e = .returned (.bool true) ∧ Below w.heap.size w w' := by
 have hg := ht.pos
 have HT : Hid (∀ wx, Below w.heap.size w wx → Tab wx ∧ Kinds wx) := hid (fun wx hb => ⟨ht.below hb hg, hK.below hb⟩)
 have HH := hid (fun wx (hx : Below w.heap.size w wx) => hT.below hx)
 obtain ⟨ao, cap, rfl, hal⟩ := hT.form
 have HOK := hid hok
 have HSH := hid hsh
 have C0 := hid (lone_any w)
 clear ht hK hT hok
 go_enter Tryz.func9, Tryz.ntmps9
 go_wp2_with fail
 refine (C0.out).mono ?_
 rintro e w1 ⟨rfl, hb1⟩
 clear C0
 by_cases h5 : 7 < h.length
 ·have h5i : (7 : Int) < (h.length : Int) := by omega
  clear hsh
  go_wp2_with fail
  go_ret
  exact ⟨rfl, hb1⟩
 have h5i : ¬ (7 : Int) < (h.length : Int) := by omega
 have CC := hid (rcheck_any _ h w1 (HH.out _ hb1) hsh)
 rw [← check_ref] at CC
 by_cases hc : checkI h = 0
 rotate_left
 ·have hcn : ¬ checkI h = 0 := hc
  generalize checkI h = c at *
  have hcb : (c != 0) = true := by rw [bne_iff_ne]; exact hcn
  clear hsh hc
  go_wp2_with fail
  refine (CC.out).mono ?_
  rintro e w2 ⟨rfl, hb2⟩
  have hb2 := below_then hb1 hb2
  go_wp2_with fail
  go_ret
  exact ⟨rfl, hb2⟩
 rw [hc] at CC
 go_wp2_with fail
 refine (CC.out).mono ?_
 rintro e w2 ⟨rfl, hb2⟩
 have hb2 := below_then hb1 hb2
 have hTK := HT.out _ hb2
 have hM := vec_few (h := h) (by omega)
 have CO := hid (lawof_any _ h w2 (HH.out _ hb2) HOK.out HSH.out hc hTK.1 hTK.2 hM)
 have HC := hid hc
 have HM := hid hM
 clear hb1 CC hc hsh hTK HH HOK HSH hM
 go_wp2_with fail
 refine (CO.out).mono ?_
 rintro e w3 ⟨⟨B, ws, rfl, hO, hW⟩, h3⟩
 have hb3 := below_then hb2 h3
 obtain ⟨V4, hb7, hth⟩ := vec_put w3 (accV h) ws
 have hone := hW.one (accV h)
 have hinf := info_vecA (accV h) ws
 have hinf2 := info_vec (accV h) ws
 have hb4 := below_then hb3 hb7
 have hO := hO.below hb7
 have W4 := hW.below hb7
 have hTK := HT.out _ hb4
 have CR := hid (vright_any h B (B + 2) (accV h) ws _ _ _ hO HC.out hTK.1 hTK.2 (fun i hi => (W4 i hi).ints) (fun i hi => (W4 i hi).lists))
 rw [vec_right HC.out] at CR
 clear CO h3 hb2 hb3 hW hb7
 go_upto_region 6 with (with_reducible refine wpList_store_mid rfl 52 _ _ rfl w3.heap.size 0 (vecL (accV h) ws).toArray rfl rfl hth hinf hone ?_)
 generalize (w3.alloc (.cells #[.bool false, .bool false, .bool false, .bool false, .bool false, .bool false, .bool false, .bool false, .bool false, .bool false, .bool false, .bool false, .slice none 0 0, .slice none 0 0, .slice none 0 0, .slice none 0 0, .slice none 0 0, .slice none 0 0, .slice none 0 0, .slice none 0 0, .slice none 0 0, .slice none 0 0, .slice none 0 0, .slice none 0 0, .slice none 0 0, .slice none 0 0, .slice none 0 0, .slice none 0 0, .slice none 0 0, .slice none 0 0, .slice none 0 0, .slice none 0 0, .slice none 0 0, .slice none 0 0, .slice none 0 0, .slice none 0 0] 52)).setCells w3.heap.size 0 (vecL (accV h) ws) = w4 at *
 generalize w3.heap.size = g5 at *
 have hall := V4.all
 clear hth hone hinf
 go_wp2_with (with_reducible refine wpList_load_midG 52 _ rfl (by kernel_rfl) g5 0 rfl (vecL (accV h) ws) _ hall Tryz.underlying52 rfl hinf2 ?_)
 refine CR.out.mono ?_
 rintro e w6 ⟨rfl, h6⟩
 have hrow := (V4.below h6 V4.lt).row
 have V6 := V4.below h6 V4.lt
 have HO6 := hid (hO.below h6)
 have HWI := hid (W4.below h6)
 have hb6 := below_then hb4 h6
 clear CR V4 hall hinf2 h6 hO W4 hTK hb4
 go_wp2_with (with_reducible refine wpList_load_mid rfl 49 _ rfl g5 0 rfl (rowB (accV h)).toList _ hrow Tryz.underlying49 rfl (by kernel_rfl) ?_)
 have HV6 := hid (fun wx (hx : Below w6.heap.size w6 wx) => V6.below hx V6.lt)
 have HT6 := hid (fun wx (hx : Below w6.heap.size w6 wx) => HT.out _ (below_then hb6 hx))
 have HZ6 := hid (fun wx (hx : Below w6.heap.size w6 wx) => below_then hb6 hx)
 have hT6 := HT.out _ hb6
 have CD := hid (fun (l : Nat) (T : Nat) wx (hl : l < 12) (hx : Below w6.heap.size w6 wx) (hT : w6.heap.size ≤ T) hm => sdecide_ok (w := wx) (l : Int) T 4611686018427387904 0 HO6.out hT6.1 hT6.2 HC.out hx hT hm (HM.out l hl) (fun _ => by have := HM.out l hl; omega) (.inl rfl))
 have CA := hid (fun lv vo vs l LL wx (hx : Below w6.heap.size w6 wx) hI hL => aaccepts_any lv vo vs l LL h B (B + 2) wx (HO6.out.below hx) HC.out (HT6.out wx hx).1 (HT6.out wx hx).2 hI hL)
 have CI := hid (fun a b wx (hx : Below w6.heap.size w6 wx) => limp_any a b wx (HT6.out wx hx).2)
 have hb66 := Below.refl w6.heap.size w6
 have CN := hid (fun wx => fnew_any 4611686018427387904 wx)
 rw [fuel_most] at CN
 clear hrow V6 HT hb6 hT6
 go_loopw [38] (fun i wr => ∃ k : Nat, k ≤ 12 ∧ i = .int .i64 k ∧ Below w6.heap.size w6 wr) (fun i _ => 12 - (intOf i).toNat)
 case atStart => exact ⟨0, by omega, rfl, hb66⟩
 case round =>
  obtain ⟨k, hk, rfl, hbr⟩ := hrel
  by_cases hlt : k < 12
  ·have hki : (k : Int) < 12 := by omega
   have HIX := fun wx => run_index_rowB (accV h) k hlt wx
   obtain ⟨q, hq⟩ : ∃ q, accV h k = q := ⟨_, rfl⟩
   have HQ := hid hq
   rw [hq] at HIX
   have hqq : (q != q) = false := by cases q <;> rfl
   have HWK := hid (fun wx (hx : Below w6.heap.size w6 wx) => And.intro ((HWI.out k hlt).below hx).ints ((HWI.out k hlt).below hx).lists)
   obtain ⟨oo, no, oc, so, ns, sc, e1, e2⟩ := (HWI.out k hlt).form
   rw [e1, e2] at HWK
   have HWY := hid (fun wx (hx : Below w6.heap.size w6 wx) => by have h1 := (HV6.out wx hx).why hlt; rw [e1, e2, Nat.mul_comm 2 k] at h1; exact h1)
   have HTI := hid (fun (j : Nat) (e : q = true) (hi : impB (k : Int) (j : Int) = true) => And.intro (dec_implied HC.out hi (hq.trans e)) (told_implied HC.out hi (hq.trans e)))
   clear hq e1 e2 hb66
   go_wp2_with fail
   refine (CN.out _).mono ?_
   rintro e w7 ⟨T, rfl, hm7, hT7, h7⟩
   have hb7 := below_then hbr h7
   have CD1 := hid (CD.out k T w7 hlt hb7 (by have := hbr.size; omega) hm7)
   clear hm7
   go_wp2_with fail
   refine CD1.out.mono ?_
   rintro e w8 ⟨vo, vs, rfl, hI8, hL8, _, hg8, _⟩
   have hb8 : Below w6.heap.size w6 w8 := hb7.grown hg8 hb7.size (fun j hj => by cases hj; have := hbr.size; omega)
   have hyq : (decW h (k : Int)).2.2 = q := HQ.out
   rw [hyq]
   obtain ⟨po, pc, rfl, _⟩ := hI8.form
   obtain ⟨qo, qc, rfl, _⟩ := hL8.form
   generalize hnl : (decW h (k : Int)).1.length = nl at *
   generalize hnk : (decW h (k : Int)).2.1.length = nk at *
   have W9 := WitT.made w8 (.slice po nl pc) (.slice qo nk qc) 39
   have hx9 := box_below w8 (.cells #[.slice po nl pc, .slice qo nk qc] 39)
   have hb9 := below_then hb8 hx9
   have HI9 := hid (fun wx (hx : Below (w8.alloc (.cells #[.slice po nl pc, .slice qo nk qc] 39)).heap.size (w8.alloc (.cells #[.slice po nl pc, .slice qo nk qc] 39)) wx) => And.intro ((hI8.below hx9).below hx) ((hL8.below hx9).below hx))
   clear CD1 h7 hT7 hb7 hg8 hb8 hI8 hL8 hx9 hnl hnk hyq hbr
   go_upto_region 12 with fail
   generalize w8.alloc (.cells #[.slice po nl pc, .slice qo nk qc] 39) = w9 at *
   generalize w8.heap.size = x9 at *
   have CS := hid (fun wx (hx : Below w9.heap.size w9 wx) => same17_any _ _ _ _ (decW h (k : Int)).1 (decW h (k : Int)).2.1 wx (HI9.out wx hx).1 (HI9.out wx hx).2 (HWK.out wx (below_then hb9 hx)).1 (HWK.out wx (below_then hb9 hx)).2)
   have kd := (Below.refl w9.heap.size w9).drew
   have HW9 := hid (fun wx (hx : Below w9.heap.size w9 wx) => W9.below hx)
   have W9 := W9.below kd
   have hwy := HWY.out _ (below_then hb9 kd)
   have CS1 := hid (CS.out _ kd)
   have HKD := hid kd
   have hd0 : decide ((k : Int) < 0) = false := decide_eq_false (by omega)
   have hd1 : decide ((12 : Int) ≤ (k : Int)) = false := decide_eq_false (by omega)
   have hd2 : decide (12 ≤ k) = false := decide_eq_false (by omega)
   clear kd CS
   refine wp_region_held_drew (S := fun wx => wx.rangeAt g5 (12 + k * 2) [.slice oo no oc, .slice so ns sc] ∧ (wx.cell? ⟨x9, 0, none⟩ = some (.slice po nl pc) ∧ wx.cell? ⟨x9, 1, none⟩ = some (.slice qo nk qc))) (by kernel_rfl) ⟨hwy, W9.c0, W9.c1⟩ (fun hS0 => ?_)
   generalize w9.drew = wd at *
   refine tG9 (some 50) 0 ?vtm0x1 rfl rfl (Or.inl ⟨by rfl, ?htm0x1⟩) hS0 ?rtm0x1
   case htm0x1 => (intro w hw; go_simp; try (with_reducible rfl))
   try simp only [Act.put, zA9, zB9, zC9]
   refine tG9 (some 51) 1 ?vtm1x2 rfl rfl (Or.inl ⟨by rfl, ?htm1x2⟩) hS0 ?rtm1x2
   case htm1x2 => (intro w hw; go_simp; try (with_reducible rfl))
   try simp only [Act.put, zA9, zB9, zC9]
   refine tG9 (some 52) 2 ?vtm2x3 rfl rfl (Or.inl ⟨by rfl, ?htm2x3⟩) hS0 ?rtm2x3
   case htm2x3 => (intro w hw; go_simp; try (with_reducible rfl))
   try simp only [Act.put, zA9, zB9, zC9]
   refine tG9 (some 53) 3 ?vtm3x4 rfl rfl (Or.inl ⟨by rfl, ?htm3x4⟩) hS0 ?rtm3x4
   case htm3x4 => (intro w hw; go_simp; try (with_reducible rfl))
   try simp only [Act.put, zA9, zB9, zC9]
   refine tG9 (some 54) 4 ?vtm4x5 rfl rfl (Or.inl ⟨by rfl, ?htm4x5⟩) hS0 ?rtm4x5
   case htm4x5 => (intro w hw; go_simp; try (with_reducible rfl))
   try simp only [Act.put, zA9, zB9, zC9]
   refine tG9 (some 55) 5 ?vtm5x6 rfl rfl (Or.inl ⟨by rfl, ?htm5x6⟩) hS0 ?rtm5x6
   case htm5x6 => (intro w hw; go_simp; try (with_reducible rfl))
   try simp only [Act.put, zA9, zB9, zC9]
   refine tG9 (some 56) 6 ?vtm6x7 rfl rfl (Or.inl ⟨by rfl, ?htm6x7⟩) hS0 ?rtm6x7
   case htm6x7 => (intro w hw; go_simp; try (with_reducible rfl))
   try simp only [Act.put, zA9, zB9, zC9]
   refine tG9 (some 57) 7 ?vtm7x8 rfl rfl (Or.inl ⟨by rfl, ?htm7x8⟩) hS0 ?rtm7x8
   case htm7x8 => (intro w hw; go_simp; try (with_reducible rfl))
   try simp only [Act.put, zA9, zB9, zC9]
   refine tG9 (some 58) 8 ?vtm8x9 rfl rfl (Or.inl ⟨by rfl, ?htm8x9⟩) hS0 ?rtm8x9
   case htm8x9 => (intro w hw; obtain ⟨_, m0, m1⟩ := hw; go_simp; try (with_reducible rfl))
   try simp only [Act.put, zA9, zB9, zC9]
   refine tG9 (some 59) 9 ?vtm9x10 rfl rfl (Or.inl ⟨by rfl, ?htm9x10⟩) hS0 ?rtm9x10
   case htm9x10 => (intro w hw; go_simp; try (with_reducible rfl))
   try simp only [Act.put, zA9, zB9, zC9]
   refine tG9 (some 60) 10 ?vtm10x11 rfl rfl (Or.inl ⟨by rfl, ?htm10x11⟩) hS0 ?rtm10x11
   case htm10x11 => (intro w hw; go_simp; try (with_reducible rfl))
   try simp only [Act.put, zA9, zB9, zC9]
   refine tG9 (some 61) 11 ?vtm11x12 rfl rfl (Or.inl ⟨by rfl, ?htm11x12⟩) hS0 ?rtm11x12
   case htm11x12 => (intro w hw; go_simp; try (with_reducible rfl))
   try simp only [Act.put, zA9, zB9, zC9]
   refine tG9 (some 62) 12 _ rfl rfl (yieldsIf_load_mid (by rfl) 39 _ rfl g5 (12 + k * 2) rfl [.slice oo no oc, .slice so ns sc] _ (fun _ hw => hw.1) Tryz.underlying39 rfl (by kernel_rfl)) hS0 ?_
   try simp only [Act.put, zA9, zB9, zC9]
   refine rD9 13 rfl (fun K hK => ?_)
   go_simp
   refine CS1.out.mono ?_
   rintro e wA ⟨rfl, hA⟩
   have sB : wA.rangeAt g5 (12 + k * 2) [.slice oo no oc, .slice so ns sc] ∧ (wA.cell? ⟨x9, 0, none⟩ = some (.slice po nl pc) ∧ wA.cell? ⟨x9, 1, none⟩ = some (.slice qo nk qc)) := ⟨HWY.out _ (below_then hb9 (below_then HKD.out hA)), ⟨(hA.cell (p := ⟨x9, 0, none⟩) (block_lt hS0.2.1)).trans hS0.2.1, (hA.cell (p := ⟨x9, 1, none⟩) (block_lt hS0.2.2)).trans hS0.2.2⟩⟩
   show K _ _
   refine hK.out _ _ sB (fun _ => ?_)
   clear hK K
   refine tG9 (some 64) 14 ?vtm14x15 rfl rfl (Or.inl ⟨by rfl, ?htm14x15⟩) sB ?rtm14x15
   case htm14x15 => (intro w hw; go_simp; try (with_reducible rfl))
   try simp only [Act.put, zA9, zB9, zC9]
   refine tG9 (some 65) 15 ?vtm15x16 rfl rfl (Or.inl ⟨by rfl, ?htm15x16⟩) sB ?rtm15x16
   case htm15x16 => (intro w hw; go_simp; try (with_reducible rfl))
   try simp only [Act.put, zA9, zB9, zC9]
   refine wpAnyH_done (by kernel_rfl) ?_ _
   have hA := below_then HKD.out hA
   clear HKD CS1 W9 hwy hS0 sB
   go_wp2_with fail
   have hAA := hA
   go_loopw [66] (fun i wr => ∃ j : Nat, j ≤ 12 ∧ i = .int .i64 j ∧ Below w9.heap.size w9 wr) (fun i _ => 12 - (intOf i).toNat)
   case atStart => exact ⟨0, by omega, rfl, hAA⟩
   case round =>
    obtain ⟨j, hj, rfl, hbj⟩ := hrel
    by_cases hjt : j < 12
    ·have hji : (j : Int) < 12 := by omega
     cases q with
     | false =>
      clear CI CA HTI
      go_wp2_with fail
      go_roundw
      case rel => exact ⟨j + 1, by omega, by go_num, hbj⟩
      case measure => simp [intOf]; omega
     | true =>
      have CI1 := hid (CI.out (k : Int) (j : Int) wr (below_then hb9 hbj))
      cases hm : impB (k : Int) (j : Int) with
      | false =>
       rw [hm] at CI1
       clear CI CA HTI hm
       go_wp2_with fail
       refine CI1.out.mono ?_
       rintro e wq ⟨rfl, rfl⟩
       go_wp2_with fail
       go_roundw
       case rel => exact ⟨j + 1, by omega, by go_num, hbj⟩
       case measure => simp [intOf]; omega
      | true =>
       rw [hm] at CI1
       obtain ⟨f1, f2⟩ := HTI.out j rfl hm
       have CA1 := hid (CA.out (j : Int) _ _ _ _ wr (below_then hb9 hbj) (HI9.out wr hbj).1 (HI9.out wr hbj).2)
       rw [f2] at CA1
       have hcj := ((HV6.out wr (below_then hb9 hbj)) j (by omega)).1
       rw [show vecF (accV h) ws j = .bool true by unfold vecF; rw [if_pos hjt]; exact congrArg Value.bool f1] at hcj
       obtain ⟨m0, m1⟩ := HW9.out wr hbj
       have hd0 : decide ((j : Int) < 0) = false := decide_eq_false (by omega)
       have hd1 : decide ((12 : Int) ≤ (j : Int)) = false := decide_eq_false (by omega)
       have hd2 : decide (12 ≤ j) = false := decide_eq_false (by omega)
       clear CI CA HTI hm f1 f2
       go_wp2_with fail
       refine CI1.out.mono ?_
       rintro e wq ⟨rfl, rfl⟩
       go_wp2_with fail
       refine CA1.out.mono ?_
       rintro e wB ⟨rfl, hB⟩
       have hbB := below_then hbj hB
       clear CI1 CA1 hB m0 m1 hcj hbj
       go_wp2_with fail
       go_roundw
       case rel => exact ⟨j + 1, by omega, by go_num, hbB⟩
       case measure => simp [intOf]; omega
    ·obtain rfl : j = 12 := by omega
     have hji : ¬ ((12 : Nat) : Int) < 12 := by omega
     have hbz := below_then hb9 hbj
     clear CI CA HTI CD CN HW9 HI9
     go_wp2_with fail
     go_roundw
     case rel => exact ⟨k + 1, by omega, by go_num, hbz⟩
     case measure => simp [intOf]; omega
  ·obtain rfl : k = 12 := by omega
   have hki : ¬ ((12 : Nat) : Int) < 12 := by omega
   have hz := HZ6.out _ hbr
   go_wp2_with fail
   go_ret
   exact ⟨rfl, hz⟩
end

end Go.Proofs.YtmcicfdnmfbimaaGreatDoor
