/- Walks and plain facts that the proof of the statement RenameKeeps uses, joined: VecD TblM VecE VecF VecG VecH LevD TblD TblE TblF TblG TblJ TblH TblK VecJ VecK CanK CanL RenK RenM RenL RenN RenO RenP OkN RenQ. Conditions: each theorem's own. -/
import Derived.ChangeKeysEq
import Derived.Outline
import Derived.Deep.MidRow
import Derived.Laws.BitsAllLaws
import Derived.Test.YtnhkjehfmbfmmaaGreatDoorPRenameKeeps1
import Derived.Test.YtnhkjehfmbfmmaaGreatDoorPRenameKeeps2
import Derived.Test.YtnhkjehfmbfmmaaGreatDoorPRenameKeeps3
import Derived.Test.YtnhkjehfmbfmmaaGreatDoorPRenameKeeps4
import Derived.Test.YtnhkjehfmbfmmaaGreatDoorPRenameKeeps5
import Derived.Test.YtnhkjehfmbfmmaaGreatDoorPRenameKeeps7
import Derived.Test.YtnhkjehfmbfmmaaGreatDoorPRenameKeeps8
namespace Go.Proofs.YtnhkjehfmbfmmaaGreatDoor
set_option maxHeartbeats 32000000
set_option maxRecDepth 100000
set_option linter.unusedSimpArgs false
set_option linter.unusedVariables false
open Lib (hid)
section
open Go.RowKit
theorem vec_zero : #[.bool false, .bool false, .bool false, .bool false, .bool false, .bool false, .bool false, .bool false, .bool false, .bool false, .bool false, .bool false, .slice none 0 0, .slice none 0 0, .slice none 0 0, .slice none 0 0, .slice none 0 0, .slice none 0 0, .slice none 0 0, .slice none 0 0, .slice none 0 0, .slice none 0 0, .slice none 0 0, .slice none 0 0, .slice none 0 0, .slice none 0 0, .slice none 0 0, .slice none 0 0, .slice none 0 0, .slice none 0 0, .slice none 0 0, .slice none 0 0, .slice none 0 0, .slice none 0 0, .slice none 0 0, .slice none 0 0] = (vecL noB wZ0).toArray := by kernel_rfl
theorem VecAt.zero (w : World) : VecAt (w.alloc (.cells #[.bool false, .bool false, .bool false, .bool false, .bool false, .bool false, .bool false, .bool false, .bool false, .bool false, .bool false, .bool false, .slice none 0 0, .slice none 0 0, .slice none 0 0, .slice none 0 0, .slice none 0 0, .slice none 0 0, .slice none 0 0, .slice none 0 0, .slice none 0 0, .slice none 0 0, .slice none 0 0, .slice none 0 0, .slice none 0 0, .slice none 0 0, .slice none 0 0, .slice none 0 0, .slice none 0 0, .slice none 0 0, .slice none 0 0, .slice none 0 0, .slice none 0 0, .slice none 0 0, .slice none 0 0, .slice none 0 0] 44)) w.heap.size noB wZ0 := by rw [vec_zero]; exact VecAt.made w _ noB wZ0
def VofRes (h : List TxnV) (F : Nat) (w : World) (e : Ending) (w' : World) : Prop :=
 Below w.heap.size w w' ∧ ((Lasts F 0 (vecTo h 12).2 ∧ ∃ ws, e = .returned (.tuple #[.agg (vecL (accV h) ws).toArray, .int .i64 0]) ∧ ∀ i, i < 12 → OwnW w' w.heap.size (ws i).1 (ws i).2 (decW h (i : Int)).1 (decW h (i : Int)).2.1) ∨
  (¬ Lasts F 0 (vecTo h 12).2 ∧ e = .returned (.tuple #[.agg (vecL noB wZ0).toArray, .int .i64 4])))
structure VecOn (h : List TxnV) (w : World) (g b0 k : Nat) (ws : Nat → Value × Value) (W : World) : Prop where
 at_ : VecAt W g (vecTo h k).1 ws
 own : ∀ i, i < 12 → OwnW W b0 (ws i).1 (ws i).2 (if i < k then (decW h (i : Int)).1 else []) (if i < k then (decW h (i : Int)).2.1 else [])
 bel : Below w.heap.size w W
section
variable {h : List TxnV} {w W W' : World} {g b0 k : Nat} {ws : Nat → Value × Value}
theorem VecOn.grown {T : Nat} (q : VecOn h w g b0 k ws W) (hg : W.grownBy W' (some T)) (hT : T < b0) (hgT : g ≠ T) (hw : w.heap.size ≤ T) : VecOn h w g b0 k ws W' :=
 ⟨q.at_.grown hg (fun e => hgT (Option.some.inj e)), fun i hi => (q.own i hi).kept hg hT, q.bel.grown hg q.bel.size (fun j hj => by cases hj; exact hw)⟩
theorem VecOn.below (q : VecOn h w g b0 k ws W) (hb : Below W.heap.size W W') : VecOn h w g b0 k ws W' := ⟨q.at_.below hb q.at_.lt, fun i hi => (q.own i hi).below hb, below_then q.bel hb⟩
theorem heap_three (w : World) (g k o : Nat) (a x y : Value) {j : Nat} (hj : j ≠ g) : ((w.setCell ⟨g, k, none⟩ a).setCells g o [x, y]).heap[j]? = w.heap[j]? := by
 have e : (w.setCell ⟨g, k, none⟩ a).setCells g o [x, y] = ((w.setCell ⟨g, k, none⟩ a).setCell ⟨g, o, none⟩ x).setCell ⟨g, o + 1, none⟩ y := rfl
 rw [e, Below.heap_setCell _ _ _ _ hj, Below.heap_setCell _ _ _ _ hj, Below.heap_setCell _ _ _ _ hj]
theorem VecAt.apart {r : Nat → Bool} (h : VecAt w g r ws) {g' : Nat} (hne : g ≠ g') (i o : Nat) (a x y : Value) : VecAt ((w.setCell ⟨g', i, none⟩ a).setCells g' o [x, y]) g r ws := fun j hj => by
 obtain ⟨h1, h2⟩ := h j hj
 have hb := heap_three w g' i o a x y hne
 exact ⟨by unfold World.cell? at *; rw [hb]; exact h1, by unfold World.frozen? at *; rw [hb]; exact h2⟩
theorem MtAt.apart {T F U : Nat} (h : MtAt w T F U) {g' : Nat} (hne : T ≠ g') (i o : Nat) (a x y : Value) : MtAt ((w.setCell ⟨g', i, none⟩ a).setCells g' o [x, y]) T F U := h.block (heap_three w g' i o a x y hne)
theorem VecOn.shut (q : VecOn h w g b0 k ws W) (hc : checkI h = 0) (ho : opn (vecTo h k).1 k = false) : VecOn h w g b0 (k + 1) ws W := by
 refine ⟨by rw [vecTo_shut ho]; exact q.at_, fun i hi => ?_, q.bel⟩
 have h1 := q.own i hi
 by_cases e : i < k
 ·rw [if_pos e] at h1; rw [if_pos e] at h1; rw [if_pos (show i < k + 1 by omega), if_pos (show i < k + 1 by omega)]; exact h1
 ·rw [if_neg e] at h1; rw [if_neg e] at h1
  by_cases e2 : i = k
  ·subst e2
   have hn := shut_no hc (r := (vecTo h i).1) (l := i) (fun j hj => by rw [vec_row hc, decide_eq_true hj, Bool.true_and]) ho
   obtain ⟨e3, e4⟩ := decW_none h (i : Int) hn
   rw [if_pos (show i < i + 1 by omega), if_pos (show i < i + 1 by omega), e3, e4]; exact h1
  ·rw [if_neg (show ¬ i < k + 1 by omega), if_neg (show ¬ i < k + 1 by omega)]; exact h1
theorem VecOn.more (q : VecOn h w g b0 k ws W) (hk : k < 12) (ho : opn (vecTo h k).1 k = true) (hgb : g < b0) (hgw : w.heap.size ≤ g) {vo vs : Value} (hW : OwnW W b0 vo vs (decW h (k : Int)).1 (decW h (k : Int)).2.1) :
  VecOn h w g b0 (k + 1) (updW ws k (vo, vs)) ((W.setCell ⟨g, k, none⟩ (.bool (decW h (k : Int)).2.2)).setCells g (12 + 2 * k) [vo, vs]) := by
 have hs : ∀ x y : Value, (W.setCells g (12 + 2 * k) [x, y]) = (W.setCell ⟨g, 12 + 2 * k, none⟩ x).setCell ⟨g, 12 + 2 * k + 1, none⟩ y := fun _ _ => rfl
 have ha := (q.at_.setR hk (decW h (k : Int)).2.2).setW hk vo vs
 have hf : ∀ {vo' vs' : Value} {l : List Int} {LL : List (List Int)}, OwnW W b0 vo' vs' l LL → OwnW ((W.setCell ⟨g, k, none⟩ (.bool (decW h (k : Int)).2.2)).setCells g (12 + 2 * k) [vo, vs]) b0 vo' vs' l LL := fun hq =>
  ((hq.far (p := ⟨g, k, none⟩) hgb _).far (p := ⟨g, 12 + 2 * k, none⟩) hgb vo).far (p := ⟨g, 12 + 2 * k + 1, none⟩) hgb vs
 refine ⟨by rw [vecTo_open ho]; exact ha, fun i hi => ?_, ?_⟩
 ·have h1 := q.own i hi
  unfold updW
  by_cases e2 : i = k
  ·subst e2
   rw [if_pos rfl, if_pos (show i < i + 1 by omega), if_pos (show i < i + 1 by omega)]
   exact hf hW
  ·rw [if_neg e2]
   by_cases e : i < k
   ·rw [if_pos e] at h1; rw [if_pos e] at h1; rw [if_pos (show i < k + 1 by omega), if_pos (show i < k + 1 by omega)]; exact hf h1
   ·rw [if_neg e] at h1; rw [if_neg e] at h1; rw [if_neg (show ¬ i < k + 1 by omega), if_neg (show ¬ i < k + 1 by omega)]; exact hf h1
 ·exact ((q.bel.setCell (p := ⟨g, k, none⟩) hgw _).setCell (p := ⟨g, 12 + 2 * k, none⟩) hgw vo).setCell (p := ⟨g, 12 + 2 * k + 1, none⟩) hgw vs
end
theorem vof_any {w0 w : World} {B b : Nat} {h : List TxnV} (much : Int) (F : Nat) (hF : fuelN much = F) (hO : OrdIs w0 B b h) (ht : Tab w0) (hK : Kinds w0) (hc : checkI h = 0) (hb : Below w0.heap.size w0 w) (hM : ∀ l : Nat, l < 12 → (decN h (l : Int)).2.2 + 2 ≤ 1099511627776) :
  Calls Tryz.prog 46 #[.pointer (some ⟨B, 0, none⟩), .int .i64 much] w fun e w' => VofRes h F w e w' := by
 have CN := hid (fun wx => fnew_any much wx)
 rw [hF] at CN
 have hw0 := hb.size
 have HB0 : Hid (∀ wx, Below w.heap.size w wx → Below w0.heap.size w0 wx) := hid (fun wx hx => hb.trans (hx.mono hb.size))
 have CO := hid (fun (r : Nat → Bool) (l : Nat) wx (hl : l ≤ 12) (hx : Below w.heap.size w wx) => vopen_any r l wx hl (hK.below (hb.trans (hx.mono hb.size))))
 have hbd : ∀ j, j ≤ 12 → (vecTo h j).2 ≤ j * 1099511627776 := vec_bound 1099511627776 (fun (l : Nat) hl => by have := hM l hl; omega)
 have CD := hid (fun (l : Nat) (T F : Nat) wx (hl : l < 12) (hx : Below w.heap.size w wx) (hT : w.heap.size ≤ T) hm (hla : Lasts F (vecTo h l).2 (decN h (l : Int)).2.2) => sdecide_own (w := wx) (l : Int) T F (vecTo h l).2 hO ht hK hc (hb.trans (hx.mono hb.size)) (Nat.le_trans hw0 hT) hm (hM l hl) (fun _ => by have h1 := hM l hl; have h2 := hbd l (by omega); have h3 : l * 1099511627776 ≤ 12 * 1099511627776 := Nat.mul_le_mul_right _ (by omega); omega) hla)
 have CZ := hid (fun (l : Nat) (T F : Nat) wx (hl : l < 12) (hx : Below w.heap.size w wx) (hT : w.heap.size ≤ T) hm (hla : ¬ Lasts F (vecTo h l).2 (decN h (l : Int)).2.2) => sdecide_no (w := wx) (l : Int) T F (vecTo h l).2 hO ht hK hc (hb.trans (hx.mono hb.size)) (Nat.le_trans hw0 hT) hm (hM l hl) hla)
 have HC := hid hc
 clear hO ht hK hc hb hM hbd hw0 hF
 go_enter Tryz.func46, Tryz.ntmps46
 go_upto_region 2 with fail
 have V1 := VecAt.zero w
 have V2 := VecAt.zero (w.alloc (.cells #[.bool false, .bool false, .bool false, .bool false, .bool false, .bool false, .bool false, .bool false, .bool false, .bool false, .bool false, .bool false, .slice none 0 0, .slice none 0 0, .slice none 0 0, .slice none 0 0, .slice none 0 0, .slice none 0 0, .slice none 0 0, .slice none 0 0, .slice none 0 0, .slice none 0 0, .slice none 0 0, .slice none 0 0, .slice none 0 0, .slice none 0 0, .slice none 0 0, .slice none 0 0, .slice none 0 0, .slice none 0 0, .slice none 0 0, .slice none 0 0, .slice none 0 0, .slice none 0 0, .slice none 0 0, .slice none 0 0] 44))
 have hs1 : (w.alloc (.cells #[.bool false, .bool false, .bool false, .bool false, .bool false, .bool false, .bool false, .bool false, .bool false, .bool false, .bool false, .bool false, .slice none 0 0, .slice none 0 0, .slice none 0 0, .slice none 0 0, .slice none 0 0, .slice none 0 0, .slice none 0 0, .slice none 0 0, .slice none 0 0, .slice none 0 0, .slice none 0 0, .slice none 0 0, .slice none 0 0, .slice none 0 0, .slice none 0 0, .slice none 0 0, .slice none 0 0, .slice none 0 0, .slice none 0 0, .slice none 0 0, .slice none 0 0, .slice none 0 0, .slice none 0 0, .slice none 0 0] 44)).heap.size = w.heap.size + 1 := by simp
 have hs2 : ((w.alloc (.cells #[.bool false, .bool false, .bool false, .bool false, .bool false, .bool false, .bool false, .bool false, .bool false, .bool false, .bool false, .bool false, .slice none 0 0, .slice none 0 0, .slice none 0 0, .slice none 0 0, .slice none 0 0, .slice none 0 0, .slice none 0 0, .slice none 0 0, .slice none 0 0, .slice none 0 0, .slice none 0 0, .slice none 0 0, .slice none 0 0, .slice none 0 0, .slice none 0 0, .slice none 0 0, .slice none 0 0, .slice none 0 0, .slice none 0 0, .slice none 0 0, .slice none 0 0, .slice none 0 0, .slice none 0 0, .slice none 0 0] 44)).alloc (.cells #[.bool false, .bool false, .bool false, .bool false, .bool false, .bool false, .bool false, .bool false, .bool false, .bool false, .bool false, .bool false, .slice none 0 0, .slice none 0 0, .slice none 0 0, .slice none 0 0, .slice none 0 0, .slice none 0 0, .slice none 0 0, .slice none 0 0, .slice none 0 0, .slice none 0 0, .slice none 0 0, .slice none 0 0, .slice none 0 0, .slice none 0 0, .slice none 0 0, .slice none 0 0, .slice none 0 0, .slice none 0 0, .slice none 0 0, .slice none 0 0, .slice none 0 0, .slice none 0 0, .slice none 0 0, .slice none 0 0] 44)).heap.size = w.heap.size + 1 + 1 := by simp
 rw [hs1] at V2
 have V1 := V1.below (box_below _ (.cells #[.bool false, .bool false, .bool false, .bool false, .bool false, .bool false, .bool false, .bool false, .bool false, .bool false, .bool false, .bool false, .slice none 0 0, .slice none 0 0, .slice none 0 0, .slice none 0 0, .slice none 0 0, .slice none 0 0, .slice none 0 0, .slice none 0 0, .slice none 0 0, .slice none 0 0, .slice none 0 0, .slice none 0 0, .slice none 0 0, .slice none 0 0, .slice none 0 0, .slice none 0 0, .slice none 0 0, .slice none 0 0, .slice none 0 0, .slice none 0 0, .slice none 0 0, .slice none 0 0, .slice none 0 0, .slice none 0 0] 44)) (by rw [hs1]; omega)
 have hb2 : Below w.heap.size w ((w.alloc (.cells #[.bool false, .bool false, .bool false, .bool false, .bool false, .bool false, .bool false, .bool false, .bool false, .bool false, .bool false, .bool false, .slice none 0 0, .slice none 0 0, .slice none 0 0, .slice none 0 0, .slice none 0 0, .slice none 0 0, .slice none 0 0, .slice none 0 0, .slice none 0 0, .slice none 0 0, .slice none 0 0, .slice none 0 0, .slice none 0 0, .slice none 0 0, .slice none 0 0, .slice none 0 0, .slice none 0 0, .slice none 0 0, .slice none 0 0, .slice none 0 0, .slice none 0 0, .slice none 0 0, .slice none 0 0, .slice none 0 0] 44)).alloc (.cells #[.bool false, .bool false, .bool false, .bool false, .bool false, .bool false, .bool false, .bool false, .bool false, .bool false, .bool false, .bool false, .slice none 0 0, .slice none 0 0, .slice none 0 0, .slice none 0 0, .slice none 0 0, .slice none 0 0, .slice none 0 0, .slice none 0 0, .slice none 0 0, .slice none 0 0, .slice none 0 0, .slice none 0 0, .slice none 0 0, .slice none 0 0, .slice none 0 0, .slice none 0 0, .slice none 0 0, .slice none 0 0, .slice none 0 0, .slice none 0 0, .slice none 0 0, .slice none 0 0, .slice none 0 0, .slice none 0 0] 44)) := below_then (box_below w (.cells #[.bool false, .bool false, .bool false, .bool false, .bool false, .bool false, .bool false, .bool false, .bool false, .bool false, .bool false, .bool false, .slice none 0 0, .slice none 0 0, .slice none 0 0, .slice none 0 0, .slice none 0 0, .slice none 0 0, .slice none 0 0, .slice none 0 0, .slice none 0 0, .slice none 0 0, .slice none 0 0, .slice none 0 0, .slice none 0 0, .slice none 0 0, .slice none 0 0, .slice none 0 0, .slice none 0 0, .slice none 0 0, .slice none 0 0, .slice none 0 0, .slice none 0 0, .slice none 0 0, .slice none 0 0, .slice none 0 0] 44)) (box_below _ (.cells #[.bool false, .bool false, .bool false, .bool false, .bool false, .bool false, .bool false, .bool false, .bool false, .bool false, .bool false, .bool false, .slice none 0 0, .slice none 0 0, .slice none 0 0, .slice none 0 0, .slice none 0 0, .slice none 0 0, .slice none 0 0, .slice none 0 0, .slice none 0 0, .slice none 0 0, .slice none 0 0, .slice none 0 0, .slice none 0 0, .slice none 0 0, .slice none 0 0, .slice none 0 0, .slice none 0 0, .slice none 0 0, .slice none 0 0, .slice none 0 0, .slice none 0 0, .slice none 0 0, .slice none 0 0, .slice none 0 0] 44))
 generalize (w.alloc (.cells #[.bool false, .bool false, .bool false, .bool false, .bool false, .bool false, .bool false, .bool false, .bool false, .bool false, .bool false, .bool false, .slice none 0 0, .slice none 0 0, .slice none 0 0, .slice none 0 0, .slice none 0 0, .slice none 0 0, .slice none 0 0, .slice none 0 0, .slice none 0 0, .slice none 0 0, .slice none 0 0, .slice none 0 0, .slice none 0 0, .slice none 0 0, .slice none 0 0, .slice none 0 0, .slice none 0 0, .slice none 0 0, .slice none 0 0, .slice none 0 0, .slice none 0 0, .slice none 0 0, .slice none 0 0, .slice none 0 0] 44)).alloc (.cells #[.bool false, .bool false, .bool false, .bool false, .bool false, .bool false, .bool false, .bool false, .bool false, .bool false, .bool false, .bool false, .slice none 0 0, .slice none 0 0, .slice none 0 0, .slice none 0 0, .slice none 0 0, .slice none 0 0, .slice none 0 0, .slice none 0 0, .slice none 0 0, .slice none 0 0, .slice none 0 0, .slice none 0 0, .slice none 0 0, .slice none 0 0, .slice none 0 0, .slice none 0 0, .slice none 0 0, .slice none 0 0, .slice none 0 0, .slice none 0 0, .slice none 0 0, .slice none 0 0, .slice none 0 0, .slice none 0 0] 44) = w2 at *
 clear hs1
 go_wp2_with fail
 refine (CN.out _).mono ?_
 rintro e w3 ⟨T, rfl, hm, hT, hb3⟩
 have hTl := hm.lt
 have q0 : VecOn h w (w.heap.size + 1) (T + 1) 0 wZ0 w3 := ⟨by rw [vecTo_zero]; exact V2.below hb3 (by omega), fun i _ => by rw [if_neg (by omega), if_neg (by omega)]; exact OwnW.nil _ _, below_then hb2 hb3⟩
 have V1 := V1.below hb3 (by omega)
 clear CN V2 hb2
 go_wp2_with fail
 go_loopw [14] (fun i wr => ∃ k : Nat, k ≤ 12 ∧ i = .int .i64 k ∧ ∃ ws, VecOn h w (w.heap.size + 1) (T + 1) k ws wr ∧ VecAt wr w.heap.size noB wZ0 ∧ MtAt wr T F (vecTo h k).2 ∧ Lasts F 0 (vecTo h k).2) (fun i _ => 12 - (intOf i).toNat)
 case atStart => exact ⟨0, by omega, rfl, wZ0, q0, V1, by rw [vecTo_zero]; exact hm, by
   rw [vecTo_zero]
   by_cases e : F = 4611686018427387904
   ·exact .inl e
   ·exact .inr (by omega)⟩
 case round =>
  obtain ⟨k, hk, rfl, ws, q, v1, hm, hla⟩ := hrel
  have hTl := hm.lt
  have hkq := q.at_.lt
  by_cases hlt : k < 12
  ·have hki : (k : Int) < 12 := by omega
   have hrow := q.at_.row
   have CO1 := hid (CO.out (vecTo h k).1 k wr (by omega) q.bel)
   cases ho : opn (vecTo h k).1 k with
   | false =>
    rw [ho] at CO1
    have HS := hid (q.shut HC.out ho)
    have HM : Hid (MtAt wr T F (vecTo h (k + 1)).2 ∧ Lasts F 0 (vecTo h (k + 1)).2) := hid (by rw [vecTo_shut ho]; exact ⟨hm, hla⟩)
    clear q hm hla ho CO CD CZ HC
    go_wp2_with (with_reducible refine wpList_load_mid rfl 38 _ rfl (w.heap.size + 1) 0 rfl (rowB (vecTo h k).1).toList _ hrow Tryz.underlying38 rfl (by kernel_rfl) ?_)
    refine CO1.out.mono ?_
    rintro e w4 ⟨rfl, h4⟩
    have HS4 := hid (HS.out.below h4)
    have HM4 := hid (HM.out.1.below h4 hTl)
    have v4 := v1.below h4 v1.lt
    have HLA := hid HM.out.2
    clear HS HM h4 v1 hrow CO1
    go_wp2_with fail
    go_roundw
    case rel => exact ⟨k + 1, by omega, by go_num, ws, HS4.out, v4, HM4.out, HLA.out⟩
    case measure => simp [intOf]; omega
   | true =>
    rw [ho] at CO1
    have HO := hid ho
    have Q := hid q
    have HM := hid hm
    have HLA := hid hla
    have HTT : Hid (w.heap.size ≤ T ∧ T ≠ w.heap.size + 1 ∧ T ≠ w.heap.size) := hid ⟨by omega, by omega, by omega⟩
    clear q hm hla ho
    go_wp2_with (with_reducible refine wpList_load_mid rfl 38 _ rfl (w.heap.size + 1) 0 rfl (rowB (vecTo h k).1).toList _ hrow Tryz.underlying38 rfl (by kernel_rfl) ?_)
    refine CO1.out.mono ?_
    rintro e w4 ⟨rfl, h4⟩
    have q4 := Q.out.below h4
    have hm4 := HM.out.below h4 hTl
    have v4 := v1.below h4 v1.lt
    clear hrow CO1 Q HM v1
    by_cases hl2 : Lasts F (vecTo h k).2 (decN h (k : Int)).2.2
    ·have CD1 := hid (CD.out k T F w4 hlt q4.bel HTT.out.1 hm4 hl2)
     have HL2 : Hid (Lasts F 0 (vecTo h (k + 1)).2) := hid (by
      rw [vecTo_open HO.out]
      rcases hl2 with e | e
      ·exact .inl e
      ·exact .inr (by show 0 + (_ + _) ≤ F; omega))
     have Q := hid q4
     have HT4 := hm4.lt
     clear q4 hm4 hl2 CO CD CZ HLA h4
     go_wp2_with fail
     refine CD1.out.mono ?_
     rintro e w5 ⟨vo, vs, rfl, hW, hm5, hg5⟩
     obtain ⟨oo, no, oc, so, ns, sc, rfl, rfl⟩ := hW.form
     have q5 := Q.out.grown hg5 (by omega) (by have := HTT.out.2.1; omega) HTT.out.1
     have v5 := v4.grown hg5 (fun e => by have := HTT.out.2.2; injection e; omega)
     have hW := hW.base (show T + 1 ≤ w4.heap.size by omega)
     have hbx := box_below w5 (.cells #[.slice oo no oc, .slice so ns sc] 41)
     have WT := WitT.made w5 (.slice oo no oc) (.slice so ns sc) 41
     have q6 := q5.below hbx
     have v6 := v5.below hbx v5.lt
     have hW := hW.below hbx
     have hm6 := hm5.below hbx hm5.lt
     have hs6 : (w5.alloc (.cells #[.slice oo no oc, .slice so ns sc] 41)).heap.size = w5.heap.size + 1 := by simp
     have hq5 := q5.at_.lt
     have hM6 : MtAt (w5.alloc (.cells #[.slice oo no oc, .slice so ns sc] 41)) T F (vecTo h (k + 1)).2 := by rw [vecTo_open HO.out]; exact hm6
     clear CD1 Q v4 hg5 hbx hm5 q5 v5 hm6
     go_upto_region 10 with fail
     generalize w5.alloc (.cells #[.slice oo no oc, .slice so ns sc] 41) = w6 at *
     generalize w5.heap.size = x5 at *
     have kd := (Below.refl w6.heap.size w6).drew
     have WT := WT.below kd
     have q7 := q6.below kd
     have v7 := v6.below kd v6.lt
     have hM7 := hM6.below kd hM6.lt
     have hW := hW.below kd
     have HQ := hid (q7.more hlt HO.out (by omega) (by omega) hW)
     have HV : Hid (VecAt w6.drew (w.heap.size + 1) (vecTo h k).1 ws) := hid q7.at_
     have HV7 := hid v7
     have HM7 := hid hM7
     have hd0 : decide ((k : Int) < 0) = false := decide_eq_false (by omega)
     have hd1 : decide ((12 : Int) ≤ (k : Int)) = false := decide_eq_false (by omega)
     have hd2 : decide (12 ≤ k) = false := decide_eq_false (by omega)
     clear hW q6 q7 v6 v7 hM6 hM7 kd
     refine wp_region_held_drew (S := fun wx => wx.cell? ⟨x5, 0, none⟩ = some (.slice oo no oc) ∧ wx.cell? ⟨x5, 1, none⟩ = some (.slice so ns sc)) (by kernel_rfl) ⟨WT.c0, WT.c1⟩ (fun hS0 => ?_)
     generalize w6.drew = wd at *
     refine tG (some 34) 0 ?vtv0x1 rfl rfl (Or.inl ⟨by rfl, ?htv0x1⟩) hS0 ?rtv0x1
     case htv0x1 => (intro w hw; obtain ⟨m0, m1⟩ := hw; go_simp; try (with_reducible rfl))
     try simp only [Act.put, zA, zB, zC]
     refine tG (some 35) 1 ?vtv1x2 rfl rfl (Or.inl ⟨by rfl, ?htv1x2⟩) hS0 ?rtv1x2
     case htv1x2 => (intro w hw; obtain ⟨m0, m1⟩ := hw; go_simp; try (with_reducible rfl))
     try simp only [Act.put, zA, zB, zC]
     refine tG (some 36) 2 ?vtv2x3 rfl rfl (Or.inl ⟨by rfl, ?htv2x3⟩) hS0 ?rtv2x3
     case htv2x3 => (intro w hw; obtain ⟨m0, m1⟩ := hw; go_simp; try (with_reducible rfl))
     try simp only [Act.put, zA, zB, zC]
     refine tG (some 37) 3 ?vtv3x4 rfl rfl (Or.inl ⟨by rfl, ?htv3x4⟩) hS0 ?rtv3x4
     case htv3x4 => (intro w hw; obtain ⟨m0, m1⟩ := hw; go_simp; try (with_reducible rfl))
     try simp only [Act.put, zA, zB, zC]
     refine tG (some 38) 4 ?vtv4x5 rfl rfl (Or.inl ⟨by rfl, ?htv4x5⟩) hS0 ?rtv4x5
     case htv4x5 => (intro w hw; obtain ⟨m0, m1⟩ := hw; go_simp; try (with_reducible rfl))
     try simp only [Act.put, zA, zB, zC]
     refine tG (some 39) 5 ?vtv5x6 rfl rfl (Or.inl ⟨by rfl, ?htv5x6⟩) hS0 ?rtv5x6
     case htv5x6 => (intro w hw; obtain ⟨m0, m1⟩ := hw; go_simp; try (with_reducible rfl))
     try simp only [Act.put, zA, zB, zC]
     refine tG (some 40) 7 ?vtv7x7 rfl rfl (Or.inl ⟨by rfl, ?htv7x7⟩) hS0 ?rtv7x7
     case htv7x7 => (intro w hw; obtain ⟨m0, m1⟩ := hw; go_simp; try (with_reducible rfl))
     try simp only [Act.put, zA, zB, zC]
     refine rD 6 rfl (fun K hK => ?_)
     have hc0 := (HV.out k (by omega)).1
     have hf0 := (HV.out k (by omega)).2
     go_simp
     have sA : (wd.setCell ⟨w.heap.size + 1, k, none⟩ (.bool (decW h (k : Int)).2.2)).cell? ⟨x5, 0, none⟩ = some (.slice oo no oc) ∧ (wd.setCell ⟨w.heap.size + 1, k, none⟩ (.bool (decW h (k : Int)).2.2)).cell? ⟨x5, 1, none⟩ = some (.slice so ns sc) := ⟨by rw [World.cell?_setCell_other _ _ _ _ (fun e => by injection e; omega)]; exact hS0.1, by rw [World.cell?_setCell_other _ _ _ _ (fun e => by injection e; omega)]; exact hS0.2⟩
     refine hK.out _ _ sA (fun _ => ?_)
     clear hK K hc0 hf0
     refine tG (some 41) 8 ?vtv8x9 rfl rfl (Or.inl ⟨by rfl, ?htv8x9⟩) sA ?rtv8x9
     case htv8x9 => (intro w hw; obtain ⟨m0, m1⟩ := hw; go_simp; try (with_reducible rfl))
     try simp only [Act.put, zA, zB, zC]
     refine rD 9 rfl (fun K hK => ?_)
     have hth : (wd.setCell ⟨w.heap.size + 1, k, none⟩ (.bool (decW h (k : Int)).2.2)).there (w.heap.size + 1) (12 + k * 2) 2 := fun j hj => by
      obtain ⟨q1, q2⟩ := (HV.out.setR hlt (decW h (k : Int)).2.2) (12 + k * 2 + j) (by omega)
      exact ⟨by rw [q1]; rfl, q2⟩
     refine wp_store_mid 41 _ _ rfl (w.heap.size + 1) (12 + k * 2) #[.slice oo no oc, .slice so ns sc] rfl rfl hth (by kernel_rfl) (by simp [Value.oneCell']) ?_
     have sB : ((wd.setCell ⟨w.heap.size + 1, k, none⟩ (.bool (decW h (k : Int)).2.2)).setCells (w.heap.size + 1) (12 + k * 2) [.slice oo no oc, .slice so ns sc]).cell? ⟨x5, 0, none⟩ = some (.slice oo no oc) ∧ ((wd.setCell ⟨w.heap.size + 1, k, none⟩ (.bool (decW h (k : Int)).2.2)).setCells (w.heap.size + 1) (12 + k * 2) [.slice oo no oc, .slice so ns sc]).cell? ⟨x5, 1, none⟩ = some (.slice so ns sc) := ⟨(World.cell?_setCells_out _ _ _ _ _ (fun hb _ => absurd hb (by show ¬ x5 = w.heap.size + 1; omega))).trans sA.1, (World.cell?_setCells_out _ _ _ _ _ (fun hb _ => absurd hb (by show ¬ x5 = w.heap.size + 1; omega))).trans sA.2⟩
     refine hK.out _ _ sB (fun _ => ?_)
     clear hK K hth
     refine wpAnyH_done (by kernel_rfl) ?_ _
     have h12 : 12 + k * 2 = 12 + 2 * k := by omega
     have HR : Hid (VecAt ((wd.setCell ⟨w.heap.size + 1, k, none⟩ (.bool (decW h (k : Int)).2.2)).setCells (w.heap.size + 1) (12 + k * 2) [.slice oo no oc, .slice so ns sc]) w.heap.size noB wZ0 ∧ MtAt ((wd.setCell ⟨w.heap.size + 1, k, none⟩ (.bool (decW h (k : Int)).2.2)).setCells (w.heap.size + 1) (12 + k * 2) [.slice oo no oc, .slice so ns sc]) T F (vecTo h (k + 1)).2) := hid ⟨HV7.out.apart (by omega) _ _ _ _ _, HM7.out.apart (by have := HTT.out.2.1; omega) _ _ _ _ _⟩
     rw [← h12] at HQ
     generalize (wd.setCell ⟨w.heap.size + 1, k, none⟩ (.bool (decW h (k : Int)).2.2)).setCells (w.heap.size + 1) (12 + k * 2) [.slice oo no oc, .slice so ns sc] = w8 at *
     go_wp2_with fail
     go_roundw
     case rel => exact ⟨k + 1, by omega, by go_num, _, HQ.out, HR.out.1, HR.out.2, HL2.out⟩
     case measure => simp [intOf]; omega
    ·have CZ1 := hid (CZ.out k T F w4 hlt q4.bel HTT.out.1 hm4 hl2)
     have HL2 : Hid (¬ Lasts F 0 (vecTo h 12).2) := hid (fun e => by
      have h1 := vecTo_cost h (i := k + 1) (j := 12) (by omega)
      rw [vecTo_open HO.out] at h1
      have h1 : (vecTo h k).2 + (decN h (k : Int)).2.2 ≤ (vecTo h 12).2 := h1
      rcases e with e | e
      ·exact hl2 (.inl e)
      ·exact hl2 (.inr (by omega)))
     have Q := hid q4
     clear q4 hm4 hl2 CO CD CZ HLA h4
     go_wp2_with fail
     refine CZ1.out.mono ?_
     rintro e w5 ⟨rfl, hm5, hg5, _⟩
     have q5 := Q.out.grown hg5 (by omega) (by have := HTT.out.2.1; omega) HTT.out.1
     have v5 := v4.grown hg5 (fun e => by have := HTT.out.2.2; injection e; omega)
     have hbx := box_below w5 (.cells #[.slice none 0 0, .slice none 0 0] 41)
     have HQB := hid (below_then q5.bel hbx)
     have v6 := v5.below hbx v5.lt
     clear CZ1 Q v4 hg5 hbx hm5 q5 v5
     go_upto_region 9 with fail
     generalize w5.alloc (.cells #[.slice none 0 0, .slice none 0 0] 41) = w6 at *
     have hth : w6.there w.heap.size 0 (#[.bool false, .bool false, .bool false, .bool false, .bool false, .bool false, .bool false, .bool false, .bool false, .bool false, .bool false, .bool false, .slice none 0 0, .slice none 0 0, .slice none 0 0, .slice none 0 0, .slice none 0 0, .slice none 0 0, .slice none 0 0, .slice none 0 0, .slice none 0 0, .slice none 0 0, .slice none 0 0, .slice none 0 0, .slice none 0 0, .slice none 0 0, .slice none 0 0, .slice none 0 0, .slice none 0 0, .slice none 0 0, .slice none 0 0, .slice none 0 0, .slice none 0 0, .slice none 0 0, .slice none 0 0, .slice none 0 0] : Array Value).size := v6.there (n := 36) (by omega)
     have hzl : vecL noB wZ0 = [.bool false, .bool false, .bool false, .bool false, .bool false, .bool false, .bool false, .bool false, .bool false, .bool false, .bool false, .bool false, .slice none 0 0, .slice none 0 0, .slice none 0 0, .slice none 0 0, .slice none 0 0, .slice none 0 0, .slice none 0 0, .slice none 0 0, .slice none 0 0, .slice none 0 0, .slice none 0 0, .slice none 0 0, .slice none 0 0, .slice none 0 0, .slice none 0 0, .slice none 0 0, .slice none 0 0, .slice none 0 0, .slice none 0 0, .slice none 0 0, .slice none 0 0, .slice none 0 0, .slice none 0 0, .slice none 0 0] := by kernel_rfl
     have HV9 := v6.put noB wZ0
     have HB9 : Below w.heap.size w (w6.setCells w.heap.size 0 (vecL noB wZ0)) := below_putC (Nat.le_refl _) _ _ _ HQB.out
     rw [hzl] at HV9 HB9
     have HV9 := hid HV9
     have HB9 := hid HB9
     have hone : (#[.bool false, .bool false, .bool false, .bool false, .bool false, .bool false, .bool false, .bool false, .bool false, .bool false, .bool false, .bool false, .slice none 0 0, .slice none 0 0, .slice none 0 0, .slice none 0 0, .slice none 0 0, .slice none 0 0, .slice none 0 0, .slice none 0 0, .slice none 0 0, .slice none 0 0, .slice none 0 0, .slice none 0 0, .slice none 0 0, .slice none 0 0, .slice none 0 0, .slice none 0 0, .slice none 0 0, .slice none 0 0, .slice none 0 0, .slice none 0 0, .slice none 0 0, .slice none 0 0, .slice none 0 0, .slice none 0 0] : Array Value).all (·.oneCell') = true := by simp [Value.oneCell']
     clear v6 hzl
     go_wp2_with (with_reducible refine wpList_store_mid rfl 44 _ _ rfl w.heap.size 0 #[.bool false, .bool false, .bool false, .bool false, .bool false, .bool false, .bool false, .bool false, .bool false, .bool false, .bool false, .bool false, .slice none 0 0, .slice none 0 0, .slice none 0 0, .slice none 0 0, .slice none 0 0, .slice none 0 0, .slice none 0 0, .slice none 0 0, .slice none 0 0, .slice none 0 0, .slice none 0 0, .slice none 0 0, .slice none 0 0, .slice none 0 0, .slice none 0 0, .slice none 0 0, .slice none 0 0, .slice none 0 0, .slice none 0 0, .slice none 0 0, .slice none 0 0, .slice none 0 0, .slice none 0 0, .slice none 0 0] rfl rfl hth (by kernel_rfl) hone ?_)
     exact bodyPost_ret (results_vec rfl _ _ _ noB wZ0 rfl HV9.out) rfl ⟨HB9.out, .inr ⟨HL2.out, rfl⟩⟩
  ·obtain rfl : k = 12 := by omega
   have hki : ¬ ((12 : Nat) : Int) < 12 := by omega
   have hall := q.at_.all
   have hth : wr.there w.heap.size 0 36 := v1.there (by omega)
   have HV9 := hid (v1.put (vecTo h 12).1 ws)
   have HB9 : Hid (Below w.heap.size w (wr.setCells w.heap.size 0 (vecL (vecTo h 12).1 ws))) := hid (below_putC (Nat.le_refl _) _ _ _ q.bel)
   have HO9 : Hid (∀ i, i < 12 → OwnW (wr.setCells w.heap.size 0 (vecL (vecTo h 12).1 ws)) w.heap.size (ws i).1 (ws i).2 (decW h (i : Int)).1 (decW h (i : Int)).2.1) := hid (fun i hi => by
    have h1 := q.own i hi
    rw [if_pos hi] at h1; rw [if_pos hi] at h1
    exact (h1.cells (g := w.heap.size) (by omega) 0 _).base (by omega))
   have HE9 : Hid (vecL (accV h) ws = vecL (vecTo h 12).1 ws) := hid (vecL_congr fun i hi => by rw [vec_row HC.out, decide_eq_true hi, Bool.true_and]; rfl)
   have hone : (vecL (vecTo h 12).1 ws).toArray.all (·.oneCell') = true := vecL_one fun i hi => by obtain ⟨_, _, _, _, _, _, e1, e2⟩ := (q.own i hi).form; rw [e1, e2]; exact ⟨rfl, rfl⟩
   have hth2 : wr.there w.heap.size 0 (vecL (vecTo h 12).1 ws).toArray.size := by rw [show (vecL (vecTo h 12).1 ws).toArray.size = 36 from vecL_len _ _]; exact hth
   have hinf : (Tryz.prog.info? 44).map (·.size) = some (vecL (vecTo h 12).1 ws).toArray.size := by rw [show (vecL (vecTo h 12).1 ws).toArray.size = 36 from vecL_len _ _]; kernel_rfl
   have hinf2 : (Tryz.prog.info? 44).map (·.size) = some (vecL (vecTo h 12).1 ws).length := by rw [vecL_len]; kernel_rfl
   go_wp2_with (first
    | (with_reducible refine wpList_load_mid rfl 44 _ rfl (w.heap.size + 1) 0 rfl (vecL (vecTo h 12).1 ws) _ hall Tryz.underlying44 rfl hinf2 ?_)
    | (with_reducible refine wpList_store_mid rfl 44 _ _ rfl w.heap.size 0 (vecL (vecTo h 12).1 ws).toArray rfl rfl hth2 hinf hone ?_))
   refine bodyPost_ret (results_vec rfl _ _ _ (vecTo h 12).1 ws rfl HV9.out) rfl ⟨HB9.out, .inl ⟨hla, ws, ?_, HO9.out⟩⟩
   rw [HE9.out]; rfl
end

section
open Go.RowKit
theorem guard_rowB (o : BinOp) (x y : Operand) (r s : Nat → Bool) (w : World) : Sem.run Tryz.prog (eqGuard o 38 x y (.agg (rowB r)) (.agg (rowB s))) w = .ok () w :=
 run_eqGuard_agg w o 38 x y _ _ (by kernel_rfl)
end

section
open Go.RowKit
def eqlB (r s : Nat → Bool) : Bool := (List.range 12).all fun i => r i == s i
theorem eqlB_one {r s : Nat → Bool} (h : ∀ i, i < 12 → r i = s i) : eqlB r s = true := by
 unfold eqlB
 rw [List.all_eq_true]
 intro i hi
 rw [h i (List.mem_range.1 hi)]; simp
theorem items_rowB2 (r s : Nat → Bool) (w : World) : ∀ (is : List Nat), (∀ i ∈ is, i < 12) → (Op.eqItems 9999 4 1 (rowB r) (rowB s) is).run Tryz.prog w = .ok (is.all fun i => r i == s i) w
 | [], _ => by simp [Op.eqItems]
 | i :: is, h => by
  have hi := h i List.mem_cons_self
  have h1 := rowB_at r hi
  have h2 := rowB_at s hi
  have ih := items_rowB2 r s w is (fun j hj => h j (List.mem_cons_of_mem _ hj))
  have hp : (part 4 (rowB r) (i * 1)).run Tryz.prog w = .ok (.bool (r i)) w := by
   simp [part, isAgg, Sem.run_bind, run_underlying Tryz.underlying4 w, h1]
  have hq : (part 4 (rowB s) (i * 1)).run Tryz.prog w = .ok (.bool (s i)) w := by
   simp [part, isAgg, Sem.run_bind, run_underlying Tryz.underlying4 w, h2]
  have he : (Op.equalIn (9998 + 1) 4 (.bool (r i)) (.bool (s i))).run Tryz.prog w = .ok (r i == s i) w := by
   rw [run_equalIn_bool w 9998 4 _ _ Tryz.underlying4]
  simp only [Op.eqItems, Sem.run_bind, hp, hq, Result.andThen_ok, List.all_cons]
  rw [he]
  cases hrs : (r i == s i) with
  | true =>
   simp only [Result.andThen_ok, Bool.not_true, Bool.false_eq_true, if_false, Bool.true_and]
   exact ih
  | false => simp
theorem run_eql_rowB2 (r s : Nat → Bool) (w : World) : (binOp .eql 38 (.agg (rowB r)) (.agg (rowB s))).run Tryz.prog w = .ok (.bool (eqlB r s)) w := by
 obtain ⟨i, hi, _⟩ := Option.map_eq_some_iff.1 infoBool
 have hc : Tryz.prog.cellsOf 4 = 1 := by kernel_rfl
 rw [run_eql_struct, run_equalIn_array w 9999 (rowB r) (rowB s) Tryz.underlying38 hi, hc, items_rowB2 r s w _ (fun i hi => List.mem_range.1 hi)]
 rfl
theorem wpList_load_midG {P : Program} {ops : Array Oper} {rest : List Oper} {op : Oper} {a : Act} {w : World} {Q : Exit → Act → World → Prop} (ty : TypeId) (x : Operand) (ho : op.op = .load ty x) (hw : Region.wanted op (yielded ops a.tmps) = true)
  (b o : Nat) (hx : a.eval x = .pointer (some ⟨b, o, none⟩)) (cs : List Value) (d : TypeDesc) (hc : w.rangeAt b o cs)
  (hu : P.underlying ty = some d) (hd : d.isRow = true) (hi : (P.info? ty).map (·.size) = some cs.length)
  (h : wpList P ops Q rest (a.put op.dst (.agg cs.toArray)) w) : wpList P ops Q (op :: rest) a w :=
 wpList_step fun K hK => by rw [if_pos hw]; exact wp_load_mid ty x ho b o hx cs d hc hu hd hi (hK _ _ h)
theorem VecAt.boxed (w : World) (r : Nat → Bool) (ws : Nat → Value × Value) : VecAt (w.alloc (.cells (vecL r ws).toArray 44)) w.heap.size r ws := VecAt.made w _ r ws
theorem vsame_any (r s : Nat → Bool) (ws us : Nat → Value × Value) (w : World) :
  Calls Tryz.prog 16 #[.agg (vecL r ws).toArray, .agg (vecL s us).toArray] w fun e w' => e = .returned (.bool (eqlB r s)) ∧ Below w.heap.size w w' := by
 have v1 := VecAt.boxed w r ws
 have b1 := box_below w (.cells (vecL r ws).toArray 44)
 have v2 := VecAt.boxed (w.alloc (.cells (vecL r ws).toArray 44)) s us
 have b2 := box_below (w.alloc (.cells (vecL r ws).toArray 44)) (.cells (vecL s us).toArray 44)
 have hs : (w.alloc (.cells (vecL r ws).toArray 44)).heap.size = w.heap.size + 1 := by simp
 have v1 := v1.below b2 (by rw [hs]; omega)
 rw [hs] at v2
 have hb := below_then b1 b2
 have G0 := fun (x y : Operand) (w : World) => guard_rowB .eql x y r s w
 have E0 := fun (w : World) => run_eql_rowB2 r s w
 have r1 := v1.row
 have r2 := v2.row
 clear b1 b2 hs v1 v2
 go_enter Tryz.func16, Tryz.ntmps16
 go_upto_region 1 with fail
 generalize (w.alloc (.cells (vecL r ws).toArray 44)).alloc (.cells (vecL s us).toArray 44) = w2 at *
 go_wp2_with (first
  | (with_reducible refine wpList_load_mid rfl 38 _ rfl w.heap.size 0 rfl (rowB r).toList _ r1 Tryz.underlying38 rfl (by kernel_rfl) ?_)
  | (with_reducible refine wpList_load_mid rfl 38 _ rfl (w.heap.size + 1) 0 rfl (rowB s).toList _ r2 Tryz.underlying38 rfl (by kernel_rfl) ?_))
 go_ret
 exact ⟨rfl, hb⟩
end

section
open Go.RowKit
section
variable {h : List TxnV}
end
theorem fuel_most : fuelN 4611686018427387904 = 4611686018427387904 := by decide +kernel
theorem info_vec (r : Nat → Bool) (ws : Nat → Value × Value) : (Tryz.prog.info? 44).map (·.size) = some (vecL r ws).length := by rw [vecL_len]; kernel_rfl
theorem info_vecA (r : Nat → Bool) (ws : Nat → Value × Value) : (Tryz.prog.info? 44).map (·.size) = some (vecL r ws).toArray.size := by rw [show (vecL r ws).toArray.size = 36 from vecL_len _ _]; kernel_rfl
theorem results_vec3 {fn : Func} {p u v : Tmp} (h : fn.results = #[.tmp u, .cell p 44, .tmp v]) (tmps : Array Value) (w : World) (g : Nat) (r : Nat → Bool) (ws : Nat → Value × Value)
  (hp : tmps.getD p undef = .pointer (some ⟨g, 0, none⟩)) (hg : VecAt w g r ws) : (results fn tmps).run Tryz.prog w = .ok (.tuple #[tmps.getD u undef, .agg (vecL r ws).toArray, tmps.getD v undef]) w := by
 have hp' : tmps[p]?.getD undef = .pointer (some ⟨g, 0, none⟩) := by simpa using hp
 simp [results, h, hp', asAddr, run_loadVar_mid w g 0 44 (vecL r ws) _ hg.all Tryz.underlying44 rfl (info_vec r ws)]
theorem vec_put (w : World) (r : Nat → Bool) (ws : Nat → Value × Value) : VecAt ((w.alloc (.cells #[.bool false, .bool false, .bool false, .bool false, .bool false, .bool false, .bool false, .bool false, .bool false, .bool false, .bool false, .bool false, .slice none 0 0, .slice none 0 0, .slice none 0 0, .slice none 0 0, .slice none 0 0, .slice none 0 0, .slice none 0 0, .slice none 0 0, .slice none 0 0, .slice none 0 0, .slice none 0 0, .slice none 0 0, .slice none 0 0, .slice none 0 0, .slice none 0 0, .slice none 0 0, .slice none 0 0, .slice none 0 0, .slice none 0 0, .slice none 0 0, .slice none 0 0, .slice none 0 0, .slice none 0 0, .slice none 0 0] 44)).setCells w.heap.size 0 (vecL r ws)) w.heap.size r ws ∧ Below w.heap.size w ((w.alloc (.cells #[.bool false, .bool false, .bool false, .bool false, .bool false, .bool false, .bool false, .bool false, .bool false, .bool false, .bool false, .bool false, .slice none 0 0, .slice none 0 0, .slice none 0 0, .slice none 0 0, .slice none 0 0, .slice none 0 0, .slice none 0 0, .slice none 0 0, .slice none 0 0, .slice none 0 0, .slice none 0 0, .slice none 0 0, .slice none 0 0, .slice none 0 0, .slice none 0 0, .slice none 0 0, .slice none 0 0, .slice none 0 0, .slice none 0 0, .slice none 0 0, .slice none 0 0, .slice none 0 0, .slice none 0 0, .slice none 0 0] 44)).setCells w.heap.size 0 (vecL r ws)) ∧ (w.alloc (.cells #[.bool false, .bool false, .bool false, .bool false, .bool false, .bool false, .bool false, .bool false, .bool false, .bool false, .bool false, .bool false, .slice none 0 0, .slice none 0 0, .slice none 0 0, .slice none 0 0, .slice none 0 0, .slice none 0 0, .slice none 0 0, .slice none 0 0, .slice none 0 0, .slice none 0 0, .slice none 0 0, .slice none 0 0, .slice none 0 0, .slice none 0 0, .slice none 0 0, .slice none 0 0, .slice none 0 0, .slice none 0 0, .slice none 0 0, .slice none 0 0, .slice none 0 0, .slice none 0 0, .slice none 0 0, .slice none 0 0] 44)).there w.heap.size 0 (vecL r ws).toArray.size :=
 ⟨(VecAt.zero w).put r ws, below_putC (Nat.le_refl _) _ _ _ (box_below w _), by rw [show (vecL r ws).toArray.size = 36 from vecL_len _ _]; exact (VecAt.zero w).there (by omega)⟩
def WitsIn (h : List TxnV) (ws : Nat → Value × Value) (b0 : Nat) (w : World) : Prop := ∀ i, i < 12 → OwnW w b0 (ws i).1 (ws i).2 (decW h (i : Int)).1 (decW h (i : Int)).2.1
section
variable {h : List TxnV} {ws : Nat → Value × Value} {b0 : Nat} {w w' : World}
theorem WitsIn.below (q : WitsIn h ws b0 w) (hb : Below w.heap.size w w') : WitsIn h ws b0 w' := fun i hi => (q i hi).below hb
theorem WitsIn.cells (q : WitsIn h ws b0 w) {g : Nat} (hg : g < b0) (o : Nat) (vs : List Value) : WitsIn h ws b0 (w.setCells g o vs) := fun i hi => (q i hi).cells hg o vs
theorem WitsIn.base (q : WitsIn h ws b0 w) {b1 : Nat} (hb : b1 ≤ b0) : WitsIn h ws b1 w := fun i hi => (q i hi).base hb
theorem WitsIn.one (q : WitsIn h ws b0 w) (r : Nat → Bool) : (vecL r ws).toArray.all (·.oneCell') = true := vecL_one fun i hi => by
 obtain ⟨_, _, _, _, _, _, e1, e2⟩ := (q i hi).form
 rw [e1, e2]; exact ⟨rfl, rfl⟩
end
theorem map_cells {α : Type} {e : α → Value} {P : Program} {k : TypeId} {w : World} {b n : Nat} {f : Int → Option α} {c g : Nat} (h : MapI e P k w b n f c) {v : Value} (hc : w.cell? ⟨g, 0, none⟩ = some v) : b ≠ g := by
 rintro rfl
 obtain ⟨D, ⟨es, clock, hh, _⟩, _⟩ := h
 unfold World.cell? at hc
 simp [hh] at hc
theorem OrdIs.apart {w : World} {B b : Nat} {h : List TxnV} (hO : OrdIs w B b h) {g : Nat} (hg : g < B) (hgb : g < b) {v : Value} (hc : w.cell? ⟨g, 0, none⟩ = some v) (o : Nat) (vs : List Value) : OrdIs (w.setCells g o vs) B b h := by
 obtain ⟨bm, m, c, vk, vr, K, R, h1, h2, h3, h4, h5, h6⟩ := hO
 refine ⟨bm, m, c, vk, vr, K, R, fun i hi => ?_, MapI.cells (map_cells h2 hc) vs o w h2, h3, h4.cells hgb o vs, h5, h6⟩
 rw [World.frozen?_setCells, cell_put (p := ⟨B, i, none⟩) (by show B ≠ g; omega)]
 exact h1 i hi
theorem vof_ok {w0 w : World} {B b : Nat} {h : List TxnV} (much : Int) (F : Nat) (hF : fuelN much = F) (hO : OrdIs w0 B b h) (ht : Tab w0) (hK : Kinds w0) (hc : checkI h = 0) (hb : Below w0.heap.size w0 w) (hM : ∀ l : Nat, l < 12 → (decN h (l : Int)).2.2 + 2 ≤ 1099511627776) (hl : Lasts F 0 (vecTo h 12).2) :
  Calls Tryz.prog 46 #[.pointer (some ⟨B, 0, none⟩), .int .i64 much] w fun e w' => (∃ ws, e = .returned (.tuple #[.agg (vecL (accV h) ws).toArray, .int .i64 0]) ∧ WitsIn h ws w.heap.size w') ∧ Below w.heap.size w w' := by
 refine (vof_any much F hF hO ht hK hc hb hM).mono ?_
 rintro e w' ⟨hb', ⟨_, ws, rfl, hw⟩ | ⟨hn, _⟩⟩
 ·exact ⟨⟨ws, rfl, hw⟩, hb'⟩
 ·exact (hn hl).elim
theorem vec_few {h : List TxnV} (hn : h.length ≤ 7) : ∀ l : Nat, l < 12 → (decN h (l : Int)).2.2 + 2 ≤ 1099511627776 := fun l _ => by
 have h1 := dec_tries h (l : Int)
 have h2 := tr_le h.length hn
 omega
theorem lawof_any (va : Value) (h : List TxnV) (w : World) (hT : Txns w va h) (hok : ∀ t ∈ h, t.ok) (hsh : Short h) (hc : checkI h = 0) (ht : Tab w) (hK : Kinds w) (hM : ∀ l : Nat, l < 12 → (decN h (l : Int)).2.2 + 2 ≤ 1099511627776) :
  Calls Tryz.prog 15 #[va] w fun e w' => (∃ B ws, e = .returned (.tuple #[.pointer (some ⟨B, 0, none⟩), .agg (vecL (accV h) ws).toArray, .bool true]) ∧ OrdIs w' B (B + 2) h ∧ WitsIn h ws w.heap.size w') ∧ Below w.heap.size w w' := by
 have hg := ht.pos
 have V3 := VecAt.zero w
 have hb1 := box_below w (.cells #[.bool false, .bool false, .bool false, .bool false, .bool false, .bool false, .bool false, .bool false, .bool false, .bool false, .bool false, .bool false, .slice none 0 0, .slice none 0 0, .slice none 0 0, .slice none 0 0, .slice none 0 0, .slice none 0 0, .slice none 0 0, .slice none 0 0, .slice none 0 0, .slice none 0 0, .slice none 0 0, .slice none 0 0, .slice none 0 0, .slice none 0 0, .slice none 0 0, .slice none 0 0, .slice none 0 0, .slice none 0 0, .slice none 0 0, .slice none 0 0, .slice none 0 0, .slice none 0 0, .slice none 0 0, .slice none 0 0] 44)
 have CO := hid (of_done va h _ (hT.below hb1) hok hsh hc)
 have HT : Hid (∀ wx, Below w.heap.size w wx → Tab wx ∧ Kinds wx) := hid (fun wx hb => ⟨ht.below hb hg, hK.below hb⟩)
 have hs1 : (w.alloc (.cells #[.bool false, .bool false, .bool false, .bool false, .bool false, .bool false, .bool false, .bool false, .bool false, .bool false, .bool false, .bool false, .slice none 0 0, .slice none 0 0, .slice none 0 0, .slice none 0 0, .slice none 0 0, .slice none 0 0, .slice none 0 0, .slice none 0 0, .slice none 0 0, .slice none 0 0, .slice none 0 0, .slice none 0 0, .slice none 0 0, .slice none 0 0, .slice none 0 0, .slice none 0 0, .slice none 0 0, .slice none 0 0, .slice none 0 0, .slice none 0 0, .slice none 0 0, .slice none 0 0, .slice none 0 0, .slice none 0 0] 44)).heap.size = w.heap.size + 1 := by simp
 have HC := hid hc
 have HM := hid hM
 clear hT hok hsh hc ht hK hM
 go_enter Tryz.func15, Tryz.ntmps15
 go_upto_region 1 with fail
 generalize w.alloc (.cells #[.bool false, .bool false, .bool false, .bool false, .bool false, .bool false, .bool false, .bool false, .bool false, .bool false, .bool false, .bool false, .slice none 0 0, .slice none 0 0, .slice none 0 0, .slice none 0 0, .slice none 0 0, .slice none 0 0, .slice none 0 0, .slice none 0 0, .slice none 0 0, .slice none 0 0, .slice none 0 0, .slice none 0 0, .slice none 0 0, .slice none 0 0, .slice none 0 0, .slice none 0 0, .slice none 0 0, .slice none 0 0, .slice none 0 0, .slice none 0 0, .slice none 0 0, .slice none 0 0, .slice none 0 0, .slice none 0 0] 44) = w1 at *
 go_wp2_with fail
 refine CO.out.mono ?_
 rintro e w2 ⟨⟨B, rfl, hB, hO⟩, h2⟩
 have hb2 := below_then hb1 h2
 have h12 := h2.size
 have V3 := V3.below h2 V3.lt
 have hTK := HT.out _ hb2
 have CV := hid (vof_ok (w := w2) 4611686018427387904 4611686018427387904 fuel_most hO hTK.1 hTK.2 HC.out (Below.refl _ _) HM.out (.inl rfl))
 have HO := hid (fun wx (hx : Below w2.heap.size w2 wx) => hO.below hx)
 clear CO hO h2 hTK hb1
 go_wp2_with fail
 refine CV.out.mono ?_
 rintro e w3 ⟨⟨ws, rfl, hW⟩, h3⟩
 obtain ⟨V7, hb7, hth⟩ := vec_put w3 (accV h) ws
 have hone := hW.one (accV h)
 have hinf := info_vecA (accV h) ws
 have h27 := below_then h3 hb7
 have HO7 := hid (HO.out _ h27)
 have W7 := hW.below hb7
 have V3 := V3.below h3 V3.lt
 have hne := V3.lt
 have V3 := V3.below hb7 V3.lt
 have hbW := below_then hb2 h27
 clear CV h3 h27 hb2 hW HO
 go_upto_region 5 with (first | (with_reducible refine wpList_store_mid rfl 44 _ _ rfl w3.heap.size 0 (vecL (accV h) ws).toArray rfl rfl hth hinf hone ?_))
 generalize (w3.alloc (.cells #[.bool false, .bool false, .bool false, .bool false, .bool false, .bool false, .bool false, .bool false, .bool false, .bool false, .bool false, .bool false, .slice none 0 0, .slice none 0 0, .slice none 0 0, .slice none 0 0, .slice none 0 0, .slice none 0 0, .slice none 0 0, .slice none 0 0, .slice none 0 0, .slice none 0 0, .slice none 0 0, .slice none 0 0, .slice none 0 0, .slice none 0 0, .slice none 0 0, .slice none 0 0, .slice none 0 0, .slice none 0 0, .slice none 0 0, .slice none 0 0, .slice none 0 0, .slice none 0 0, .slice none 0 0, .slice none 0 0] 44)).setCells w3.heap.size 0 (vecL (accV h) ws) = w7 at *
 generalize w3.heap.size = g7 at *
 have kd := (Below.refl w7.heap.size w7).drew
 have V7 := hid (V7.below kd V7.lt)
 have HO7 := hid (HO7.out.below kd)
 have W7 := W7.below kd
 have HV3 := hid (V3.below kd V3.lt)
 have hbW := below_then hbW kd
 have hinf2 := info_vec (accV h) ws
 clear V3 kd hth
 refine wp_region_held_drew (S := fun wx => wx.rangeAt g7 0 (vecL (accV h) ws)) (by kernel_rfl) V7.out.all (fun hS0 => ?_)
 generalize w7.drew = wd at *
 refine tG (some 25) 0 ?vtg0x1 rfl rfl (Or.inl ⟨by rfl, ?htg0x1⟩) hS0 ?rtg0x1
 case htg0x1 => (intro w hw; go_simp; try (with_reducible rfl))
 try simp only [Act.put, zA, zB, zC]
 refine tG (some 26) 1 _ rfl rfl (yieldsIf_load_mid (by rfl) 44 _ rfl g7 0 rfl (vecL (accV h) ws) _ (fun _ hw => hw) Tryz.underlying44 rfl hinf2) hS0 ?_
 try simp only [Act.put, zA, zB, zC]
 refine tG (some 27) 2 ?vtg2x3 rfl rfl (Or.inl ⟨by rfl, ?htg2x3⟩) hS0 ?rtg2x3
 case htg2x3 => (intro w hw; go_simp; try (with_reducible rfl))
 try simp only [Act.put, zA, zB, zC]
 refine tG (some 28) 3 ?vtg3x4 rfl rfl (Or.inl ⟨by rfl, ?htg3x4⟩) hS0 ?rtg3x4
 case htg3x4 => (intro w hw; go_simp; try (with_reducible rfl))
 try simp only [Act.put, zA, zB, zC]
 refine tG (some 2) 4 ?vtg4x5 rfl rfl (Or.inl ⟨by rfl, ?htg4x5⟩) hS0 ?rtg4x5
 case htg4x5 => (intro w hw; go_simp; try (with_reducible rfl))
 try simp only [Act.put, zA, zB, zC]
 refine rD 5 rfl (fun K hK => ?_)
 have hth := HV3.out.there (o := 0) (n := 36) (by omega)
 rw [show 36 = (vecL (accV h) ws).toArray.size from (vecL_len _ _).symm] at hth
 refine wp_store_mid 44 _ _ rfl w.heap.size 0 (vecL (accV h) ws).toArray rfl rfl hth hinf hone ?_
 have sB : (wd.setCells w.heap.size 0 (vecL (accV h) ws)).rangeAt g7 0 (vecL (accV h) ws) := World.rangeAt_setCells_apart hS0 _ _ _ (.inl (by omega))
 refine hK.out _ _ sB (fun _ => ?_)
 clear hK K hth
 refine tG (some 4) 6 ?vtg6x7 rfl rfl (Or.inl ⟨by rfl, ?htg6x7⟩) sB ?rtg6x7
 case htg6x7 => (intro w hw; go_simp; try (with_reducible rfl))
 try simp only [Act.put, List.setIfInBounds_toArray]
 refine wpAnyH_done (by kernel_rfl) ?_ _
 have HV9 := hid (HV3.out.put (accV h) ws)
 have HF : Hid (OrdIs (wd.setCells w.heap.size 0 (vecL (accV h) ws)) B (B + 2) h ∧ WitsIn h ws w.heap.size (wd.setCells w.heap.size 0 (vecL (accV h) ws)) ∧ Below w.heap.size w (wd.setCells w.heap.size 0 (vecL (accV h) ws))) := hid ⟨HO7.out.apart (by omega) (by omega) (HV3.out 0 (by omega)).1 0 _, (W7.cells (by omega) 0 _).base (by omega), below_putC (Nat.le_refl _) _ _ _ hbW⟩
 go_wp2_with fail
 refine bodyPost_ret (results_vec3 rfl _ _ _ (accV h) ws rfl HV9.out) rfl ⟨⟨B, ws, rfl, HF.out.1, HF.out.2.1⟩, HF.out.2.2⟩
end

section
open Go.RowKit
theorem can_ok {c : List TxnV} (hc : checkI c = 0) : ∀ t ∈ c, t.ok := fun t ht => by
 obtain ⟨m1, m2⟩ := may_at (check_rightB hc).1 ht
 refine ⟨⟨by unfold IntOk; omega, by unfold IntOk; omega, by unfold IntOk; omega⟩, fun o ho => ?_⟩
 have := (mayO_iff o).1 (m2 o ho)
 refine ⟨by unfold IntOk; omega, by unfold IntOk; omega⟩
theorem can_short {c : List TxnV} (hc : checkI c = 0) : Short c := fun t ht => by
 have := (may_at (check_rightB hc).1 ht).1
 omega
end

section
open Go.RowKit
theorem namL_mem {f τ κ ν : Int → Int} {L : List Int} {h : List TxnV} (hL : OrdO L h.length) {e : ETx} (he : e ∈ namL f τ κ ν L h) : ∃ t ∈ h, e = renE f τ κ ν (txE t) := by
 unfold namL at he
 obtain ⟨k, hk, rfl⟩ := List.mem_map.1 he
 have hk := List.mem_range.1 hk
 have hi := (ordO_at hL hk).1
 refine ⟨_, List.getElem_mem hi, ?_⟩
 rw [List.getD_eq_getElem?_getD, List.getElem?_map, List.getElem?_eq_getElem hi]
 rfl
theorem named_ok {f τ κ ν : Int → Int} {L : List Int} {h c : List TxnV} (hL : OrdO L h.length) (e : c.map txE = namL f τ κ ν L h) (hf : ∀ x, IntOk x → IntOk (f x)) (hτ : ∀ x, IntOk x → IntOk (τ x)) (hκ : ∀ x, IntOk x → IntOk (κ x)) (hν : ∀ x, IntOk x → IntOk (ν x)) (hok : ∀ t ∈ h, t.ok) (hsh : Short h) : (∀ t ∈ c, t.ok) ∧ Short c := by
 have key : ∀ t ∈ c, ∃ u ∈ h, txE t = renE f τ κ ν (txE u) := fun t ht => namL_mem hL (e ▸ List.mem_map_of_mem ht)
 refine ⟨fun t ht => ?_, fun t ht => ?_⟩
 ·obtain ⟨u, hu, q⟩ := key t ht
  obtain ⟨s, b, d, v, l⟩ := t
  simp only [txE, renE, Prod.mk.injEq] at q
  obtain ⟨rfl, rfl, rfl, rfl⟩ := q
  obtain ⟨⟨o1, o2, o3⟩, o4⟩ := hok u hu
  refine ⟨⟨hf _ o1, hτ _ o2, hτ _ o3⟩, fun o ho => ?_⟩
  obtain ⟨o', ho', rfl⟩ := List.mem_map.1 ho
  exact ⟨hκ _ (o4 o' ho').1, hν _ (o4 o' ho').2⟩
 ·obtain ⟨u, hu, q⟩ := key t ht
  have q := congrArg (fun e => e.2.2.2.length) q
  simp only [txE, renE, List.length_map] at q
  have := hsh u hu
  omega
theorem whole_ord {L : List Int} {n : Nat} (h : wholeP L n) : OrdO L n := by
 rcases h with rfl | ⟨h1, h2⟩
 ·exact .inl rfl
 ·refine .inr ⟨h1, fun k hk => ?_⟩
  have hm : L[k] ∈ srtI L := (List.mergeSort_perm L fun x y => decide (x ≤ y)).mem_iff.2 (List.getElem_mem hk)
  obtain ⟨i, hi, e⟩ := List.getElem_of_mem hm
  have hl : (srtI L).length = L.length := (List.mergeSort_perm L fun x y => decide (x ≤ y)).length_eq
  exact ⟨i, by rw [← e, h2 i hi], by omega⟩
def appP (FK FS FV FT : Int → Option Int) (L : List Int) (h : List TxnV) : Prop :=
 checkI h = 0 ∧ wholeP L h.length ∧ keepP FK FS (delF FV 0) FT (keyE (h.map txE)) (sesE (h.map txE)) (valA (h.map txE)) (stL h) ∧ checkI ((namL (nmF FS) (nmF FT) (nmF FK) (nmF (delF FV 0)) L h).map tx0) = 0
instance (FK FS FV FT : Int → Option Int) (L : List Int) (h : List TxnV) : Decidable (appP FK FS FV FT L h) := by unfold appP; infer_instance
end

section
open Go.RowKit
def d0T : TxnV := ⟨0, 0, 0, .slice none 0 0, []⟩
theorem ix_perm {L : List Int} {n : Nat} (h : wholeP L n) : ((List.range n).map (ixO L)).Perm (List.range n) := by
 rcases h with rfl | ⟨h1, h2⟩
 ·have e : (List.range n).map (ixO []) = List.range n := by
   conv => rhs; rw [← List.map_id (List.range n)]
   exact List.map_congr_left fun k _ => by simp [ixO]
  rw [e]
 ·by_cases hn : L = []
  ·subst hn
   have e : (List.range n).map (ixO []) = List.range n := by
    conv => rhs; rw [← List.map_id (List.range n)]
    exact List.map_congr_left fun k _ => by simp [ixO]
   rw [e]
  ·have hp : (srtI L).Perm L := List.mergeSort_perm L fun x y => decide (x ≤ y)
   have hl : (srtI L).length = n := hp.length_eq.trans h1
   have e1 : (List.range n).map (ixO L) = L.map Int.toNat := by
    refine List.ext_getElem (by simp [h1]) fun k q1 q2 => ?_
    have hk : k < L.length := by simpa using q2
    rw [List.getElem_map, List.getElem_range, List.getElem_map]
    unfold ixO
    rw [if_neg hn, List.getD_eq_getElem?_getD, List.getElem?_eq_getElem hk]
    rfl
   have e2 : (srtI L).map Int.toNat = List.range n := by
    refine List.ext_getElem (by simp [hl]) fun k q1 q2 => ?_
    rw [List.getElem_map, List.getElem_range, h2 k (by simpa using q1), Int.toNat_natCast]
   rw [e1, ← e2]
   exact (hp.map _).symm
def turnL (L : List Int) (h : List TxnV) : List TxnV := (List.range h.length).map fun k => h.getD (ixO L k) d0T
theorem turnL_perm {L : List Int} {h : List TxnV} (hw : wholeP L h.length) : (turnL L h).Perm h := by
 have e1 : turnL L h = ((List.range h.length).map (ixO L)).map fun i => h.getD i d0T := by unfold turnL; rw [List.map_map]; rfl
 have e2 : (List.range h.length).map (fun i => h.getD i d0T) = h := by
  refine List.ext_getElem (by simp) fun k q1 q2 => ?_
  rw [List.getElem_map, List.getElem_range, List.getD_eq_getElem?_getD, List.getElem?_eq_getElem q2]
  rfl
 rw [e1]
 conv => rhs; rw [← e2]
 exact (ix_perm hw).map _
theorem namL_turn (f τ κ ν : Int → Int) (L : List Int) (h : List TxnV) : namL f τ κ ν L h = ((turnL L h).map txE).map (renE f τ κ ν) := by
 unfold namL turnL
 rw [List.map_map, List.map_map]
 refine List.map_congr_left fun k _ => ?_
 show _ = renE f τ κ ν (txE (h.getD (ixO L k) d0T))
 congr 1
 rw [List.getD_eq_getElem?_getD, List.getD_eq_getElem?_getD, List.getElem?_map]
 cases h[ixO L k]? <;> rfl
theorem risS_far {F : Int → Option Int} {S : List Int} (h : risS F S) : ∀ (d i : Nat) (hd : i + d + 1 < S.length), nmF F (S[i]'(by omega)) < nmF F S[i + d + 1]
 | 0, i, hd => h i hd
 | d + 1, i, hd => by
  have h1 := risS_far h d i (by omega)
  have h2 := h (i + d + 1) (by omega)
  exact Int.lt_trans h1 h2
theorem risP_lt {F : Int → Option Int} {S : List Int} (h : risP F S) : ∀ a ∈ S, ∀ b ∈ S, a < b → nmF F a < nmF F b := by
 intro a ha b hb hab
 have hp : (srtI S).Perm S := List.mergeSort_perm S fun x y => decide (x ≤ y)
 obtain ⟨i, hi, rfl⟩ := List.getElem_of_mem (hp.mem_iff.2 ha)
 obtain ⟨j, hj, rfl⟩ := List.getElem_of_mem (hp.mem_iff.2 hb)
 have hs : (srtI S).Pairwise fun x y => decide (x ≤ y) = true := List.pairwise_mergeSort (le := fun x y : Int => decide (x ≤ y)) (fun a b c h1 h2 => by simp at h1 h2 ⊢; omega) (fun a b => by simp; omega) S
 have hij : i < j := by
  rcases Nat.lt_trichotomy i j with q | q | q
  ·exact q
  ·subst q; omega
  ·have q2 := (List.pairwise_iff_getElem.1 hs) j i hj hi q
   simp at q2
   omega
 have q := risS_far h (j - i - 1) i (by omega)
 have e : i + (j - i - 1) + 1 = j := by omega
 simp only [e] at q
 exact q
theorem nmF_del0 (F : Int → Option Int) : nmF (delF F 0) 0 = 0 := by unfold nmF delF; rw [if_pos rfl]; rfl
section
variable {FK FS FV FT : Int → Option Int} {L : List Int} {h c : List TxnV}
theorem app_zero (ha : appP FK FS FV FT L h) {v : Int} (hv : ∃ t ∈ h, ∃ o ∈ t.l, o.val = v) (e : nmF (delF FV 0) v = 0) : v = 0 := by
 by_cases h0 : v = 0
 ·exact h0
 ·exfalso
  obtain ⟨t, ht, o, ho, hw, rfl⟩ := val_written ha.1 hv h0
  have hm : renE (nmF FS) (nmF FT) (nmF FK) (nmF (delF FV 0)) (txE t) ∈ namL (nmF FS) (nmF FT) (nmF FK) (nmF (delF FV 0)) L h := by
   rw [namL_turn]
   exact List.mem_map_of_mem (List.mem_map_of_mem ((turnL_perm ha.2.1).mem_iff.2 ht))
  have hq := (may_at (check_rightB ha.2.2.2).1 (List.mem_map_of_mem (f := tx0) hm)).2 (renO (nmF FK) (nmF (delF FV 0)) o) (List.mem_map_of_mem ho)
  exact ((mayO_iff _).1 hq).2.2 hw e
theorem app_key (ha : appP FK FS FV FT L h) (a b : Int) (hka : KeyIn h a) (hkb : KeyIn h b) (e : nmF FK a = nmF FK b) : a = b := ha.2.2.1.1 a (keyE_iff.2 hka) b (keyE_iff.2 hkb) e
theorem app_val (ha : appP FK FS FV FT L h) (a b : Int) (hka : ValIn h a) (hkb : ValIn h b) (e : nmF (delF FV 0) a = nmF (delF FV 0) b) : a = b := by
 rcases hka with rfl | hka
 ·rcases hkb with rfl | hkb
  ·rfl
  ·rw [nmF_del0] at e
   exact (app_zero ha hkb e.symm).symm
 ·rcases hkb with rfl | hkb
  ·rw [nmF_del0] at e
   exact app_zero ha hka e
  ·exact ha.2.2.1.2.2.1 a (valA_iff.2 hka) b (valA_iff.2 hkb) e
theorem app_ses (ha : appP FK FS FV FT L h) : ∀ t ∈ h, ∀ u ∈ h, nmF FS t.s = nmF FS u.s → t.s = u.s := fun t ht u hu e => ha.2.2.1.2.1 t.s (sesE_mem (List.mem_map_of_mem ht)) u.s (sesE_mem (List.mem_map_of_mem hu)) e
theorem app_st (ha : appP FK FS FV FT L h) : ∀ a ∈ stL h, ∀ b ∈ stL h, a < b → nmF FT a < nmF FT b := risP_lt ha.2.2.1.2.2.2
theorem app_check (ha : appP FK FS FV FT L h) (e : c.map txE = namL (nmF FS) (nmF FT) (nmF FK) (nmF (delF FV 0)) L h) : checkI c = 0 := by
 rw [checkI_txE (h := (namL (nmF FS) (nmF FT) (nmF FK) (nmF (delF FV 0)) L h).map tx0) (by rw [tx0_txE, e])]
 exact ha.2.2.2
theorem app_dec (ha : appP FK FS FV FT L h) (e : c.map txE = namL (nmF FS) (nmF FT) (nmF FK) (nmF (delF FV 0)) L h) (lv : Int) : (decW c lv).2.2 = (decW h lv).2.2 := by
 have he : c.map txE = ((turnL L h).map txE).map (renE (nmF FS) (nmF FT) (nmF FK) (nmF (delF FV 0))) := e.trans (namL_turn _ _ _ _ _ _)
 obtain ⟨π, ρ, q, hq⟩ := ren_of (turnL_perm ha.2.1) (begins_nodup (check_rightB ha.1).2.2.1) he (app_key ha) (app_val ha) (nmF_del0 FV)
 exact ren_dec ha.1 (app_check ha e) q hq (app_ses ha) (app_st ha) lv
end
end

section
open Go.RowKit
theorem ok_ofI {x : Int} (h : InI x) : IntOk x := by
 have q : (Lit.int .i64 x).wf = true := h
 simp [Lit.wf, IntKind.min, IntKind.max, IntKind.signed, IntKind.bits] at q
 unfold IntOk
 omega
theorem keyE_len (h : List TxnV) : (keyE (h.map txE)).length = opsN h := by
 induction h with
 | nil => rfl
 | cons t r ih => unfold keyE opsN at *; simp only [List.map_cons, List.flatMap_cons, List.length_append, List.length_map, List.sum_cons, txE] at *; omega
def OkN (F : Int → Option Int) : Prop := ∀ x, IntOk x → IntOk (nmF F x)
theorem OkN.inF {F : Int → Option Int} (h : OkN F) : InF F := fun x hx => inI_of (h x (ok_ofI hx))
theorem OkN.del {F : Int → Option Int} (h : OkN F) (k : Int) : OkN (delF F k) := fun x hx => by
 by_cases e : x = k
 ·have q : nmF (delF F k) x = x := by unfold nmF delF; rw [if_pos e]; rfl
  rw [q]; exact hx
 ·have q : nmF (delF F k) x = nmF F x := by unfold nmF delF; rw [if_neg e]
  rw [q]; exact h x hx
set_option linter.unusedSimpArgs false in
theorem rapply_any (hv vK vS vV vT vO : Value) (FK FS FV FT : Int → Option Int) (L : List Int) (h : List TxnV) (w : World) (hN : NmA w vK vS vV vT FK FS FV FT) (hO : Ints w vO L) (hLn : L.length ≤ 100000) (hT : Txns w hv h) (hok : ∀ t ∈ h, t.ok) (hsh : Short h)
  (fk : OkN FK) (fs : OkN FS) (fv : OkN FV) (ft : OkN FT) :
  Calls Tryz.prog 13 #[hv, .agg #[vK, vS, vV, vT, vO]] w fun e w' => ((appP FK FS FV FT L h ∧ ∃ v, e = .returned (.tuple #[v, .bool true]) ∧ ∃ c, OwnH w' w.heap.size v c ∧ c.map txE = namL (nmF FS) (nmF FT) (nmF FK) (nmF (delF FV 0)) L h) ∨ (¬ appP FK FS FV FT L h ∧ e = .returned (.tuple #[.slice none 0 0, .bool false]))) ∧ Below w.heap.size w w' := by
 have HT := hid (fun wx (hx : Below w.heap.size w wx) => hT.below hx)
 have HN := hid (fun wx (hx : Below w.heap.size w wx) => hN.below hx)
 have CC := hid (fun wx (hx : Below w.heap.size w wx) => hcheck_any hv h wx (hT.below hx) hok hsh)
 have CW := hid (fun wx (hx : Below w.heap.size w wx) => rwhole_any vO L h.length wx (hO.below hx) hLn)
 have CM := hid (fun wx (hx : Below w.heap.size w wx) => mclone_any vV FV wx (hN.v.below hx))
 have COF := hid (fun (hc : checkI h = 0) wx (hx : Below w.heap.size w wx) => rof21_any hv h wx (hT.below hx) (checkI_right hc).1 (checkI_right hc).2.1)
 have HK : Hid (∀ u', checkI h = 0 → ∀ pk ps pv pt wx wy, Below w.heap.size w wx → NmI wx u' (delF FV 0) → Below wx.heap.size wx wy → ∀ b, R4 wy b pk ps pv pt (keyE (h.map txE)) (sesE (h.map txE)) (valA (h.map txE)) (stL h) → Calls Tryz.prog 42 #[.agg #[vK, vS, u', vT, vO], .agg #[pk, ps, pv, pt]] wy fun e w' => e = .returned (.bool (decide (keepP FK FS (delF FV 0) FT (keyE (h.map txE)) (sesE (h.map txE)) (valA (h.map txE)) (stL h)))) ∧ Below wy.heap.size wy w') := hid (by
  intro u' hc pk ps pv pt wx wy hx hu hxy b hR
  have hy := below_then hx hxy
  obtain ⟨h64, hop, _⟩ := checkI_right hc
  have q := hN.below hy
  have hl1 := keyE_len h
  have hl2 := valA_len h
  have hl3 : (sesE (h.map txE)).length = h.length := by unfold sesE; simp
  have hl4 := stL_len h
  have hi : ∀ t ∈ h, t.ok := hok
  refine rnkeeps_any vK vS u' vT vO pk ps pv pt FK FS (delF FV 0) FT _ _ _ _ wy ⟨q.k, q.s, hu.below hxy, q.t⟩ (by obtain ⟨a, c, e, _⟩ := hO.form; exact ⟨a, _, c, e⟩) hR.o0.ints hR.o1.ints hR.o2.ints hR.o3.ints ?_ ?_ ?_ ?_ fk.inF fs.inF (fv.del 0).inF (by omega) (by omega) (by omega) (by omega)
  ·intro x hx
   unfold keyE at hx
   obtain ⟨e, he, hx⟩ := List.mem_flatMap.1 hx
   obtain ⟨t, ht, rfl⟩ := List.mem_map.1 he
   obtain ⟨o, ho, rfl⟩ := List.mem_map.1 hx
   exact inI_of ((hok t ht).2 o ho).1
  ·intro x hx
   unfold sesE at hx
   obtain ⟨e, he, rfl⟩ := List.mem_map.1 hx
   obtain ⟨t, ht, rfl⟩ := List.mem_map.1 he
   exact inI_of (hok t ht).1.1
  ·intro x hx
   unfold valA at hx
   obtain ⟨e, he, hx⟩ := List.mem_flatMap.1 hx
   obtain ⟨t, ht, rfl⟩ := List.mem_map.1 he
   obtain ⟨o, ho, rfl⟩ := List.mem_map.1 hx
   exact inI_of ((hok t ht).2 o ho).2
  ·intro x hx
   unfold stL at hx
   obtain ⟨t, ht, hx⟩ := List.mem_flatMap.1 hx
   rcases List.mem_cons.1 hx with rfl | hx
   ·exact inI_of (hok t ht).1.2.1
   ·rw [List.mem_singleton] at hx
    subst hx
    exact inI_of (hok t ht).1.2.2)
 have HNM : Hid (∀ u', checkI h = 0 → wholeP L h.length → ∀ wx wy, Below w.heap.size w wx → NmI wx u' (delF FV 0) → Below wx.heap.size wx wy → Calls Tryz.prog 44 #[hv, .agg #[vK, vS, u', vT, vO]] wy fun e w' => ∃ v c, e = .returned v ∧ OwnH w' wy.heap.size v c ∧ c.map txE = namL (nmF FS) (nmF FT) (nmF FK) (nmF (delF FV 0)) L h ∧ Below wy.heap.size wy w') := hid (by
  intro u' hc hw wx wy hx hu hxy
  have hy := below_then hx hxy
  obtain ⟨h64, hop, _⟩ := checkI_right hc
  have q := hN.below hy
  exact rnamed_any hv vK vS u' vT vO FK FS (delF FV 0) FT L h wy ⟨q.k, q.s, hu.below hxy, q.t⟩ (hO.below hy) (hT.below hy) (whole_ord hw) (by omega) (fun t ht => by
   obtain ⟨⟨o1, o2, o3⟩, o4⟩ := hok t ht
   refine ⟨inI_of o1, inI_of o2, inI_of o3, ?_, fun o ho => ⟨inI_of (o4 o ho).1, inI_of (o4 o ho).2⟩⟩
   obtain ⟨i, hi, rfl⟩ := List.getElem_of_mem ht
   have h1 := opsN_take h i hi
   have h2 := opsN_le h (i + 1)
   omega))
 have HNO : Hid (wholeP L h.length → ∀ c : List TxnV, c.map txE = namL (nmF FS) (nmF FT) (nmF FK) (nmF (delF FV 0)) L h → (∀ t ∈ c, t.ok) ∧ Short c) := hid (fun hw c hce => named_ok (whole_ord hw) hce fs ft fk (fv.del 0) hok hsh)
 obtain ⟨mK, rfl⟩ := hN.k.form
 obtain ⟨mS, rfl⟩ := hN.s.form
 obtain ⟨mV, rfl⟩ := hN.v.form
 obtain ⟨mT, rfl⟩ := hN.t.form
 obtain ⟨qa, qc, rfl, _⟩ := hO.form
 obtain ⟨ao, cap, rfl, _⟩ := hT.form
 have hbx := BoxN.new w 34 #[.map mK, .map mS, .map mV, .map mT, .slice qa L.length qc]
 have hb1 := box_below w (.cells #[.map mK, .map mS, .map mV, .map mT, .slice qa L.length qc] 34)
 have hsw : w.heap.size < (w.alloc (.cells #[.map mK, .map mS, .map mV, .map mT, .slice qa L.length qc] 34)).heap.size := by simp
 clear hN hO hT hok hsh fk fs fv ft hLn
 go_enter Tryz.func13, Tryz.ntmps13
 go_upto_region 1 with fail
 generalize w.alloc (.cells #[.map mK, .map mS, .map mV, .map mT, .slice qa L.length qc] 34) = w1 at *
 have HX1 := hid hbx
 have CC1 := hid (CC.out _ hb1)
 clear hbx CC
 by_cases hc : checkI h = 0
 ·rw [hc] at CC1
  have HCC := hid hc
  have COF1 := hid (COF.out hc)
  have HK' := hid (fun u' => HK.out u' hc)
  have HNM' := hid (fun u' => HNM.out u' hc)
  clear hc COF HK HNM
  go_wp2_with fail
  refine CC1.out.mono ?_
  rintro e w2 ⟨rfl, h2⟩
  have hb2 := below_then hb1 h2
  have HX2 := hid (HX1.out.below h2)
  have y4 := HX2.out.cell (i := 4) rfl
  have CW1 := hid (CW.out _ hb2)
  obtain ⟨q, hq⟩ : ∃ q, decide (wholeP L h.length) = q := ⟨_, rfl⟩
  rw [hq] at CW1
  have HQ := hid hq
  have h12 : w1.heap.size ≤ w2.heap.size := h2.size
  clear hq CC1 HX1 CW h2
  go_wp2_with fail
  refine CW1.out.mono ?_
  rintro e w3 ⟨rfl, h3⟩
  have hb3 := below_then hb2 h3
  cases q with
  | false =>
   have HF := hid (of_decide_eq_false HQ.out)
   clear HQ
   go_wp2_with fail
   go_ret2
   exact ⟨.inr ⟨fun a => HF.out a.2.1, rfl⟩, hb3⟩
  | true =>
   have HWP := hid (of_decide_eq_true HQ.out)
   have HNM2 := hid (fun u' => HNM'.out u' HWP.out)
   have HNO := hid (HNO.out HWP.out)
   have HX3 := hid (HX2.out.below h3)
   have h13 : w.heap.size < w3.heap.size := by have := h3.size; omega
   have y2 := HX3.out.cell (i := 2) rfl
   have CM1 := hid (CM.out _ hb3)
   clear HQ CW1 HX2 y4 CM h3 HNM'
   go_wp2_with fail
   refine CM1.out.mono ?_
   rintro e w4 ⟨hcl, h4⟩
   obtain ⟨o, rfl, HQ⟩ : ∃ o, e = .returned (.map o) ∧ Hid ((o = none ∧ FV = fun _ => none) ∨ ∃ n c, o = some w3.heap.size ∧ MapI eI Tryz.prog 3 w4 w3.heap.size n FV c) := by
    rcases hcl with ⟨rfl, q⟩ | ⟨n, c, rfl, q⟩
    ·exact ⟨_, rfl, hid (.inl ⟨rfl, q⟩)⟩
    ·exact ⟨_, rfl, hid (.inr ⟨n, c, rfl, q⟩)⟩
   have hb4 := below_then hb3 h4
   have HX4 := hid (HX3.out.below h4)
   have z2 := HX4.out.cell (i := 2) rfl
   have zf2 := HX4.out.free 2
   clear hcl CM1 HX3 y2 h4
   go_upto_region 4 with fail
   have HX5 : Hid (BoxN (w4.setCell ⟨w.heap.size, 2, none⟩ (.map o)) w.heap.size 34 #[.map mK, .map mS, .map o, .map mT, .slice qa L.length qc]) := hid (HX4.out.set 2 (.map o))
   have hb5 := hb4.setCell (p := ⟨w.heap.size, 2, none⟩) (Nat.le_refl _) (.map o)
   have HQ5 : Hid ((o = none ∧ FV = fun _ => none) ∨ ∃ n c, o = some w3.heap.size ∧ MapI eI Tryz.prog 3 (w4.setCell ⟨w.heap.size, 2, none⟩ (.map o)) w3.heap.size n FV c) := hid (HQ.out.imp id (fun ⟨n, c, q1, q2⟩ => ⟨n, c, q1, q2.kept (grown_set w4 ⟨w.heap.size, 2, none⟩ (.map o)) (fun e => by injection e with e; exact absurd e (by show w3.heap.size ≠ w.heap.size; omega))⟩))
   clear HQ HX4 z2 zf2 hb4
   generalize w4.setCell ⟨w.heap.size, 2, none⟩ (.map o) = w5 at *
   have z2 := HX5.out.cell (i := 2) rfl
   go_cut [23] from 22 to 23 (fun u wx => ∃ m2 : Option Nat, Hid (NmI wx (.map m2) (delF FV 0)) ∧ Hid (BoxN wx w.heap.size 34 #[.map mK, .map mS, .map m2, .map mT, .slice qa L.length qc]) ∧ Hid (Below w.heap.size w wx))
   case first =>
    rcases HQ5.out with ⟨rfl, q⟩ | ⟨n, c, rfl, q⟩
    ·have HD : Hid (delF FV 0 = fun _ => none) := hid (by rw [q]; funext y; unfold delF; split <;> rfl)
     clear q
     go_wp2_with (first | (at_delete; refine wpList_delN _ rfl _ _ 32 3 rfl 3 keyI mapII rfl 0 rfl rfl ?_) | go_in)
     go_meet
     case rel => exact ⟨none, hid (.inl ⟨rfl, HD.out⟩), HX5, hid hb5⟩
    ·go_wp2_with (first | (at_delete; refine wpList_delI _ rfl _ _ 32 3 rfl 3 keyI mapII _ _ _ _ rfl q 0 rfl rfl ?_; intro w6 c6 hM6 hg6) | go_in)
     go_meet
     case rel => exact ⟨_, hid (.inr ⟨_, _, _, rfl, hM6⟩), hid (HX5.out.kept hg6 (fun e => by injection e with e; omega)), hid (hb5.grown hg6 hb5.size (fun k hk => by injection hk with e; omega))⟩
   case rest =>
    obtain ⟨m2, HV2, HX5, HB5⟩ := hcut
    obtain ⟨q2, hq2⟩ : ∃ q, decide (keepP FK FS (delF FV 0) FT (keyE (h.map txE)) (sesE (h.map txE)) (valA (h.map txE)) (stL h)) = q := ⟨_, rfl⟩
    have CK := hid (fun pk ps pv pt wy (hx : Below w.heap.size w wy) (hxy : Below wc.heap.size wc wy) b hR => HK'.out (.map m2) pk ps pv pt wc wy HB5.out HV2.out hxy b hR)
    rw [hq2] at CK
    have HK1 := hid (fun (e : q2 = true) => of_decide_eq_true (hq2.trans e))
    have HK0 := hid (fun (e : q2 = false) => of_decide_eq_false (hq2.trans e))
    have CN := hid (fun wy (hx : Below w.heap.size w wy) (hxy : Below wc.heap.size wc wy) => HNM2.out (.map m2) wc wy HB5.out HV2.out hxy)
    clear hq2 HK' HNM2 HV2
    go_upto_region 5 with fail
    have kd := (Below.refl wc.heap.size wc).drew
    have hb5d := HB5.out.drew
    have HX5d := hid (HX5.out.below kd)
    clear HX5 HB5
    refine wp_region_held_drew (S := fun wx => BoxN wx w.heap.size 34 #[.map mK, .map mS, .map m2, .map mT, .slice qa L.length qc]) (by kernel_rfl) HX5d.out (fun hS0 => ?_)
    generalize wc.drew = w6 at *
    refine tG (some 24) 0 ?vha0x1 rfl rfl (Or.inl ⟨by rfl, ?hha0x1⟩) hS0 ?rha0x1
    case hha0x1 => (intro w hw; have y0 := hw.cell (i := 0) rfl; have y1 := hw.cell (i := 1) rfl; have y2 := hw.cell (i := 2) rfl; have y3 := hw.cell (i := 3) rfl; have y4 := hw.cell (i := 4) rfl; go_simp; try (with_reducible rfl))
    try simp only [Act.put, zA, zB, zC]
    refine tG (some 25) 1 ?vha1x2 rfl rfl (Or.inl ⟨by rfl, ?hha1x2⟩) hS0 ?rha1x2
    case hha1x2 => (intro w hw; have y0 := hw.cell (i := 0) rfl; have y1 := hw.cell (i := 1) rfl; have y2 := hw.cell (i := 2) rfl; have y3 := hw.cell (i := 3) rfl; have y4 := hw.cell (i := 4) rfl; go_simp; try (with_reducible rfl))
    try simp only [Act.put, zA, zB, zC]
    refine rD 2 rfl (fun K hK => ?_)
    go_simp
    refine (COF1.out _ hb5d).mono ?_
    rintro e w7 ⟨⟨vk, vs, vv, vt, rfl, hR⟩, h7⟩
    have hb7 := below_then hb5d h7
    have s7 := BoxN.below hS0 h7
    have CKP := hid (CK.out vk vs vv vt w7 hb7 (below_then kd h7) _ hR)
    clear hR
    show K _ _
    refine hK.out _ _ s7 (fun _ => ?_)
    clear hK K
    refine rD 3 rfl (fun K hK => ?_)
    go_simp
    refine CKP.out.mono ?_
    rintro e w8 ⟨rfl, h8⟩
    have hb8 := below_then hb7 h8
    have hb5w := below_then (below_then kd h7) h8
    have s8 := BoxN.below s7 h8
    show K _ _
    refine hK.out _ _ s8 (fun _ => ?_)
    clear hK K
    refine tG (some 28) 4 ?vha4x5 rfl rfl (Or.inl ⟨by rfl, ?hha4x5⟩) s8 ?rha4x5
    case hha4x5 => (intro w hw; have y0 := hw.cell (i := 0) rfl; have y1 := hw.cell (i := 1) rfl; have y2 := hw.cell (i := 2) rfl; have y3 := hw.cell (i := 3) rfl; have y4 := hw.cell (i := 4) rfl; go_simp; try (with_reducible rfl))
    try simp only [Act.put, zA, zB, zC]
    refine wpAnyH_done (by kernel_rfl) ?_ _
    try simp only [Act.put]
    cases q2 with
    | false =>
     have HKF := hid (HK0.out rfl)
     clear HK0 HK1
     go_wp2_with fail
     go_ret2
     exact ⟨.inr ⟨fun a => HKF.out a.2.2.1, rfl⟩, hb8⟩
    | true =>
     have HKY := hid (HK1.out rfl)
     have HX8 := hid s8
     have CN1 := hid (CN.out w8 hb8 hb5w)
     have y0 := HX8.out.cell (i := 0) rfl; have y1 := HX8.out.cell (i := 1) rfl; have y2 := HX8.out.cell (i := 2) rfl; have y3 := HX8.out.cell (i := 3) rfl; have y4 := HX8.out.cell (i := 4) rfl
     clear s7 s8 CKP h7 h8 hb7 hb5d COF1 CK HK0 HK1 CN
     go_wp2_with fail
     refine CN1.out.mono ?_
     rintro e w9 ⟨v, c, rfl, hM, hce, h9⟩
     have hb9 := below_then hb8 h9
     have HOK := hid (HNO.out c hce)
     have CX := hid (hcheck_any v c w9 hM.txns HOK.out.1 HOK.out.2)
     have HXE : Hid (checkI c = checkI ((namL (nmF FS) (nmF FT) (nmF FK) (nmF (delF FV 0)) L h).map tx0)) := hid (checkI_txE (by rw [tx0_txE, hce]))
     rw [HXE.out] at CX
     obtain ⟨av, cv, rfl⟩ : ∃ a cp, v = .slice a c.length cp := by
      obtain ⟨a, cp, e, _⟩ := hM.txns.form
      exact ⟨a, cp, e⟩
     have HM := hid (fun wx (hx : Below w9.heap.size w9 wx) => hM.below hx)
     have HS8 := hid hb8.size
     have HCE := hid hce
     clear hM hce HOK HXE CN1 h9 HX8 y0 y1 y2 y3 y4
     by_cases hz : checkI ((namL (nmF FS) (nmF FT) (nmF FK) (nmF (delF FV 0)) L h).map tx0) = 0
     ·rw [hz] at CX
      have HZ := hid hz
      clear hz
      go_wp2_with fail
      refine CX.out.mono ?_
      rintro e w10 ⟨rfl, h10⟩
      have hb10 := below_then hb9 h10
      have hM := HM.out _ h10
      go_wp2_with fail
      go_ret2
      exact ⟨.inl ⟨⟨HCC.out, HWP.out, HKY.out, HZ.out⟩, _, rfl, c, ⟨owns_weak hM.1 HS8.out, fun t ht => owns_weak (hM.2.1 t ht) HS8.out, hM.2.2⟩, HCE.out⟩, hb10⟩
     ·have HZ := hid hz
      obtain ⟨z, hzz⟩ : ∃ z, checkI ((namL (nmF FS) (nmF FT) (nmF FK) (nmF (delF FV 0)) L h).map tx0) = z := ⟨_, rfl⟩
      rw [hzz] at CX hz
      clear hzz
      have hz2 : (z == 0) = false := by rw [beq_eq_false_iff_ne]; exact hz
      go_wp2_with fail
      refine CX.out.mono ?_
      rintro e w10 ⟨rfl, h10⟩
      have hb10 := below_then hb9 h10
      go_wp2_with fail
      go_ret2
      exact ⟨.inr ⟨fun a => HZ.out a.2.2.2, rfl⟩, hb10⟩
 ·have HF := hid hc
  obtain ⟨z, hz⟩ : ∃ z, checkI h = z := ⟨_, rfl⟩
  rw [hz] at CC1 hc
  clear hz COF HK HNM
  have hz2 : (z == 0) = false := by rw [beq_eq_false_iff_ne]; exact hc
  go_wp2_with fail
  refine CC1.out.mono ?_
  rintro e w2 ⟨rfl, h2⟩
  have hb2 := below_then hb1 h2
  go_wp2_with fail
  go_ret2
  exact ⟨.inr ⟨fun a => HF.out a.1, rfl⟩, hb2⟩
end

section
open Go.RowKit
def sp21 (u : Value) : List TxnV := [⟨0, 1, 2, u, [⟨true, 0, 5⟩]⟩]
def nF : Int → Option Int := fun _ => none
theorem sp21_check (u : Value) : checkI (sp21 u) = 0 := by kernel_rfl
theorem sp21_ok (u : Value) : ∀ t ∈ sp21 u, t.ok := by
 intro t ht
 simp [sp21] at ht
 subst ht
 refine ⟨⟨?_, ?_, ?_⟩, ?_⟩
 iterate 3 (simp [IntOk])
 intro o ho; simp at ho; subst ho; simp [OpV.ok, IntOk]
theorem sp21_short (u : Value) : Short (sp21 u) := fun t ht => by simp [sp21] at ht; subst ht; simp
theorem okN_none : OkN nF := fun _ hx => hx
theorem okN_put {k v : Int} (hv : IntOk v) : OkN (putF nF k v) := fun x hx => by
 unfold nmF putF
 by_cases e : x = k
 ·rw [if_pos e]; exact hv
 ·rw [if_neg e]; exact hx
theorem sp21_nam (u : Value) : namL (nmF nF) (nmF nF) (nmF (putF nF 0 7)) (nmF (delF nF 0)) [] (sp21 u) = [(0, 1, 2, [⟨true, 7, 5⟩])] := by
 kernel_rfl
theorem srt12 : srtI [1, 2] = [1, 2] := by
 unfold srtI
 first | exact List.mergeSort_of_pairwise (by decide) | exact List.mergeSort_of_sorted (by decide) | simp [List.mergeSort, List.MergeSort.Internal.splitInTwo, List.merge]
theorem sp21_yes (u : Value) : appP (putF nF 0 7) nF nF nF [] (sp21 u) := by
 refine ⟨sp21_check u, .inl rfl, ?_, ?_⟩
 ·show keepP (putF nF 0 7) nF (delF nF 0) nF [0] [0] [5] [1, 2]
  refine ⟨by decide +kernel, by decide +kernel, by decide +kernel, ?_⟩
  unfold risP
  rw [srt12]
  decide +kernel
 ·rw [sp21_nam]; kernel_rfl
theorem sp21_no (u : Value) : ¬ appP nF nF nF (putF nF 1 3) [] (sp21 u) := by
 intro h
 have q : keepP nF nF (delF nF 0) (putF nF 1 3) [0] [0] [5] [1, 2] := h.2.2.1
 have r : risS (putF nF 1 3) [1, 2] := by
  have r := q.2.2.2
  unfold risP at r
  rwa [srt12] at r
 revert r
 decide +kernel
theorem ints_none21 (w : World) : Ints w (.slice none 0 0) [] := Ints.of_owns (base := 0) (e := 0) ⟨rfl, .inl ⟨rfl, rfl⟩⟩
end

section
open Go.RowKit
theorem eqlQ (a b c a' b' c') (w : World) : Sem.run Tryz.prog (binOp .eql 79 (.agg #[.bool a, .int .i64 b, .int .i64 c]) (.agg #[.bool a', .int .i64 b', .int .i64 c'])) w = .ok (.bool (decide ((⟨a, b, c⟩ : OpV) = ⟨a', b', c'⟩))) w := by
 have hS : Tryz.prog.underlying 79 = some (.struct (Tryz.prog.fieldsOf 79)) := by kernel_rfl
 have hp : Tryz.prog.stoodInHeld 79 = false := by kernel_rfl
 have u3 := Tryz.underlying3
 have u4 := Tryz.underlying4
 rw [run_eql_struct, show (10000 : Nat) = 9999 + 1 from rfl, run_equalIn_agg w 9999 79 _ _ hS hp]
 simp only [Program.fieldsOf, Tryz.underlying79]
 go_simp
 by_cases h1 : a = a' <;> by_cases h2 : b = b' <;> by_cases h3 : c = c' <;> simp [h1, h2, h3]
theorem one_of {c : List TxnV} {s b d : Int} {l : List OpV} (h : c.map txE = [(s, b, d, l)]) : ∃ v, c = [⟨s, b, d, v, l⟩] := by
 match c, h with
 | [t], h =>
  obtain ⟨s', b', d', v, l'⟩ := t
  simp only [List.map_cons, List.map_nil, txE, List.cons.injEq, Prod.mk.injEq, and_true] at h
  obtain ⟨rfl, rfl, rfl, rfl⟩ := h
  exact ⟨v, rfl⟩
 | [], h => cases h
 | _ :: _ :: _, h => have := congrArg List.length h; simp at this
set_option linter.unusedSimpArgs false in
theorem speaks21_any (w : World) :
  Calls Tryz.prog 10 #[] w fun e w' => e = .returned (.bool true) ∧ Below w.heap.size w w' := by
 have C1 := fun (wx : World) => hid (write_op 0 5 wx)
 have C2 := fun (wx : World) => hid (write_op 7 5 wx)
 go_enter Tryz.func10, Tryz.ntmps10
 go_wp2_with fail
 refine ((C1 w).out).mono ?_
 rintro e w1 ⟨rfl, hb1⟩
 have HT1 := hid (lit_txn w1 0 1 2 0 5)
 have hx1 := (box_below w1 (.cells #[.bool true, .int .i64 0, .int .i64 5] 79))
 have hx2 := below_then hx1 (box_below (w1.alloc (.cells #[.bool true, .int .i64 0, .int .i64 5] 79)) (.cells #[.int .i64 0, .int .i64 1, .int .i64 2, .slice (some ⟨w1.heap.size, 0, none⟩) 1 1] 83))
 have hb2 := below_then hb1 hx2
 clear hx1 hx2 hb1 C1
 go_upto_region 2 with fail
 generalize (w1.alloc (.cells #[.bool true, .int .i64 0, .int .i64 5] 79)).alloc (.cells #[.int .i64 0, .int .i64 1, .int .i64 2, .slice (some ⟨w1.heap.size, 0, none⟩) 1 1] 83) = w2 at *
 generalize w1.heap.size = a1 at *
 generalize hu1 : (Value.slice (some ⟨a1, 0, none⟩) 1 1) = u1 at HT1
 clear hu1
 have hm := MapI.made eI Tryz.prog 3 w2
 obtain ⟨w3, hrun, hm3, hg3⟩ := putI_run keyI mapII hm (by unfold maxLen; omega) (inI_of (x := 0) (by unfold IntOk; omega)) (7 : Int)
 have hrun : Sem.run Tryz.prog (Instr.mapUpdate 32 (.map (some w2.heap.size)) (.int .i64 0) (.int .i64 7)) (w2.alloc (.map #[] 0)) = .ok () w3 := hrun
 have hx2 := box_below w2 (.map #[] 0)
 have hx3 : Below w2.heap.size w2 w3 := hx2.grown hg3 hx2.size (fun j hj => by cases hj; exact Nat.le_refl _)
 have HW := hid (fun wx (hx : Below w2.heap.size w2 wx) => (show Txns wx _ (sp21 u1) from HT1.out.below hx))
 have HB3 := hid (below_then hb2 hx3)
 have CA := hid (rapply_any _ (.map (some w2.heap.size)) (.map none) (.map none) (.map none) (.slice none 0 0) (putF nF 0 7) nF nF nF [] (sp21 u1) w3 ⟨.inr ⟨_, _, _, rfl, hm3⟩, .inl ⟨rfl, rfl⟩, .inl ⟨rfl, rfl⟩, .inl ⟨rfl, rfl⟩⟩ (ints_none21 _) (by simp) (HW.out _ hx3) (sp21_ok _) (sp21_short _) (okN_put (by unfold IntOk; omega)) okN_none okN_none okN_none)
 have HX3 := hid hx3
 clear hm hm3 hg3 hx2 hx3 hb2 HT1
 have hmm := @run_makeMap Tryz.prog
 go_wp2_with fail
 refine CA.out.mono ?_
 rintro e w4 ⟨hq, h4⟩
 rcases hq with ⟨_, v, rfl, c, hM, hce⟩ | ⟨hn, _⟩
 case inr => exact absurd (sp21_yes u1) hn
 rw [sp21_nam] at hce
 obtain ⟨v', rfl⟩ := one_of hce
 have hT4 := hM.txns
 have HB4 := hid (below_then HB3.out h4)
 have HX4 := hid (below_then HX3.out h4)
 have HV := hid (fun wx (hx : Below w4.heap.size w4 wx) => hT4.below hx)
 obtain ⟨av, cv, rfl, _⟩ := hT4.form
 clear CA hM hce h4 hT4 HX3 HB3 hrun hmm
 go_upto_region 3 with fail
 have hm := MapI.made eI Tryz.prog 3 w4
 obtain ⟨w5, hrun, hm5, hg5⟩ := putI_run keyI mapII hm (by unfold maxLen; omega) (inI_of (x := 1) (by unfold IntOk; omega)) (3 : Int)
 have hrun : Sem.run Tryz.prog (Instr.mapUpdate 32 (.map (some w4.heap.size)) (.int .i64 1) (.int .i64 3)) (w4.alloc (.map #[] 0)) = .ok () w5 := hrun
 have hx2 := box_below w4 (.map #[] 0)
 have hx5 : Below w4.heap.size w4 w5 := hx2.grown hg5 hx2.size (fun j hj => by cases hj; exact Nat.le_refl _)
 have CA := hid (rapply_any _ (.map none) (.map none) (.map none) (.map (some w4.heap.size)) (.slice none 0 0) nF nF nF (putF nF 1 3) [] (sp21 u1) w5 ⟨.inl ⟨rfl, rfl⟩, .inl ⟨rfl, rfl⟩, .inl ⟨rfl, rfl⟩, .inr ⟨_, _, _, rfl, hm5⟩⟩ (ints_none21 _) (by simp) (HW.out _ (below_then HX4.out hx5)) (sp21_ok _) (sp21_short _) okN_none okN_none okN_none (okN_put (by unfold IntOk; omega)))
 have HX5 := hid hx5
 clear hm hm5 hg5 hx2 hx5 HW HX4
 have hmm := @run_makeMap Tryz.prog
 go_wp2_with fail
 refine CA.out.mono ?_
 rintro e w6 ⟨hq, h6⟩
 rcases hq with ⟨hy, _⟩ | ⟨_, rfl⟩
 case inl => exact absurd hy (sp21_no u1)
 have h46 := below_then HX5.out h6
 have HB6 := hid (below_then HB4.out h46)
 have HV6 := hid (fun wx (hx : Below w6.heap.size w6 wx) => HV.out wx (below_then h46 hx))
 clear CA HX5 h6 h46 HV HB4 hrun hmm
 obtain ⟨g, o, hgo, a0, a1', a2, a3⟩ := (HV6.out _ (Below.refl _ _)).at (k := 0) (by simp)
 cases hgo
 have hO := (HV6.out _ (Below.refl _ _)).ops (k := 0) (by simp)
 simp only [List.getElem_cons_zero] at a0 a1' a2 a3 hO
 obtain ⟨oo, oc, rfl, _⟩ := hO.form
 obtain ⟨g2, o2, hgo, b0, b1, b2⟩ := hO.at (k := 0) (by simp)
 cases hgo
 simp only [List.getElem_cons_zero] at b0 b1 b2
 have HCL : Hid (∀ wx, Below w6.heap.size w6 wx → wx.cell? ⟨g, o, none⟩ = some (.int .i64 0) ∧ wx.cell? ⟨g, o + 1, none⟩ = some (.int .i64 1) ∧ wx.cell? ⟨g, o + 2, none⟩ = some (.int .i64 2) ∧ wx.cell? ⟨g, o + 3, none⟩ = some (.slice (some ⟨g2, o2, none⟩) 1 oc) ∧ wx.cell? ⟨g2, o2, none⟩ = some (.bool true) ∧ wx.cell? ⟨g2, o2 + 1, none⟩ = some (.int .i64 7) ∧ wx.cell? ⟨g2, o2 + 2, none⟩ = some (.int .i64 5)) := hid (fun wx hx => by
  have q1 := fun (i : Nat) v (hc : w6.cell? ⟨g, i, none⟩ = some v) => (hx.cell (p := ⟨g, i, none⟩) (block_lt hc)).trans hc
  have q2 := fun (i : Nat) v (hc : w6.cell? ⟨g2, i, none⟩ = some v) => (hx.cell (p := ⟨g2, i, none⟩) (block_lt hc)).trans hc
  exact ⟨q1 _ _ (by simpa using a0), q1 _ _ (by simpa using a1'), q1 _ _ (by simpa using a2), q1 _ _ (by simpa using a3), q2 _ _ (by simpa using b0), q2 _ _ (by simpa using b1), q2 _ _ (by simpa using b2)⟩)
 clear hO a0 a1' a2 a3 b0 b1 b2
 go_upto_region 4 with fail
 refine wp_region_held_drew (S := fun wx => Below w6.heap.size w6 wx) (by kernel_rfl) (Below.refl w6.heap.size w6).drew (fun hS0 => ?_)
 generalize w6.drew = wd at *
 refine tG (some 26) 0 ?vha0x1 rfl rfl (Or.inl ⟨by rfl, ?hha0x1⟩) hS0 ?rha0x1
 case hha0x1 => (intro w hw; obtain ⟨a0, a1, a2, a3, b0, b1, b2⟩ := HCL.out _ hw; have heq := eqlQ; go_simp; try (with_reducible rfl))
 try simp only [Act.put, zA, zB, zC]
 refine tG (some 27) 1 ?vha1x2 rfl rfl (Or.inl ⟨by rfl, ?hha1x2⟩) hS0 ?rha1x2
 case hha1x2 => (intro w hw; obtain ⟨a0, a1, a2, a3, b0, b1, b2⟩ := HCL.out _ hw; have heq := eqlQ; go_simp; try (with_reducible rfl))
 try simp only [Act.put, zA, zB, zC]
 refine tG (some 28) 2 ?vha2x3 rfl rfl (Or.inl ⟨by rfl, ?hha2x3⟩) hS0 ?rha2x3
 case hha2x3 => (intro w hw; obtain ⟨a0, a1, a2, a3, b0, b1, b2⟩ := HCL.out _ hw; have heq := eqlQ; go_simp; try (with_reducible rfl))
 try simp only [Act.put, zA, zB, zC]
 refine tG (some 29) 3 ?vha3x4 rfl rfl (Or.inl ⟨by rfl, ?hha3x4⟩) hS0 ?rha3x4
 case hha3x4 => (intro w hw; obtain ⟨a0, a1, a2, a3, b0, b1, b2⟩ := HCL.out _ hw; have heq := eqlQ; go_simp; try (with_reducible rfl))
 try simp only [Act.put, zA, zB, zC]
 refine tG (some 30) 4 ?vha4x5 rfl rfl (Or.inl ⟨by rfl, ?hha4x5⟩) hS0 ?rha4x5
 case hha4x5 => (intro w hw; obtain ⟨a0, a1, a2, a3, b0, b1, b2⟩ := HCL.out _ hw; have heq := eqlQ; go_simp; try (with_reducible rfl))
 try simp only [Act.put, zA, zB, zC]
 refine tG (some 31) 5 ?vha5x6 rfl rfl (Or.inl ⟨by rfl, ?hha5x6⟩) hS0 ?rha5x6
 case hha5x6 => (intro w hw; obtain ⟨a0, a1, a2, a3, b0, b1, b2⟩ := HCL.out _ hw; have heq := eqlQ; go_simp; try (with_reducible rfl))
 try simp only [Act.put, zA, zB, zC]
 refine tG (some 32) 6 ?vha6x7 rfl rfl (Or.inl ⟨by rfl, ?hha6x7⟩) hS0 ?rha6x7
 case hha6x7 => (intro w hw; obtain ⟨a0, a1, a2, a3, b0, b1, b2⟩ := HCL.out _ hw; have heq := eqlQ; go_simp; try (with_reducible rfl))
 try simp only [Act.put, zA, zB, zC]
 refine tG (some 33) 7 ?vha7x8 rfl rfl (Or.inl ⟨by rfl, ?hha7x8⟩) hS0 ?rha7x8
 case hha7x8 => (intro w hw; obtain ⟨a0, a1, a2, a3, b0, b1, b2⟩ := HCL.out _ hw; have heq := eqlQ; go_simp; try (with_reducible rfl))
 try simp only [Act.put, zA, zB, zC]
 refine tG (some 34) 8 ?vha8x9 rfl rfl (Or.inl ⟨by rfl, ?hha8x9⟩) hS0 ?rha8x9
 case hha8x9 => (intro w hw; obtain ⟨a0, a1, a2, a3, b0, b1, b2⟩ := HCL.out _ hw; have heq := eqlQ; go_simp; try (with_reducible rfl))
 try simp only [Act.put, zA, zB, zC]
 refine tG (some 35) 9 ?vha9x10 rfl rfl (Or.inl ⟨by rfl, ?hha9x10⟩) hS0 ?rha9x10
 case hha9x10 => (intro w hw; obtain ⟨a0, a1, a2, a3, b0, b1, b2⟩ := HCL.out _ hw; have heq := eqlQ; go_simp; try (with_reducible rfl))
 try simp only [Act.put, zA, zB, zC]
 refine tG (some 36) 10 ?vha10x11 rfl rfl (Or.inl ⟨by rfl, ?hha10x11⟩) hS0 ?rha10x11
 case hha10x11 => (intro w hw; obtain ⟨a0, a1, a2, a3, b0, b1, b2⟩ := HCL.out _ hw; have heq := eqlQ; go_simp; try (with_reducible rfl))
 try simp only [Act.put, zA, zB, zC]
 refine tG (some 37) 11 ?vha11x12 rfl rfl (Or.inl ⟨by rfl, ?hha11x12⟩) hS0 ?rha11x12
 case hha11x12 => (intro w hw; obtain ⟨a0, a1, a2, a3, b0, b1, b2⟩ := HCL.out _ hw; have heq := eqlQ; go_simp; try (with_reducible rfl))
 try simp only [Act.put, zA, zB, zC]
 refine tG (some 38) 12 ?vha12x13 rfl rfl (Or.inl ⟨by rfl, ?hha12x13⟩) hS0 ?rha12x13
 case hha12x13 => (intro w hw; obtain ⟨a0, a1, a2, a3, b0, b1, b2⟩ := HCL.out _ hw; have heq := eqlQ; go_simp; try (with_reducible rfl))
 try simp only [Act.put, zA, zB, zC]
 refine tG (some 39) 13 ?vha13x14 rfl rfl (Or.inl ⟨by rfl, ?hha13x14⟩) hS0 ?rha13x14
 case hha13x14 => (intro w hw; obtain ⟨a0, a1, a2, a3, b0, b1, b2⟩ := HCL.out _ hw; have heq := eqlQ; go_simp; try (with_reducible rfl))
 try simp only [Act.put, zA, zB, zC]
 refine tG (some 40) 14 ?vha14x15 rfl rfl (Or.inl ⟨by rfl, ?hha14x15⟩) hS0 ?rha14x15
 case hha14x15 => (intro w hw; obtain ⟨a0, a1, a2, a3, b0, b1, b2⟩ := HCL.out _ hw; have heq := eqlQ; go_simp; try (with_reducible rfl))
 try simp only [Act.put, zA, zB, zC]
 refine tG (some 41) 15 ?vha15x16 rfl rfl (Or.inl ⟨by rfl, ?hha15x16⟩) hS0 ?rha15x16
 case hha15x16 => (intro w hw; obtain ⟨a0, a1, a2, a3, b0, b1, b2⟩ := HCL.out _ hw; have heq := eqlQ; go_simp; try (with_reducible rfl))
 try simp only [Act.put, zA, zB, zC]
 refine tG (some 42) 16 ?vha16x17 rfl rfl (Or.inl ⟨by rfl, ?hha16x17⟩) hS0 ?rha16x17
 case hha16x17 => (intro w hw; obtain ⟨a0, a1, a2, a3, b0, b1, b2⟩ := HCL.out _ hw; have heq := eqlQ; go_simp; try (with_reducible rfl))
 try simp only [Act.put, zA, zB, zC]
 refine tG (some 43) 17 ?vha17x18 rfl rfl (Or.inl ⟨by rfl, ?hha17x18⟩) hS0 ?rha17x18
 case hha17x18 => (intro w hw; obtain ⟨a0, a1, a2, a3, b0, b1, b2⟩ := HCL.out _ hw; have heq := eqlQ; go_simp; try (with_reducible rfl))
 try simp only [Act.put, zA, zB, zC]
 refine tG (some 44) 18 ?vha18x19 rfl rfl (Or.inl ⟨by rfl, ?hha18x19⟩) hS0 ?rha18x19
 case hha18x19 => (intro w hw; obtain ⟨a0, a1, a2, a3, b0, b1, b2⟩ := HCL.out _ hw; have heq := eqlQ; go_simp; try (with_reducible rfl))
 try simp only [Act.put, zA, zB, zC]
 refine tG (some 45) 19 ?vha19x20 rfl rfl (Or.inl ⟨by rfl, ?hha19x20⟩) hS0 ?rha19x20
 case hha19x20 => (intro w hw; obtain ⟨a0, a1, a2, a3, b0, b1, b2⟩ := HCL.out _ hw; have heq := eqlQ; go_simp; try (with_reducible rfl))
 try simp only [Act.put, zA, zB, zC]
 refine tG (some 46) 20 ?vha20x21 rfl rfl (Or.inl ⟨by rfl, ?hha20x21⟩) hS0 ?rha20x21
 case hha20x21 => (intro w hw; obtain ⟨a0, a1, a2, a3, b0, b1, b2⟩ := HCL.out _ hw; have heq := eqlQ; go_simp; try (with_reducible rfl))
 try simp only [Act.put, zA, zB, zC]
 refine tG (some 47) 21 ?vha21x22 rfl rfl (Or.inl ⟨by rfl, ?hha21x22⟩) hS0 ?rha21x22
 case hha21x22 => (intro w hw; obtain ⟨a0, a1, a2, a3, b0, b1, b2⟩ := HCL.out _ hw; have heq := eqlQ; go_simp; try (with_reducible rfl))
 try simp only [Act.put, zA, zB, zC]
 refine tG (some 48) 22 ?vha22x23 rfl rfl (Or.inl ⟨by rfl, ?hha22x23⟩) hS0 ?rha22x23
 case hha22x23 => (intro w hw; obtain ⟨a0, a1, a2, a3, b0, b1, b2⟩ := HCL.out _ hw; have heq := eqlQ; go_simp; try (with_reducible rfl))
 try simp only [Act.put, zA, zB, zC]
 refine tG (some 49) 23 ?vha23x24 rfl rfl (Or.inl ⟨by rfl, ?hha23x24⟩) hS0 ?rha23x24
 case hha23x24 => (intro w hw; obtain ⟨a0, a1, a2, a3, b0, b1, b2⟩ := HCL.out _ hw; have heq := eqlQ; go_simp; try (with_reducible rfl))
 try simp only [Act.put, zA, zB, zC]
 refine tG (some 50) 24 ?vha24x25 rfl rfl (Or.inl ⟨by rfl, ?hha24x25⟩) hS0 ?rha24x25
 case hha24x25 => (intro w hw; obtain ⟨a0, a1, a2, a3, b0, b1, b2⟩ := HCL.out _ hw; have heq := eqlQ; go_simp; try (with_reducible rfl))
 try simp only [Act.put, zA, zB, zC]
 refine rD 25 rfl (fun K hK => ?_)
 go_simp
 refine ((C2 _).out).mono ?_
 rintro e w7 ⟨rfl, h7⟩
 have s7 := below_then hS0 h7
 show K _ _
 refine hK.out _ _ s7 (fun _ => ?_)
 clear hK K
 refine tG (some 52) 26 ?vha26x27 rfl rfl (Or.inl ⟨by rfl, ?hha26x27⟩) s7 ?rha26x27
 case hha26x27 => (intro w hw; obtain ⟨a0, a1, a2, a3, b0, b1, b2⟩ := HCL.out _ hw; have heq := eqlQ; go_simp; try (with_reducible rfl))
 try simp only [Act.put, zA, zB, zC]
 refine tG (some 53) 27 ?vha27x28 rfl rfl (Or.inl ⟨by rfl, ?hha27x28⟩) s7 ?rha27x28
 case hha27x28 => (intro w hw; obtain ⟨a0, a1, a2, a3, b0, b1, b2⟩ := HCL.out _ hw; have heq := eqlQ; go_simp; try (with_reducible rfl))
 try simp only [Act.put, zA, zB, zC]
 refine tG (some 54) 28 ?vha28x29 rfl rfl (Or.inl ⟨by rfl, ?hha28x29⟩) s7 ?rha28x29
 case hha28x29 => (intro w hw; obtain ⟨a0, a1, a2, a3, b0, b1, b2⟩ := HCL.out _ hw; have heq := eqlQ; go_simp; try (with_reducible rfl))
 try simp only [Act.put, zA, zB, zC]
 refine tG (some 55) 29 ?vha29x30 rfl rfl (Or.inl ⟨by rfl, ?hha29x30⟩) s7 ?rha29x30
 case hha29x30 => (intro w hw; obtain ⟨a0, a1, a2, a3, b0, b1, b2⟩ := HCL.out _ hw; have heq := eqlQ; go_simp; try (with_reducible rfl))
 try simp only [Act.put, zA, zB, zC]
 refine tG (some 56) 30 ?vha30x31 rfl rfl (Or.inl ⟨by rfl, ?hha30x31⟩) s7 ?rha30x31
 case hha30x31 => (intro w hw; obtain ⟨a0, a1, a2, a3, b0, b1, b2⟩ := HCL.out _ hw; have heq := eqlQ; go_simp; try (with_reducible rfl))
 try simp only [Act.put, zA, zB, zC]
 refine tG (some 57) 31 ?vha31x32 rfl rfl (Or.inl ⟨by rfl, ?hha31x32⟩) s7 ?rha31x32
 case hha31x32 => (intro w hw; obtain ⟨a0, a1, a2, a3, b0, b1, b2⟩ := HCL.out _ hw; have heq := eqlQ; go_simp; try (with_reducible rfl))
 try simp only [Act.put, zA, zB, zC]
 refine tG (some 58) 32 ?vha32x33 rfl rfl (Or.inl ⟨by rfl, ?hha32x33⟩) s7 ?rha32x33
 case hha32x33 => (intro w hw; obtain ⟨a0, a1, a2, a3, b0, b1, b2⟩ := HCL.out _ hw; have heq := eqlQ; go_simp; try (with_reducible rfl))
 try simp only [Act.put, zA, zB, zC]
 refine tG (some 59) 33 ?vha33x34 rfl rfl (Or.inl ⟨by rfl, ?hha33x34⟩) s7 ?rha33x34
 case hha33x34 => (intro w hw; obtain ⟨a0, a1, a2, a3, b0, b1, b2⟩ := HCL.out _ hw; have heq := eqlQ; go_simp; try (with_reducible rfl))
 try simp only [Act.put, zA, zB, zC]
 refine tG (some 60) 34 ?vha34x35 rfl rfl (Or.inl ⟨by rfl, ?hha34x35⟩) s7 ?rha34x35
 case hha34x35 => (intro w hw; obtain ⟨a0, a1, a2, a3, b0, b1, b2⟩ := HCL.out _ hw; have heq := eqlQ; go_simp; try (with_reducible rfl))
 try simp only [Act.put, zA, zB, zC]
 refine tG (some 0) 35 ?vha35x36 rfl rfl (Or.inl ⟨by rfl, ?hha35x36⟩) s7 ?rha35x36
 case hha35x36 => (intro w hw; obtain ⟨a0, a1, a2, a3, b0, b1, b2⟩ := HCL.out _ hw; have heq := eqlQ; go_simp; try (with_reducible rfl))
 try simp only [Act.put, zA, zB, zC]
 refine wpAnyH_done (by kernel_rfl) ?_ _
 try simp only [Act.put]
 go_wp2_with fail
 go_ret
 exact ⟨rfl, below_then HB6.out s7⟩
end

section
open Go.RowKit
def bigN (lk ls lv lt : List (Int × Int)) (L : List Int) : Prop := 50 < lk.length ∨ 50 < ls.length ∨ 50 < lv.length ∨ 50 < lt.length ∨ 100 < L.length
instance (lk ls lv lt : List (Int × Int)) (L : List Int) : Decidable (bigN lk ls lv lt L) := by unfold bigN; infer_instance
theorem NmI.box {w w' : World} {v : Value} {F : Int → Option Int} {p : Nat} {t : TypeId} {cs : Array Value} (h : NmI w v F) (hp : BoxN w p t cs) (hg : w.grownBy w' (some p)) : NmI w' v F := by
 rcases h with ⟨rfl, rfl⟩ | ⟨b, n, c, rfl, hM⟩
 ·exact .inl ⟨rfl, rfl⟩
 ·refine .inr ⟨b, n, c, rfl, hM.kept hg (fun e => ?_)⟩
  injection e with e
  subst e
  obtain ⟨D, ⟨es, clock, hb, _⟩, _⟩ := hM
  unfold BoxN at hp
  rw [hp] at hb
  cases hb
theorem big21_any (vk vs vv vt vo : Value) (lk ls lv lt : List (Int × Int)) (L : List Int) (w : World) (hk : PrN w vk lk) (hs : PrN w vs ls) (hv : PrN w vv lv) (ht : PrN w vt lt) (ho : Ints w vo L) :
  Calls Tryz.prog 12 #[.agg #[vk, vs, vv, vt, vo]] w fun e w' => e = .returned (.bool (decide (bigN lk ls lv lt L))) ∧ Below w.heap.size w w' := by
 obtain ⟨ak, ck, rfl, _⟩ := hk.form
 obtain ⟨az, cs, rfl, _⟩ := hs.form
 obtain ⟨av, cv, rfl, _⟩ := hv.form
 obtain ⟨at_, ct, rfl, _⟩ := ht.form
 obtain ⟨ao, co, rfl, _⟩ := ho.form
 have hb1 := box_below w (.cells #[.slice ak lk.length ck, .slice az ls.length cs, .slice av lv.length cv, .slice at_ lt.length ct, .slice ao L.length co] 26)
 by_cases h0 : 50 < lk.length
 ·have HV : Hid (true = decide (bigN lk ls lv lt L)) := hid (decide_eq_true (show bigN lk ls lv lt L from .inl h0)).symm
  have z0 : (50 : Int) < (lk.length : Int) := by omega
  go_enter Tryz.func12, Tryz.ntmps12
  go_wp2_with fail
  go_ret
  exact ⟨ret_b HV.out, hb1⟩
 have z0 : ¬ (50 : Int) < (lk.length : Int) := by omega
 by_cases h1 : 50 < ls.length
 ·have HV : Hid (true = decide (bigN lk ls lv lt L)) := hid (decide_eq_true (show bigN lk ls lv lt L from .inr (.inl h1))).symm
  have z1 : (50 : Int) < (ls.length : Int) := by omega
  go_enter Tryz.func12, Tryz.ntmps12
  go_wp2_with fail
  go_ret
  exact ⟨ret_b HV.out, hb1⟩
 have z1 : ¬ (50 : Int) < (ls.length : Int) := by omega
 by_cases h2 : 50 < lv.length
 ·have HV : Hid (true = decide (bigN lk ls lv lt L)) := hid (decide_eq_true (show bigN lk ls lv lt L from .inr (.inr (.inl h2)))).symm
  have z2 : (50 : Int) < (lv.length : Int) := by omega
  go_enter Tryz.func12, Tryz.ntmps12
  go_wp2_with fail
  go_ret
  exact ⟨ret_b HV.out, hb1⟩
 have z2 : ¬ (50 : Int) < (lv.length : Int) := by omega
 by_cases h3 : 50 < lt.length
 ·have HV : Hid (true = decide (bigN lk ls lv lt L)) := hid (decide_eq_true (show bigN lk ls lv lt L from .inr (.inr (.inr (.inl h3))))).symm
  have z3 : (50 : Int) < (lt.length : Int) := by omega
  go_enter Tryz.func12, Tryz.ntmps12
  go_wp2_with fail
  go_ret
  exact ⟨ret_b HV.out, hb1⟩
 have z3 : ¬ (50 : Int) < (lt.length : Int) := by omega
 by_cases h4 : 100 < L.length
 ·have HV : Hid (true = decide (bigN lk ls lv lt L)) := hid (decide_eq_true (show bigN lk ls lv lt L from .inr (.inr (.inr (.inr (h4)))))).symm
  have z4 : (100 : Int) < (L.length : Int) := by omega
  go_enter Tryz.func12, Tryz.ntmps12
  go_wp2_with fail
  go_ret
  exact ⟨ret_b HV.out, hb1⟩
 have z4 : ¬ (100 : Int) < (L.length : Int) := by omega
 have HV : Hid (false = decide (bigN lk ls lv lt L)) := hid (decide_eq_false (fun q => by unfold bigN at q; omega)).symm
 go_enter Tryz.func12, Tryz.ntmps12
 go_wp2_with fail
 go_ret
 exact ⟨ret_b HV.out, hb1⟩
set_option linter.unusedSimpArgs false in
theorem map21_any (vk vs vv vt vo : Value) (lk ls lv lt : List (Int × Int)) (L : List Int) (w : World) (hk : PrN w vk lk) (hs : PrN w vs ls) (hv : PrN w vv lv) (ht : PrN w vt lt) (ho : Ints w vo L)
  (ik : ∀ p ∈ lk, InI p.1) (is : ∀ p ∈ ls, InI p.1) (iv : ∀ p ∈ lv, InI p.1) (it : ∀ p ∈ lt, InI p.1) (nk : lk.length ≤ 100000) (ns : ls.length ≤ 100000) (nv : lv.length ≤ 100000) (nt : lt.length ≤ 100000) :
  Calls Tryz.prog 14 #[.agg #[vk, vs, vv, vt, vo]] w fun e w' => (∃ uK uS uV uT, e = .returned (.agg #[uK, uS, uV, uT, vo]) ∧ NmA w' uK uS uV uT (ofF lk) (ofF ls) (ofF lv) (ofF lt)) ∧ Below w.heap.size w w' := by
 have Ck := hid (fun wx (hx : Below w.heap.size w wx) => lof21_any vk lk wx (hk.below hx) ik nk)
 have Cs := hid (fun wx (hx : Below w.heap.size w wx) => lof21_any vs ls wx (hs.below hx) is ns)
 have Cv := hid (fun wx (hx : Below w.heap.size w wx) => lof21_any vv lv wx (hv.below hx) iv nv)
 have Ct := hid (fun wx (hx : Below w.heap.size w wx) => lof21_any vt lt wx (ht.below hx) it nt)
 obtain ⟨ak, ck, rfl, _⟩ := hk.form
 obtain ⟨az, cs, rfl, _⟩ := hs.form
 obtain ⟨av, cv, rfl, _⟩ := hv.form
 obtain ⟨at_, ct, rfl, _⟩ := ht.form
 obtain ⟨ao, co, rfl, _⟩ := ho.form
 have hx1 := BoxN.new w 26 #[.slice ak lk.length ck, .slice az ls.length cs, .slice av lv.length cv, .slice at_ lt.length ct, .slice ao L.length co]
 have hz1 := BoxN.new (w.alloc (.cells #[.slice ak lk.length ck, .slice az ls.length cs, .slice av lv.length cv, .slice at_ lt.length ct, .slice ao L.length co] 26)) 34 #[.map none, .map none, .map none, .map none, .slice none 0 0]
 rw [show (w.alloc (.cells #[.slice ak lk.length ck, .slice az ls.length cs, .slice av lv.length cv, .slice at_ lt.length ct, .slice ao L.length co] 26)).heap.size = w.heap.size + 1 from by simp] at hz1
 have hb1 := box_below w (.cells #[.slice ak lk.length ck, .slice az ls.length cs, .slice av lv.length cv, .slice at_ lt.length ct, .slice ao L.length co] 26)
 have hb2 := hb1.alloc hb1.size (.cells #[.map none, .map none, .map none, .map none, .slice none 0 0] 34)
 have hx2 := hx1.below (box_below _ (.cells #[.map none, .map none, .map none, .map none, .slice none 0 0] 34))
 clear hk hs hv ht ho ik is iv it nk ns nv nt hx1 hb1
 obtain ⟨p2, hp2⟩ : ∃ p, w.heap.size + 1 = p := ⟨_, rfl⟩
 have HP2 := hid hp2
 rw [hp2] at hz1
 have hq2 : w.heap.size ≤ p2 := by omega
 have hq3 : w.heap.size < p2 := by omega
 clear hp2
 go_enter Tryz.func14, Tryz.ntmps14
 go_upto_region 1 with fail
 generalize (w.alloc (.cells #[.slice ak lk.length ck, .slice az ls.length cs, .slice av lv.length cv, .slice at_ lt.length ct, .slice ao L.length co] 26)).alloc (.cells #[.map none, .map none, .map none, .map none, .slice none 0 0] 34) = w2 at *
 rw [HP2.out]
 have HX := hid hx2
 have HZ := hid hz1
 clear hx2 hz1
 have kd := (Below.refl w2.heap.size w2).drew
 have HX := hid (HX.out.below kd)
 have HZ := hid (HZ.out.below kd)
 have hbd := hb2.drew
 clear kd hb2
 refine wp_region_held_drew (S := fun wx => BoxN wx w.heap.size 26 #[.slice ak lk.length ck, .slice az ls.length cs, .slice av lv.length cv, .slice at_ lt.length ct, .slice ao L.length co]) (by kernel_rfl) HX.out (fun hS0 => ?_)
 generalize w2.drew = wd at *
 refine tG (some 3) 0 ?vha0x1 rfl rfl (Or.inl ⟨by rfl, ?hha0x1⟩) hS0 ?rha0x1
 case hha0x1 => (intro w hw; have y0 := hw.cell (i := 0) rfl; have y1 := hw.cell (i := 1) rfl; have y2 := hw.cell (i := 2) rfl; have y3 := hw.cell (i := 3) rfl; have y4 := hw.cell (i := 4) rfl; go_simp; try (with_reducible rfl))
 try simp only [Act.put, zA, zB, zC]
 refine tG (some 4) 1 ?vha1x2 rfl rfl (Or.inl ⟨by rfl, ?hha1x2⟩) hS0 ?rha1x2
 case hha1x2 => (intro w hw; have y0 := hw.cell (i := 0) rfl; have y1 := hw.cell (i := 1) rfl; have y2 := hw.cell (i := 2) rfl; have y3 := hw.cell (i := 3) rfl; have y4 := hw.cell (i := 4) rfl; go_simp; try (with_reducible rfl))
 try simp only [Act.put, zA, zB, zC]
 refine tG (some 6) 3 ?vha3x3 rfl rfl (Or.inl ⟨by rfl, ?hha3x3⟩) hS0 ?rha3x3
 case hha3x3 => (intro w hw; have y0 := hw.cell (i := 0) rfl; have y1 := hw.cell (i := 1) rfl; have y2 := hw.cell (i := 2) rfl; have y3 := hw.cell (i := 3) rfl; have y4 := hw.cell (i := 4) rfl; go_simp; try (with_reducible rfl))
 try simp only [Act.put, zA, zB, zC]
 refine tG (some 7) 4 ?vha4x4 rfl rfl (Or.inl ⟨by rfl, ?hha4x4⟩) hS0 ?rha4x4
 case hha4x4 => (intro w hw; have y0 := hw.cell (i := 0) rfl; have y1 := hw.cell (i := 1) rfl; have y2 := hw.cell (i := 2) rfl; have y3 := hw.cell (i := 3) rfl; have y4 := hw.cell (i := 4) rfl; go_simp; try (with_reducible rfl))
 try simp only [Act.put, zA, zB, zC]
 refine tG (some 9) 6 ?vha6x5 rfl rfl (Or.inl ⟨by rfl, ?hha6x5⟩) hS0 ?rha6x5
 case hha6x5 => (intro w hw; have y0 := hw.cell (i := 0) rfl; have y1 := hw.cell (i := 1) rfl; have y2 := hw.cell (i := 2) rfl; have y3 := hw.cell (i := 3) rfl; have y4 := hw.cell (i := 4) rfl; go_simp; try (with_reducible rfl))
 try simp only [Act.put, zA, zB, zC]
 refine tG (some 10) 7 ?vha7x6 rfl rfl (Or.inl ⟨by rfl, ?hha7x6⟩) hS0 ?rha7x6
 case hha7x6 => (intro w hw; have y0 := hw.cell (i := 0) rfl; have y1 := hw.cell (i := 1) rfl; have y2 := hw.cell (i := 2) rfl; have y3 := hw.cell (i := 3) rfl; have y4 := hw.cell (i := 4) rfl; go_simp; try (with_reducible rfl))
 try simp only [Act.put, zA, zB, zC]
 refine tG (some 12) 9 ?vha9x7 rfl rfl (Or.inl ⟨by rfl, ?hha9x7⟩) hS0 ?rha9x7
 case hha9x7 => (intro w hw; have y0 := hw.cell (i := 0) rfl; have y1 := hw.cell (i := 1) rfl; have y2 := hw.cell (i := 2) rfl; have y3 := hw.cell (i := 3) rfl; have y4 := hw.cell (i := 4) rfl; go_simp; try (with_reducible rfl))
 try simp only [Act.put, zA, zB, zC]
 refine tG (some 13) 10 ?vha10x8 rfl rfl (Or.inl ⟨by rfl, ?hha10x8⟩) hS0 ?rha10x8
 case hha10x8 => (intro w hw; have y0 := hw.cell (i := 0) rfl; have y1 := hw.cell (i := 1) rfl; have y2 := hw.cell (i := 2) rfl; have y3 := hw.cell (i := 3) rfl; have y4 := hw.cell (i := 4) rfl; go_simp; try (with_reducible rfl))
 try simp only [Act.put, zA, zB, zC]
 refine tG (some 15) 12 ?vha12x9 rfl rfl (Or.inl ⟨by rfl, ?hha12x9⟩) hS0 ?rha12x9
 case hha12x9 => (intro w hw; have y0 := hw.cell (i := 0) rfl; have y1 := hw.cell (i := 1) rfl; have y2 := hw.cell (i := 2) rfl; have y3 := hw.cell (i := 3) rfl; have y4 := hw.cell (i := 4) rfl; go_simp; try (with_reducible rfl))
 try simp only [Act.put, zA, zB, zC]
 refine tG (some 16) 13 ?vha13x10 rfl rfl (Or.inl ⟨by rfl, ?hha13x10⟩) hS0 ?rha13x10
 case hha13x10 => (intro w hw; have y0 := hw.cell (i := 0) rfl; have y1 := hw.cell (i := 1) rfl; have y2 := hw.cell (i := 2) rfl; have y3 := hw.cell (i := 3) rfl; have y4 := hw.cell (i := 4) rfl; go_simp; try (with_reducible rfl))
 try simp only [Act.put, zA, zB, zC]
 refine rD 2 rfl (fun K hK => ?_)
 go_simp
 refine (Ck.out _ hbd).mono ?_
 rintro e w3 ⟨⟨b0, n0, c0, rfl, _, _, hm0⟩, h0⟩
 have hb3 := below_then hbd h0
 have HM0 := hid (show NmI w3 (.map (some b0)) (ofF lk) from .inr ⟨_, _, _, rfl, hm0⟩)
 have HZ := hid (HZ.out.below h0)
 have s0 := BoxN.below hS0 h0
 clear Ck hm0 h0
 show K _ _
 refine hK.out _ _ s0 (fun _ => ?_)
 clear hK K
 refine rD 5 rfl (fun K hK => ?_)
 go_simp
 refine (Cs.out _ hb3).mono ?_
 rintro e w4 ⟨⟨b1, n1, c1, rfl, _, _, hm1⟩, h1⟩
 have hb4 := below_then hb3 h1
 have HM1 := hid (show NmI w4 (.map (some b1)) (ofF ls) from .inr ⟨_, _, _, rfl, hm1⟩)
 have HM0 := hid (HM0.out.below h1)
 have HZ := hid (HZ.out.below h1)
 have s1 := BoxN.below s0 h1
 clear Cs hm1 h1
 show K _ _
 refine hK.out _ _ s1 (fun _ => ?_)
 clear hK K
 refine rD 8 rfl (fun K hK => ?_)
 go_simp
 refine (Cv.out _ hb4).mono ?_
 rintro e w5 ⟨⟨b2, n2, c2, rfl, _, _, hm2⟩, h2⟩
 have hb5 := below_then hb4 h2
 have HM2 := hid (show NmI w5 (.map (some b2)) (ofF lv) from .inr ⟨_, _, _, rfl, hm2⟩)
 have HM0 := hid (HM0.out.below h2)
 have HM1 := hid (HM1.out.below h2)
 have HZ := hid (HZ.out.below h2)
 have s2 := BoxN.below s1 h2
 clear Cv hm2 h2
 show K _ _
 refine hK.out _ _ s2 (fun _ => ?_)
 clear hK K
 refine rD 11 rfl (fun K hK => ?_)
 go_simp
 refine (Ct.out _ hb5).mono ?_
 rintro e w6 ⟨⟨b3, n3, c3, rfl, _, _, hm3⟩, h3⟩
 have hb6 := below_then hb5 h3
 have HM3 := hid (show NmI w6 (.map (some b3)) (ofF lt) from .inr ⟨_, _, _, rfl, hm3⟩)
 have HM0 := hid (HM0.out.below h3)
 have HM1 := hid (HM1.out.below h3)
 have HM2 := hid (HM2.out.below h3)
 have HZ := hid (HZ.out.below h3)
 have s3 := BoxN.below s2 h3
 clear Ct hm3 h3
 show K _ _
 refine hK.out _ _ s3 (fun _ => ?_)
 clear hK K
 refine tG (some 17) 14 ?vha14x15 rfl rfl (Or.inl ⟨by rfl, ?hha14x15⟩) s3 ?rha14x15
 case hha14x15 => (intro w hw; have y0 := hw.cell (i := 0) rfl; have y1 := hw.cell (i := 1) rfl; have y2 := hw.cell (i := 2) rfl; have y3 := hw.cell (i := 3) rfl; have y4 := hw.cell (i := 4) rfl; go_simp; try (with_reducible rfl))
 try simp only [Act.put, zA, zB, zC]
 refine rD 15 rfl (fun K hK => ?_)
 have hbP := hid (below_setRow hb6 hq2 #[.map (some b0), .map (some b1), .map (some b2), .map (some b3), .slice ao L.length co])
 have hgr := grown_setRow w6 p2 #[.map (some b0), .map (some b1), .map (some b2), .map (some b3), .slice ao L.length co]
 have hinf : (Tryz.prog.info? 34).map (·.size) = some (#[.map (some b0), .map (some b1), .map (some b2), .map (some b3), .slice ao L.length co] : Array Value).size := (show (Tryz.prog.info? 34).map (·.size) = some 5 by kernel_rfl)
 have HNA : Hid (NmA (w6.setRow p2 #[.map (some b0), .map (some b1), .map (some b2), .map (some b3), .slice ao L.length co]) (.map (some b0)) (.map (some b1)) (.map (some b2)) (.map (some b3)) (ofF lk) (ofF ls) (ofF lv) (ofF lt)) := hid ⟨HM0.out.box HZ.out hgr, HM1.out.box HZ.out hgr, HM2.out.box HZ.out hgr, HM3.out.box HZ.out hgr⟩
 have HPB := hid HZ.out
 rw [if_pos (by rfl)]
 refine wp_store_row 34 _ _ rfl p2 #[.map (some b0), .map (some b1), .map (some b2), .map (some b3), .slice ao L.length co] rfl rfl _ _ HZ.out hinf rfl (by simp [Value.oneCell']) ?_
 have s9 := (setRow_other w6 p2 w.heap.size #[.map (some b0), .map (some b1), .map (some b2), .map (some b3), .slice ao L.length co] (by omega)).trans s3
 refine hK.out _ _ s9 (fun _ => ?_)
 clear hK K hgr
 refine wpAnyH_done (by kernel_rfl) ?_ _
 try simp only [Act.put]
 go_wp2_with fail
 refine bodyPost_ret (v := .agg #[.map (some b0), .map (some b1), .map (some b2), .map (some b3), .slice ao L.length co]) (results_cell_row rfl _ _ p2 _ #[.map (some b0), .map (some b1), .map (some b2), .map (some b3), .slice ao L.length co] _ _ rfl (setRow_heap _ _ _ _ _ _ HPB.out) Tryz.underlying34 rfl hinf) rfl ?_
 exact ⟨⟨_, _, _, _, rfl, HNA.out⟩, hbP.out⟩
end

section
open Go.RowKit
theorem okN_putF {F : Int → Option Int} (hF : OkN F) {k v : Int} (hv : IntOk v) : OkN (putF F k v) := fun x hx => by
 have q := hF x hx
 unfold nmF putF at *
 by_cases e : x = k
 ·rw [if_pos e]; exact hv
 ·rw [if_neg e]; exact q
theorem okN_fold : ∀ (l : List (Int × Int)) (F : Int → Option Int), OkN F → (∀ p ∈ l, IntOk p.2) → OkN (l.foldl (fun f p => putF f p.1 p.2) F)
 | [], _, hF, _ => hF
 | p :: l, _, hF, h => okN_fold l _ (okN_putF hF (h p List.mem_cons_self)) (fun q hq => h q (List.mem_cons_of_mem _ hq))
theorem okN_of {l : List (Int × Int)} (h : ∀ p ∈ l, IntOk p.2) : OkN (ofF l) := okN_fold l _ okN_none h
end

section
open Go.RowKit
theorem rkeeps21_walk (va vk vs vv vt vo : Value) (h : List TxnV) (lk ls lv lt : List (Int × Int)) (L : List Int) (w : World) (htb : Tab w) (hK : Kinds w) (hT : Txns w va h) (hok : ∀ t ∈ h, t.ok) (hsh : Short h)
  (hk : PrN w vk lk) (hs : PrN w vs ls) (hv : PrN w vv lv) (ht : PrN w vt lt) (ho : Ints w vo L) (ik : ∀ p ∈ lk, IntOk p.1 ∧ IntOk p.2) (is : ∀ p ∈ ls, IntOk p.1 ∧ IntOk p.2) (iv : ∀ p ∈ lv, IntOk p.1 ∧ IntOk p.2) (it : ∀ p ∈ lt, IntOk p.1 ∧ IntOk p.2) :
  Calls Tryz.prog 3 #[va, .agg #[vk, vs, vv, vt, vo]] w fun e w' => e = .returned (.bool true) ∧ Below w.heap.size w w' := by
 have hg := htb.pos
 have HT : Hid (∀ wx, Below w.heap.size w wx → Tab wx ∧ Kinds wx) := hid (fun wx hb => ⟨htb.below hb hg, hK.below hb⟩)
 have HH := hid (fun wx (hx : Below w.heap.size w wx) => hT.below hx)
 have CB := hid (fun wx (hx : Below w.heap.size w wx) => big21_any vk vs vv vt vo lk ls lv lt L wx (hk.below hx) (hs.below hx) (hv.below hx) (ht.below hx) (ho.below hx))
 have CM := hid (fun (nk : lk.length ≤ 100000) (ns : ls.length ≤ 100000) (nv : lv.length ≤ 100000) (nt : lt.length ≤ 100000) wx (hx : Below w.heap.size w wx) => map21_any vk vs vv vt vo lk ls lv lt L wx (hk.below hx) (hs.below hx) (hv.below hx) (ht.below hx) (ho.below hx) (fun p hp => inI_of (ik p hp).1) (fun p hp => inI_of (is p hp).1) (fun p hp => inI_of (iv p hp).1) (fun p hp => inI_of (it p hp).1) nk ns nv nt)
 have HOL := hid (fun wx (hx : Below w.heap.size w wx) => ho.below hx)
 have fk := hid (okN_of fun p hp => (ik p hp).2)
 have fs := hid (okN_of fun p hp => (is p hp).2)
 have fv := hid (okN_of fun p hp => (iv p hp).2)
 have ft := hid (okN_of fun p hp => (it p hp).2)
 obtain ⟨ha, cap, rfl, hal⟩ := hT.form
 obtain ⟨ak, ck, rfl, _⟩ := hk.form
 obtain ⟨az, cs, rfl, _⟩ := hs.form
 obtain ⟨av, cv, rfl, _⟩ := hv.form
 obtain ⟨at_, ct, rfl, _⟩ := ht.form
 obtain ⟨ao, co, rfl, _⟩ := ho.form
 have HOK := hid hok
 have HSH := hid hsh
 have hx0 := BoxN.new w 26 #[.slice ak lk.length ck, .slice az ls.length cs, .slice av lv.length cv, .slice at_ lt.length ct, .slice ao L.length co]
 have hb0 := box_below w (.cells #[.slice ak lk.length ck, .slice az ls.length cs, .slice av lv.length cv, .slice at_ lt.length ct, .slice ao L.length co] 26)
 clear htb hK hT hok hk hs hv ht ho ik is iv it
 go_enter Tryz.func3, Tryz.ntmps3
 go_upto_region 1 with fail
 generalize w.alloc (.cells #[.slice ak lk.length ck, .slice az ls.length cs, .slice av lv.length cv, .slice at_ lt.length ct, .slice ao L.length co] 26) = w0 at *
 have HX := hid hx0
 have C0 := hid (speaks21_any w0)
 clear hx0
 go_wp2_with fail
 refine (C0.out).mono ?_
 rintro e w1 ⟨rfl, h1⟩
 have hb1 := below_then hb0 h1
 have HX := hid (HX.out.below h1)
 clear C0 h1 hb0
 by_cases h5 : 6 < h.length
 ·have h5i : (6 : Int) < (h.length : Int) := by omega
  clear hsh
  go_wp2_with fail
  go_ret
  exact ⟨rfl, hb1⟩
 have h5i : ¬ (6 : Int) < (h.length : Int) := by omega
 have CC := hid (rcheck_any _ h w1 (HH.out _ hb1) hsh)
 rw [← check_ref] at CC
 by_cases hc : checkI h = 0
 rotate_left
 ·have hcn : ¬ checkI h = 0 := hc
  generalize checkI h = c at *
  have hcb : (c != 0) = true := by rw [bne_iff_ne]; exact hcn
  clear hsh hc
  go_wp2_with fail
  refine (CC.out).mono ?_
  rintro e w2 ⟨rfl, hb2⟩
  have hb2 := below_then hb1 hb2
  go_wp2_with fail
  go_ret
  exact ⟨rfl, hb2⟩
 rw [hc] at CC
 go_wp2_with fail
 refine (CC.out).mono ?_
 rintro e w2 ⟨rfl, h2⟩
 have hb2 := below_then hb1 h2
 have HX := hid (HX.out.below h2)
 have y0 := HX.out.cell (i := 0) rfl
 have y1 := HX.out.cell (i := 1) rfl
 have y2 := HX.out.cell (i := 2) rfl
 have y3 := HX.out.cell (i := 3) rfl
 have y4 := HX.out.cell (i := 4) rfl
 have CB2 := hid (CB.out _ hb2)
 clear CB CC h2 hb1
 obtain ⟨q, hq⟩ : ∃ q, decide (bigN lk ls lv lt L) = q := ⟨_, rfl⟩
 rw [hq] at CB2
 have HQ := hid hq
 clear hq
 go_wp2_with fail
 refine CB2.out.mono ?_
 rintro e w3 ⟨rfl, h3⟩
 have hb3 := below_then hb2 h3
 have HX := hid (HX.out.below h3)
 clear CB2 h3 hb2 y0 y1 y2 y3 y4
 cases q with
 | true =>
  go_wp2_with fail
  go_ret
  exact ⟨rfl, hb3⟩
 | false =>
 have hnb : ¬ bigN lk ls lv lt L := of_decide_eq_false HQ.out
 have HNB : Hid (lk.length ≤ 50 ∧ ls.length ≤ 50 ∧ lv.length ≤ 50 ∧ lt.length ≤ 50 ∧ L.length ≤ 100) := hid (by unfold bigN at hnb; omega)
 have CM3 := hid (CM.out (by have := HNB.out; omega) (by have := HNB.out; omega) (by have := HNB.out; omega) (by have := HNB.out; omega) _ hb3)
 have y0 := HX.out.cell (i := 0) rfl
 have y1 := HX.out.cell (i := 1) rfl
 have y2 := HX.out.cell (i := 2) rfl
 have y3 := HX.out.cell (i := 3) rfl
 have y4 := HX.out.cell (i := 4) rfl
 clear CM HQ hnb
 go_wp2_with fail
 refine CM3.out.mono ?_
 rintro e w4 ⟨⟨uK, uS, uV, uT, rfl, hN⟩, h4⟩
 have hb4 := below_then hb3 h4
 have CA := hid (rapply_any _ uK uS uV uT _ (ofF lk) (ofF ls) (ofF lv) (ofF lt) L h w4 hN (HOL.out _ hb4) (by have := HNB.out; omega) (HH.out _ hb4) HOK.out HSH.out fk.out fs.out fv.out ft.out)
 clear CM3 h4 hb3 hN y0 y1 y2 y3 y4 HOL HNB fk fs fv ft HX
 go_wp2_with fail
 refine CA.out.mono ?_
 rintro e w5 ⟨hq, h5'⟩
 have hb5 := below_then hb4 h5'
 clear CA h5' hb4
 rcases hq with ⟨hap, v, rfl, c, hM, hce⟩ | ⟨_, rfl⟩
 case inr =>
  go_wp2_with fail
  go_ret
  exact ⟨rfl, hb5⟩
 have HTX := hid (fun wx (hx : Below w5.heap.size w5 wx) => hM.txns.below hx)
 obtain ⟨xa, xc, rfl, _⟩ := hM.txns.form
 have hcc := app_check hap hce
 have hacc : accV c = accV h := by funext l; exact app_dec hap hce (l : Int)
 have hcl : c.length = h.length := by have q := congrArg List.length hce; rw [List.length_map, namL_len] at q; exact q
 have HCC := hid hcc
 have HACC := hid hacc
 have HCL := hid hcl
 have H6 : Hid (h.length ≤ 6) := hid (by omega)
 have hTK := HT.out _ hb5
 have CO1 := hid (lawof_any _ h w5 (HH.out _ hb5) HOK.out HSH.out hc hTK.1 hTK.2 (vec_few (h := h) (by omega)))
 have HT5 := hid (fun wx (hx : Below w5.heap.size w5 wx) => HT.out wx (below_then hb5 hx))
 have HB5 := hid hb5
 clear hM hap hce hcc hacc hcl hc hsh hTK HH HT hb5
 go_wp2_with fail
 refine CO1.out.mono ?_
 rintro e w7 ⟨⟨B, ws, rfl, hOr, hW⟩, h7⟩
 obtain ⟨V8, hb8, hth⟩ := vec_put w7 (accV h) ws
 have hone := hW.one (accV h)
 have hinf := info_vecA (accV h) ws
 have hinf2 := info_vec (accV h) ws
 have h8 := below_then h7 hb8
 clear CO1 hOr hW h7 hb8
 go_upto_region 9 with (with_reducible refine wpList_store_mid rfl 44 _ _ rfl w7.heap.size 0 (vecL (accV h) ws).toArray rfl rfl hth hinf hone ?_)
 generalize (w7.alloc (.cells #[.bool false, .bool false, .bool false, .bool false, .bool false, .bool false, .bool false, .bool false, .bool false, .bool false, .bool false, .bool false, .slice none 0 0, .slice none 0 0, .slice none 0 0, .slice none 0 0, .slice none 0 0, .slice none 0 0, .slice none 0 0, .slice none 0 0, .slice none 0 0, .slice none 0 0, .slice none 0 0, .slice none 0 0, .slice none 0 0, .slice none 0 0, .slice none 0 0, .slice none 0 0, .slice none 0 0, .slice none 0 0, .slice none 0 0, .slice none 0 0, .slice none 0 0, .slice none 0 0, .slice none 0 0, .slice none 0 0] 44)).setCells w7.heap.size 0 (vecL (accV h) ws) = w8 at *
 generalize w7.heap.size = x8 at *
 clear hth hone hinf
 have CO2 := hid (lawof_any _ c w8 (HTX.out _ h8) (can_ok HCC.out) (can_short HCC.out) HCC.out (HT5.out _ h8).1 (HT5.out _ h8).2 (vec_few (by have := H6.out; have := HCL.out; omega)))
 rw [HACC.out] at CO2
 clear HTX HCL HACC
 go_wp2_with fail
 refine CO2.out.mono ?_
 rintro e w9 ⟨⟨B2, us, rfl, hOr, hW⟩, h10⟩
 obtain ⟨V10, hb10, hth⟩ := vec_put w9 (accV h) us
 have hone := by have := hW.one (accV h); exact this
 have hinf := info_vecA (accV h) us
 have hinf3 := info_vec (accV h) us
 have h11 := below_then h10 hb10
 have V11 := V8.below h11 V8.lt
 have h12 := below_then h8 h11
 clear CO2 hOr hW h10 hb10 V8 h8 h11
 go_upto_region 10 with (with_reducible refine wpList_store_mid rfl 44 _ _ rfl w9.heap.size 0 (vecL (accV h) us).toArray rfl rfl hth hinf hone ?_)
 generalize (w9.alloc (.cells #[.bool false, .bool false, .bool false, .bool false, .bool false, .bool false, .bool false, .bool false, .bool false, .bool false, .bool false, .bool false, .slice none 0 0, .slice none 0 0, .slice none 0 0, .slice none 0 0, .slice none 0 0, .slice none 0 0, .slice none 0 0, .slice none 0 0, .slice none 0 0, .slice none 0 0, .slice none 0 0, .slice none 0 0, .slice none 0 0, .slice none 0 0, .slice none 0 0, .slice none 0 0, .slice none 0 0, .slice none 0 0, .slice none 0 0, .slice none 0 0, .slice none 0 0, .slice none 0 0, .slice none 0 0, .slice none 0 0] 44)).setCells w9.heap.size 0 (vecL (accV h) us) = w10 at *
 generalize w9.heap.size = x10 at *
 have hall1 := V11.all
 have hall2 := V10.all
 have CS := hid (vsame_any (accV h) (accV h) ws us w10)
 rw [eqlB_one (fun _ _ => rfl)] at CS
 have HZ := hid (below_then HB5.out h12)
 clear hth hone hinf V10 V11 h12
 go_wp2_with (first | (with_reducible refine wpList_load_midG 44 _ rfl (by kernel_rfl) x8 0 rfl (vecL (accV h) ws) _ hall1 Tryz.underlying44 rfl hinf2 ?_) | (with_reducible refine wpList_load_midG 44 _ rfl (by kernel_rfl) x10 0 rfl (vecL (accV h) us) _ hall2 Tryz.underlying44 rfl hinf3 ?_))
 refine CS.out.mono ?_
 rintro e w11 ⟨rfl, h13⟩
 have hz := below_then HZ.out h13
 clear CS hall1 hall2 h13
 go_wp2_with fail
 go_ret
 exact ⟨rfl, hz⟩
end

end Go.Proofs.YtnhkjehfmbfmmaaGreatDoor
