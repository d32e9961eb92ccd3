/- Walks and plain facts that the proof of the statement VectorFuel uses, joined: TblC VecE VecF VecG VecH VecI. Conditions: each theorem's own. -/
import Derived.Test.YtmcicfdnmfbimaaGreatDoorPVectorFuel2
import Derived.Test.YtmcicfdnmfbimaaGreatDoorPVectorFuel7
import Derived.Test.YtmcicfdnmfbimaaGreatDoorPVectorFuel8
namespace Go.Proofs.YtmcicfdnmfbimaaGreatDoor
set_option maxHeartbeats 32000000
set_option maxRecDepth 100000
open Lib (hid)
section
open Go.RowKit
def abvTo (r : Nat → Bool) (b : Int) (k : Nat) : Bool := (List.range k).any fun a => r a && (decide ((a : Int) ≠ b) && impB (a : Int) b)
def abv (r : Nat → Bool) (b : Int) : Bool := abvTo r b 12
theorem abvTo_succ (r : Nat → Bool) (b : Int) (k : Nat) : abvTo r b (k + 1) = (abvTo r b k || (r k && (decide ((k : Int) ≠ b) && impB (k : Int) b))) := by
 unfold abvTo; rw [List.range_succ, List.any_append]; simp
theorem abvTo_hit {r : Nat → Bool} {b : Int} {k : Nat} (hk : k < 12) (h : (r k && (decide ((k : Int) ≠ b) && impB (k : Int) b)) = true) : abv r b = true := List.any_eq_true.2 ⟨k, List.mem_range.2 hk, h⟩
theorem above_any (r : Nat → Bool) (b : Int) (w : World) (hK : Kinds w) : Calls Tryz.prog 122 #[.agg (rowB r), .int .i64 b] w fun e w' => e = .returned (.bool (abv r b)) ∧ Below w.heap.size w w' := by
 have HK := hid (fun wx (hb : Below w.heap.size w wx) => hK.below hb)
 clear hK
 go_enter Tryz.func122, Tryz.ntmps122
 go_wp2_with fail
 go_loopw [6] (fun i wr => ∃ k : Nat, k ≤ 12 ∧ i = .int .i64 k ∧ abvTo r b k = false ∧ BRow wr w.heap.size r ∧ Below w.heap.size w wr) (fun i _ => 12 - (intOf i).toNat)
 case atStart => exact ⟨0, by omega, rfl, rfl, BRow.made w r rfl rfl, (Below.refl w.heap.size w).alloc (Nat.le_refl _) _⟩
 case round =>
  obtain ⟨k, hk, rfl, hno, h0, hb⟩ := hrel
  have HNO := hid hno
  clear hno
  by_cases hlt : k < 12
  ·have hki : (k : Int) < 12 := by omega
   have hc := h0.cell hlt
   have HS := hid (abvTo_succ r b k)
   have HH := hid (fun h => abvTo_hit (r := r) (b := b) hlt h)
   have CI := hid (limp_any (k : Int) b wr (HK.out _ hb))
   rw [HNO.out] at HS
   cases hr : r k
   ·rw [hr] at hc HS
    clear hr HH CI
    have HM : Hid (abvTo r b (k + 1) = false) := hid (by rw [HS.out]; rfl)
    go_wp2_with fail
    go_roundw
    case rel => exact ⟨k + 1, by omega, by go_num, HM.out, h0, hb⟩
    case measure => simp [intOf]; omega
   ·rw [hr] at hc HS HH
    clear hr
    by_cases hkb : (k : Int) = b
    ·have HM : Hid (abvTo r b (k + 1) = false) := hid (by rw [HS.out, decide_eq_false (by simpa using hkb)]; rfl)
     have hkb' : ((k : Int) == b) = true := by rw [beq_iff_eq]; exact hkb
     clear hkb HH CI HS
     go_wp2_with fail
     ·go_roundw
      case rel => exact ⟨k + 1, by omega, by go_num, HM.out, h0, hb⟩
      case measure => simp [intOf]; omega
     ·exact absurd (beq_iff_eq.1 hkb') (by assumption)
    ·rw [decide_eq_true (show (k : Int) ≠ b from hkb)] at HS HH
     cases hm : impB (k : Int) b
     ·rw [hm] at CI HS
      have HM : Hid (abvTo r b (k + 1) = false) := hid (by rw [HS.out]; rfl)
      clear hm HH HS
      go_wp2_with (go_at_call 46; refine (CI.out).mono ?_; rintro e w' ⟨rfl, rfl⟩)
      go_roundw
      case rel => exact ⟨k + 1, by omega, by go_num, HM.out, h0, hb⟩
      case measure => simp [intOf]; omega
     ·rw [hm] at CI HH
      have HM : Hid (true = abv r b) := hid (HH.out rfl).symm
      clear hm HH HS
      go_wp2_with (go_at_call 46; refine (CI.out).mono ?_; rintro e w' ⟨rfl, rfl⟩)
      go_ret
      exact ⟨lret_b HM.out, hb⟩
  ·have hkn : k = 12 := by omega
   subst hkn
   have HM : Hid (false = abv r b) := hid HNO.out.symm
   go_wp2_with fail
   go_ret
   exact ⟨lret_b HM.out, hb⟩
theorem wpList_load_rowB_g {ops : Array Oper} {rest : List Oper} {o : Oper} {a : Act} {w : World} {Q : Exit → Act → World → Prop} {g : Nat} {r : Nat → Bool} (h : BRow w g r) (x : Operand) (ho : o.op = .load 49 x)
  (hw : Region.wanted o (yielded ops a.tmps) = true) (hx : a.eval x = .pointer (some ⟨g, 0, none⟩)) (hn : wpList Tryz.prog ops Q rest (a.put o.dst (.agg (rowB r))) w) : wpList Tryz.prog ops Q (o :: rest) a w :=
 wpList_step fun K hK => by rw [if_pos hw]; exact wp_load_row 49 x ho g hx _ (rowB r) _ _ h Tryz.underlying49 rfl (infoRow' _) (hK _ _ hn)
def clsTo (r : Nat → Bool) (k : Nat) : Bool := (List.range k).all fun b => !(!r b && abv r (b : Int))
def cls (r : Nat → Bool) : Bool := clsTo r 12
theorem clsTo_succ (r : Nat → Bool) (k : Nat) : clsTo r (k + 1) = (clsTo r k && !(!r k && abv r (k : Int))) := by
 unfold clsTo; rw [List.range_succ, List.all_append]; simp
theorem cls_no {r : Nat → Bool} {k : Nat} (hk : k < 12) (h : (!(!r k && abv r (k : Int))) = false) : cls r = false := by
 unfold cls clsTo
 rw [List.all_eq_false]
 exact ⟨k, List.mem_range.2 hk, by rw [h]; simp⟩
theorem tclosed_any (r : Nat → Bool) (w : World) (hK : Kinds w) : Calls Tryz.prog 73 #[.agg (rowB r)] w fun e w' => e = .returned (.bool (cls r)) ∧ Below w.heap.size w w' := by
 have HK := hid (fun wx (hb : Below w.heap.size w wx) => hK.below hb)
 clear hK
 go_enter Tryz.func73, Tryz.ntmps73
 go_wp2_with fail
 go_loopw [4] (fun i wr => ∃ k : Nat, k ≤ 12 ∧ i = .int .i64 k ∧ clsTo r k = true ∧ BRow wr w.heap.size r ∧ Below w.heap.size w wr) (fun i _ => 12 - (intOf i).toNat)
 case atStart => exact ⟨0, by omega, rfl, rfl, BRow.made w r rfl rfl, (Below.refl w.heap.size w).alloc (Nat.le_refl _) _⟩
 case round =>
  obtain ⟨k, hk, rfl, hno, h0, hb⟩ := hrel
  have HNO := hid hno
  clear hno
  by_cases hlt : k < 12
  ·have hki : (k : Int) < 12 := by omega
   have hc := h0.cell hlt
   have HS := hid (clsTo_succ r k)
   have HH := hid (fun h => cls_no (r := r) hlt h)
   have CI := hid (above_any r (k : Int) wr (HK.out _ hb))
   rw [HNO.out] at HS
   have h2 : ∀ wx, Below wr.heap.size wr wx → BRow wx w.heap.size r := fun wx hx => h0.below hx h0.lt
   have H2 := hid h2
   have HB := hid (fun wx (hx : Below wr.heap.size wr wx) => hb.trans (hx.mono hb.size))
   clear h2
   cases hr : r k
   ·rw [hr] at hc HS HH
    clear hr
    cases hm : abv r (k : Int)
    ·rw [hm] at CI HS
     have HM : Hid (clsTo r (k + 1) = true) := hid (by rw [HS.out]; rfl)
     clear hm HH HS
     go_wp2_with (first
      | (with_reducible refine wpList_load_rowB_g h0 _ rfl (by kernel_rfl) rfl ?_)
      | (go_at_call 122; refine (CI.out).mono ?_; rintro e w' ⟨rfl, hbb⟩))
     go_roundw
     case rel => exact ⟨k + 1, by omega, by go_num, HM.out, H2.out _ hbb, HB.out _ hbb⟩
     case measure => simp [intOf]; omega
    ·rw [hm] at CI HH
     have HM : Hid (false = cls r) := hid (HH.out rfl).symm
     clear hm HH HS
     go_wp2_with (first
      | (with_reducible refine wpList_load_rowB_g h0 _ rfl (by kernel_rfl) rfl ?_)
      | (go_at_call 122; refine (CI.out).mono ?_; rintro e w' ⟨rfl, hbb⟩))
     go_ret
     exact ⟨lret_b HM.out, HB.out _ hbb⟩
   ·rw [hr] at hc HS
    clear hr HH
    have HM : Hid (clsTo r (k + 1) = true) := hid (by rw [HS.out]; rfl)
    go_wp2_with fail
    go_roundw
    case rel => exact ⟨k + 1, by omega, by go_num, HM.out, h0, hb⟩
    case measure => simp [intOf]; omega
  ·have hkn : k = 12 := by omega
   subst hkn
   have HM : Hid (true = cls r) := hid HNO.out.symm
   go_wp2_with fail
   go_ret
   exact ⟨lret_b HM.out, hb⟩
end

section
open Go.RowKit
def eqlB (r s : Nat → Bool) : Bool := (List.range 12).all fun i => r i == s i
theorem eqlB_one {r s : Nat → Bool} (h : ∀ i, i < 12 → r i = s i) : eqlB r s = true := by
 unfold eqlB
 rw [List.all_eq_true]
 intro i hi
 rw [h i (List.mem_range.1 hi)]; simp
theorem items_rowB2 (r s : Nat → Bool) (w : World) : ∀ (is : List Nat), (∀ i ∈ is, i < 12) → (Op.eqItems 9999 4 1 (rowB r) (rowB s) is).run Tryz.prog w = .ok (is.all fun i => r i == s i) w
 | [], _ => by simp [Op.eqItems]
 | i :: is, h => by
  have hi := h i List.mem_cons_self
  have h1 := rowB_at r hi
  have h2 := rowB_at s hi
  have ih := items_rowB2 r s w is (fun j hj => h j (List.mem_cons_of_mem _ hj))
  have hp : (part 4 (rowB r) (i * 1)).run Tryz.prog w = .ok (.bool (r i)) w := by
   simp [part, isAgg, Sem.run_bind, run_underlying Tryz.underlying4 w, h1]
  have hq : (part 4 (rowB s) (i * 1)).run Tryz.prog w = .ok (.bool (s i)) w := by
   simp [part, isAgg, Sem.run_bind, run_underlying Tryz.underlying4 w, h2]
  have he : (Op.equalIn (9998 + 1) 4 (.bool (r i)) (.bool (s i))).run Tryz.prog w = .ok (r i == s i) w := by
   rw [run_equalIn_bool w 9998 4 _ _ Tryz.underlying4]
  simp only [Op.eqItems, Sem.run_bind, hp, hq, Result.andThen_ok, List.all_cons]
  rw [he]
  cases hrs : (r i == s i) with
  | true =>
   simp only [Result.andThen_ok, Bool.not_true, Bool.false_eq_true, if_false, Bool.true_and]
   exact ih
  | false => simp
theorem run_eql_rowB2 (r s : Nat → Bool) (w : World) : (binOp .eql 49 (.agg (rowB r)) (.agg (rowB s))).run Tryz.prog w = .ok (.bool (eqlB r s)) w := by
 obtain ⟨i, hi, _⟩ := Option.map_eq_some_iff.1 infoBool
 have hc : Tryz.prog.cellsOf 4 = 1 := by kernel_rfl
 rw [run_eql_struct, run_equalIn_array w 9999 (rowB r) (rowB s) Tryz.underlying49 hi, hc, items_rowB2 r s w _ (fun i hi => List.mem_range.1 hi)]
 rfl
theorem wpList_load_midG {P : Program} {ops : Array Oper} {rest : List Oper} {op : Oper} {a : Act} {w : World} {Q : Exit → Act → World → Prop} (ty : TypeId) (x : Operand) (ho : op.op = .load ty x) (hw : Region.wanted op (yielded ops a.tmps) = true)
  (b o : Nat) (hx : a.eval x = .pointer (some ⟨b, o, none⟩)) (cs : List Value) (d : TypeDesc) (hc : w.rangeAt b o cs)
  (hu : P.underlying ty = some d) (hd : d.isRow = true) (hi : (P.info? ty).map (·.size) = some cs.length)
  (h : wpList P ops Q rest (a.put op.dst (.agg cs.toArray)) w) : wpList P ops Q (op :: rest) a w :=
 wpList_step fun K hK => by rw [if_pos hw]; exact wp_load_mid ty x ho b o hx cs d hc hu hd hi (hK _ _ h)
theorem VecAt.boxed (w : World) (r : Nat → Bool) (ws : Nat → Value × Value) : VecAt (w.alloc (.cells (vecL r ws).toArray 52)) w.heap.size r ws := VecAt.made w _ r ws
theorem vsame_any (r s : Nat → Bool) (ws us : Nat → Value × Value) (w : World) :
  Calls Tryz.prog 26 #[.agg (vecL r ws).toArray, .agg (vecL s us).toArray] w fun e w' => e = .returned (.bool (eqlB r s)) ∧ Below w.heap.size w w' := by
 have v1 := VecAt.boxed w r ws
 have b1 := box_below w (.cells (vecL r ws).toArray 52)
 have v2 := VecAt.boxed (w.alloc (.cells (vecL r ws).toArray 52)) s us
 have b2 := box_below (w.alloc (.cells (vecL r ws).toArray 52)) (.cells (vecL s us).toArray 52)
 have hs : (w.alloc (.cells (vecL r ws).toArray 52)).heap.size = w.heap.size + 1 := by simp
 have v1 := v1.below b2 (by rw [hs]; omega)
 rw [hs] at v2
 have hb := below_then b1 b2
 have G0 := fun (x y : Operand) (w : World) => guard_rowB .eql x y r s w
 have E0 := fun (w : World) => run_eql_rowB2 r s w
 have r1 := v1.row
 have r2 := v2.row
 clear b1 b2 hs v1 v2
 go_enter Tryz.func26, Tryz.ntmps26
 go_upto_region 1 with fail
 generalize (w.alloc (.cells (vecL r ws).toArray 52)).alloc (.cells (vecL s us).toArray 52) = w2 at *
 go_wp2_with (first
  | (with_reducible refine wpList_load_mid rfl 49 _ rfl w.heap.size 0 rfl (rowB r).toList _ r1 Tryz.underlying49 rfl (by kernel_rfl) ?_)
  | (with_reducible refine wpList_load_mid rfl 49 _ rfl (w.heap.size + 1) 0 rfl (rowB s).toList _ r2 Tryz.underlying49 rfl (by kernel_rfl) ?_))
 go_ret
 exact ⟨rfl, hb⟩
theorem vempty_any (oo so : Option Addr) (n m oc sc : Nat) (w : World) :
  Calls Tryz.prog 77 #[.agg #[.slice oo n oc, .slice so m sc]] w fun e w' => e = .returned (.bool (decide (n = 0) && decide (m = 0))) ∧ Below w.heap.size w w' := by
 have W1 := WitT.made w (.slice oo n oc) (.slice so m sc) 39
 have hb := box_below w (.cells #[.slice oo n oc, .slice so m sc] 39)
 have HE : ∀ k : Nat, (((k : Nat) : Int) == 0) = decide (k = 0) := fun k => by rw [Bool.eq_iff_iff, beq_iff_eq, decide_eq_true_eq]; omega
 have HN := hid (HE n)
 have HM := hid (HE m)
 clear HE
 obtain ⟨c0, c1⟩ := W1
 cases hn : decide (n = 0) with
 | false =>
  rw [hn] at HN
  have hn1 := HN.out
  have hn2 : ¬ (n : Int) = 0 := by have := of_decide_eq_false hn; omega
  clear hn HM
  go_enter Tryz.func77, Tryz.ntmps77
  go_wp2_with fail
  go_ret
  exact ⟨rfl, hb⟩
 | true =>
  rw [hn] at HN
  have hn1 := HN.out
  have hn2 : (n : Int) = 0 := by have := of_decide_eq_true hn; omega
  have hm1 := HM.out
  generalize decide (m = 0) = q at *
  clear hn
  go_enter Tryz.func77, Tryz.ntmps77
  go_wp2_with fail
  go_ret
  refine ⟨?_, hb⟩
  simp
end

section
open Go.RowKit
def vrgAt (h : List TxnV) (r : Nat → Bool) (lo : Nat → List Int) (ls : Nat → List (List Int)) (i : Nat) : Bool := if r i = true then acceptsB h (i : Int) (lo i) (ls i) else decide ((lo i).length = 0) && decide ((ls i).length = 0)
def vrgTo (h : List TxnV) (r : Nat → Bool) (lo : Nat → List Int) (ls : Nat → List (List Int)) (k : Nat) : Bool := (List.range k).all (vrgAt h r lo ls)
def vrgB (h : List TxnV) (r : Nat → Bool) (lo : Nat → List Int) (ls : Nat → List (List Int)) : Bool := vrgTo h r lo ls 12 && cls r
theorem vrgTo_succ (h : List TxnV) (r : Nat → Bool) (lo : Nat → List Int) (ls : Nat → List (List Int)) (k : Nat) : vrgTo h r lo ls (k + 1) = (vrgTo h r lo ls k && vrgAt h r lo ls k) := by
 unfold vrgTo; rw [List.range_succ, List.all_append]; simp
theorem vrg_no {h : List TxnV} {r : Nat → Bool} {lo : Nat → List Int} {ls : Nat → List (List Int)} {k : Nat} (hk : k < 12) (hn : vrgAt h r lo ls k = false) : vrgB h r lo ls = false := by
 have : vrgTo h r lo ls 12 = false := by
  unfold vrgTo
  rw [List.all_eq_false]
  exact ⟨k, List.mem_range.2 hk, by rw [hn]; simp⟩
 unfold vrgB
 rw [this]; rfl
theorem vright_any (h : List TxnV) (B b : Nat) (r : Nat → Bool) (ws : Nat → Value × Value) (lo : Nat → List Int) (ls : Nat → List (List Int)) (w : World) (hO : OrdIs w B b h) (hc : checkI h = 0) (ht : Tab w) (hK : Kinds w)
  (hI : ∀ i, i < 12 → Ints w (ws i).1 (lo i)) (hL : ∀ i, i < 12 → Lists w (ws i).2 (ls i)) :
  Calls Tryz.prog 27 #[.agg (vecL r ws).toArray, .pointer (some ⟨B, 0, none⟩)] w fun e w' => e = .returned (.bool (vrgB h r lo ls)) ∧ Below w.heap.size w w' := by
 have hg := ht.pos
 have CA := hid (fun (k : Nat) wx (hk : k < 12) (hx : Below w.heap.size w wx) => aaccepts_any (k : Int) (ws k).1 (ws k).2 (lo k) (ls k) h B b wx (hO.below hx) hc (ht.below hx hg) (hK.below hx) ((hI k hk).below hx) ((hL k hk).below hx))
 have CC := hid (fun wx (hx : Below w.heap.size w wx) => tclosed_any r wx (hK.below hx))
 have HF : Hid (∀ k, k < 12 → ∃ oo oc so sc, ws k = (.slice oo (lo k).length oc, .slice so (ls k).length sc)) := hid (fun k hk => by
  obtain ⟨oo, oc, e1, _⟩ := (hI k hk).form
  obtain ⟨so, sc, e2, _⟩ := (hL k hk).form
  exact ⟨oo, oc, so, sc, by rw [← e1, ← e2]⟩)
 have v1 := VecAt.boxed w r ws
 have hb := box_below w (.cells (vecL r ws).toArray 52)
 clear hO hc ht hK hI hL hg
 go_enter Tryz.func27, Tryz.ntmps27
 go_upto_region 1 with fail
 generalize w.alloc (.cells (vecL r ws).toArray 52) = w2 at *
 have r1 := v1.row
 go_wp2_with (with_reducible refine wpList_load_mid rfl 49 _ rfl w.heap.size 0 rfl (rowB r).toList _ r1 Tryz.underlying49 rfl (by kernel_rfl) ?_)
 clear r1
 go_loopw [9] (fun i wr => ∃ k : Nat, k ≤ 12 ∧ i = .int .i64 k ∧ vrgTo h r lo ls k = true ∧ VecAt wr w.heap.size r ws ∧ Below w.heap.size w wr) (fun i _ => 12 - (intOf i).toNat)
 case atStart => exact ⟨0, by omega, rfl, rfl, v1, hb⟩
 case round =>
  obtain ⟨k, hk, rfl, hno, v, hbr⟩ := hrel
  by_cases hlt : k < 12
  ·have hki : (k : Int) < 12 := by omega
   have HX := fun wx => run_index_rowB r k hlt wx
   have HS := hid (vrgTo_succ h r lo ls k)
   have HN := hid (fun e => vrg_no (h := h) (r := r) (lo := lo) (ls := ls) hlt e)
   rw [hno] at HS
   have hwy := v.why hlt
   have e12 : 12 + 2 * k = 12 + k * 2 := by omega
   rw [e12] at hwy
   have hd0 : decide ((k : Int) < 0) = false := decide_eq_false (by omega)
   have hd1 : decide ((12 : Int) ≤ (k : Int)) = false := decide_eq_false (by omega)
   have hd2 : decide (12 ≤ k) = false := decide_eq_false (by omega)
   have V := hid v
   have CA1 := hid (CA.out k wr hlt hbr)
   obtain ⟨oo, oc, so, sc, hw⟩ := HF.out k hlt
   rw [hw] at hwy CA1
   have CE := hid (vempty_any oo so (lo k).length (ls k).length oc sc wr)
   have HA : Hid (vrgAt h r lo ls k = if r k = true then acceptsB h (k : Int) (lo k) (ls k) else decide ((lo k).length = 0) && decide ((ls k).length = 0)) := hid rfl
   clear v hno hw e12
   generalize acceptsB h (k : Int) (lo k) (ls k) = acc at *
   generalize (decide ((lo k).length = 0) && decide ((ls k).length = 0)) = emp at *
   cases hr : r k with
   | true =>
    rw [hr] at HX HA
    have HA : Hid (vrgAt h r lo ls k = acc) := hid (by rw [HA.out]; rfl)
    clear CE hr
    cases acc with
    | true =>
     have HM : Hid (vrgTo h r lo ls (k + 1) = true) := hid (by rw [HS.out, HA.out]; rfl)
     clear HS HN HA
     go_wp2_with (with_reducible refine wpList_load_midG 39 _ rfl (by kernel_rfl) w.heap.size (12 + k * 2) rfl [.slice oo (lo k).length oc, .slice so (ls k).length sc] _ hwy Tryz.underlying39 rfl (by kernel_rfl) ?_)
     refine CA1.out.mono ?_
     rintro e w4 ⟨rfl, h4⟩
     have v4 := hid (V.out.below h4 V.out.lt)
     have hb4 := below_then hbr h4
     clear CA1 h4 V hbr hwy
     go_wp2_with fail
     go_roundw
     case rel => exact ⟨k + 1, by omega, by go_num, HM.out, v4.out, hb4⟩
     case measure => simp [intOf]; omega
    | false =>
     have HM : Hid (vrgB h r lo ls = false) := hid (HN.out HA.out)
     clear HS HN HA
     go_wp2_with (with_reducible refine wpList_load_midG 39 _ rfl (by kernel_rfl) w.heap.size (12 + k * 2) rfl [.slice oo (lo k).length oc, .slice so (ls k).length sc] _ hwy Tryz.underlying39 rfl (by kernel_rfl) ?_)
     refine CA1.out.mono ?_
     rintro e w4 ⟨rfl, h4⟩
     have hb4 := below_then hbr h4
     clear CA1 h4 V hbr hwy
     go_wp2_with fail
     go_ret
     exact ⟨ret_v HM.out.symm, hb4⟩
   | false =>
    rw [hr] at HX HA
    have HA : Hid (vrgAt h r lo ls k = emp) := hid (by rw [HA.out]; rfl)
    clear CA1 hr
    cases emp with
    | true =>
     have HM : Hid (vrgTo h r lo ls (k + 1) = true) := hid (by rw [HS.out, HA.out]; rfl)
     clear HS HN HA
     go_wp2_with (with_reducible refine wpList_load_midG 39 _ rfl (by kernel_rfl) w.heap.size (12 + k * 2) rfl [.slice oo (lo k).length oc, .slice so (ls k).length sc] _ hwy Tryz.underlying39 rfl (by kernel_rfl) ?_)
     refine CE.out.mono ?_
     rintro e w4 ⟨rfl, h4⟩
     have v4 := hid (V.out.below h4 V.out.lt)
     have hb4 := below_then hbr h4
     clear CE h4 V hbr hwy
     go_wp2_with fail
     go_roundw
     case rel => exact ⟨k + 1, by omega, by go_num, HM.out, v4.out, hb4⟩
     case measure => simp [intOf]; omega
    | false =>
     have HM : Hid (vrgB h r lo ls = false) := hid (HN.out HA.out)
     clear HS HN HA
     go_wp2_with (with_reducible refine wpList_load_midG 39 _ rfl (by kernel_rfl) w.heap.size (12 + k * 2) rfl [.slice oo (lo k).length oc, .slice so (ls k).length sc] _ hwy Tryz.underlying39 rfl (by kernel_rfl) ?_)
     refine CE.out.mono ?_
     rintro e w4 ⟨rfl, h4⟩
     have hb4 := below_then hbr h4
     clear CE h4 V hbr hwy
     go_wp2_with fail
     go_ret
     exact ⟨ret_v HM.out.symm, hb4⟩
  ·obtain rfl : k = 12 := by omega
   have hki : ¬ ((12 : Nat) : Int) < 12 := by omega
   have HM : Hid (vrgB h r lo ls = cls r) := hid (by unfold vrgB; rw [hno]; rfl)
   have r1 := v.row
   have CC1 := hid (CC.out wr hbr)
   clear v hno CA CC
   go_wp2_with (with_reducible refine wpList_load_mid rfl 49 _ rfl w.heap.size 0 rfl (rowB r).toList _ r1 Tryz.underlying49 rfl (by kernel_rfl) ?_)
   refine CC1.out.mono ?_
   rintro e w4 ⟨rfl, h4⟩
   have hb4 := below_then hbr h4
   go_wp2_with fail
   go_ret
   exact ⟨ret_v HM.out.symm, hb4⟩
end

section
theorem zA9 {α : Type _} (l : List α) (i : Nat) (a : α) : l.toArray.setIfInBounds i a = (l.set i a).toArray := List.setIfInBounds_toArray ..
theorem zB9 {α : Type _} {x : α} {xs : List α} {a : α} : (x :: xs).set 0 a = a :: xs := List.set_cons_zero
theorem zC9 {α : Type _} {x : α} {xs : List α} {i : Nat} {a : α} : (x :: xs).set (i + 1) a = x :: xs.set i a := List.set_cons_succ
theorem tG9 {P : Program} {ops : Array Oper} {Q : Exit → Act → World → Prop} {md : Region.Mode} {S : World → Prop} (d : Option Tmp) (i : Nat) {oi : Oper} (v : Value) {fuel : Nat} {listed : Array Bool} {a : Act} {w : World} (hi : ops[i]? = some oi) (hd : oi.dst = d)
 (hy : YieldsIf P ops S oi v a) (hS : S w) (h : wpAnyH P md ops Q S fuel (listed.setIfInBounds i true) (a.put d v) w)
 (hs : Region.noSelect ops = true := by kernel_rfl) (hf : Region.free md ops listed i = true := by kernel_rfl) (hr : (Region.ready md ops listed).contains i = true := by kernel_rfl)
 (hQ : ∀ c a w, Q (.panic c) (a.put oi.dst v) w → Q (.panic c) a w := by exact fun _ _ _ h => h) : wpAnyH P md ops Q S (fuel + 1) listed a w := takeG d hi hd hs hf hr hQ hy hS h
theorem tA9 {P : Program} {ops : Array Oper} {Q : Exit → Act → World → Prop} {md : Region.Mode} {S : World → Prop} (d : Option Tmp) (i : Nat) {oi : Oper} {v : Value} {fuel : Nat} {listed : Array Bool} {a : Act} {w : World} (hi : ops[i]? = some oi) (hd : oi.dst = d)
 (hS : S w) (h : wpAnyH P md ops Q S fuel (listed.setIfInBounds i true) (a.put d v) w)
 (hy : YieldsIf P ops S oi v a := by exact Or.inl ⟨by rfl, by intro w _; go_simp; try (with_reducible rfl)⟩)
 (hs : Region.noSelect ops = true := by kernel_rfl) (hf : Region.free md ops listed i = true := by kernel_rfl) (hr : (Region.ready md ops listed).contains i = true := by kernel_rfl)
 (hQ : ∀ c a w, Q (.panic c) (a.put oi.dst v) w → Q (.panic c) a w := by exact fun _ _ _ h => h) : wpAnyH P md ops Q S (fuel + 1) listed a w := takeG d hi hd hs hf hr hQ hy hS h
theorem rD9 {P : Program} {ops : Array Oper} {Q : Exit → Act → World → Prop} {md : Region.Mode} {S : World → Prop} {fuel : Nat} {listed : Array Bool} {a : Act} {w : World} (i : Nat) {o : Oper} (ho : ops[i]? = some o)
 (h : ∀ K' : Act → World → Prop, Shut (∀ a w, S w → (S w → wpAnyH P md ops Q S fuel (listed.setIfInBounds i true) a w) → K' a w) → if Region.wanted o (yielded ops a.tmps) = true then Oper.wp P o a w K' Q else K' (a.put o.dst undef) w)
 (hr : Region.ready md ops listed = [i] := by kernel_rfl) : wpAnyH P md ops Q S (fuel + 1) listed a w := wpAnyH_ready hr (by simp) (AllReadyH.cons ho h AllReadyH.nil)
end
section
open Go.RowKit
section
variable {h : List TxnV}
theorem dec_told (hc : checkI h = 0) {lv : Int} (hy : (decW h lv).2.2 = true) : acceptsB h lv (decW h lv).1 (decW h lv).2.1 = true := by
 rw [decW_some hc, Option.isSome_iff_exists] at hy
 obtain ⟨r, hf⟩ := hy
 obtain ⟨X, hX⟩ := least_ex h (askN lv) (r.map Int.ofNat)
 exact dec_accepts hc hf hX
theorem acc_cls (hc : checkI h = 0) : cls (accV h) = true := by
 unfold cls clsTo
 rw [List.all_eq_true]
 intro b _
 cases hb : accV h b with
 | true => simp
 | false =>
  cases ha : abv (accV h) (b : Int) with
  | false => simp
  | true =>
   unfold abv abvTo at ha
   rw [List.any_eq_true] at ha
   obtain ⟨a, _, ha⟩ := ha
   simp only [Bool.and_eq_true] at ha
   have := dec_implied hc ha.2.2 ha.1
   unfold accV at hb
   rw [hb] at this
   cases this
theorem vec_right (hc : checkI h = 0) : vrgB h (accV h) (fun i => (decW h (i : Int)).1) (fun i => (decW h (i : Int)).2.1) = true := by
 unfold vrgB vrgTo
 rw [acc_cls hc, Bool.and_true, List.all_eq_true]
 intro i _
 unfold vrgAt accV
 cases hy : (decW h (i : Int)).2.2 with
 | true => rw [if_pos rfl]; exact dec_told hc hy
 | false =>
  obtain ⟨e1, e2⟩ := decW_none h (i : Int) hy
  rw [if_neg (by simp)]
  simp only [e1, e2]; rfl
end
theorem fuel_most : fuelN 4611686018427387904 = 4611686018427387904 := by decide +kernel
theorem info_vec (r : Nat → Bool) (ws : Nat → Value × Value) : (Tryz.prog.info? 52).map (·.size) = some (vecL r ws).length := by rw [vecL_len]; kernel_rfl
theorem info_vecA (r : Nat → Bool) (ws : Nat → Value × Value) : (Tryz.prog.info? 52).map (·.size) = some (vecL r ws).toArray.size := by rw [show (vecL r ws).toArray.size = 36 from vecL_len _ _]; kernel_rfl
theorem results_vec3 {fn : Func} {p u v : Tmp} (h : fn.results = #[.tmp u, .cell p 52, .tmp v]) (tmps : Array Value) (w : World) (g : Nat) (r : Nat → Bool) (ws : Nat → Value × Value)
  (hp : tmps.getD p undef = .pointer (some ⟨g, 0, none⟩)) (hg : VecAt w g r ws) : (results fn tmps).run Tryz.prog w = .ok (.tuple #[tmps.getD u undef, .agg (vecL r ws).toArray, tmps.getD v undef]) w := by
 have hp' : tmps[p]?.getD undef = .pointer (some ⟨g, 0, none⟩) := by simpa using hp
 simp [results, h, hp', asAddr, run_loadVar_mid w g 0 52 (vecL r ws) _ hg.all Tryz.underlying52 rfl (info_vec r ws)]
theorem vec_put (w : World) (r : Nat → Bool) (ws : Nat → Value × Value) : VecAt ((w.alloc (.cells #[.bool false, .bool false, .bool false, .bool false, .bool false, .bool false, .bool false, .bool false, .bool false, .bool false, .bool false, .bool false, .slice none 0 0, .slice none 0 0, .slice none 0 0, .slice none 0 0, .slice none 0 0, .slice none 0 0, .slice none 0 0, .slice none 0 0, .slice none 0 0, .slice none 0 0, .slice none 0 0, .slice none 0 0, .slice none 0 0, .slice none 0 0, .slice none 0 0, .slice none 0 0, .slice none 0 0, .slice none 0 0, .slice none 0 0, .slice none 0 0, .slice none 0 0, .slice none 0 0, .slice none 0 0, .slice none 0 0] 52)).setCells w.heap.size 0 (vecL r ws)) w.heap.size r ws ∧ Below w.heap.size w ((w.alloc (.cells #[.bool false, .bool false, .bool false, .bool false, .bool false, .bool false, .bool false, .bool false, .bool false, .bool false, .bool false, .bool false, .slice none 0 0, .slice none 0 0, .slice none 0 0, .slice none 0 0, .slice none 0 0, .slice none 0 0, .slice none 0 0, .slice none 0 0, .slice none 0 0, .slice none 0 0, .slice none 0 0, .slice none 0 0, .slice none 0 0, .slice none 0 0, .slice none 0 0, .slice none 0 0, .slice none 0 0, .slice none 0 0, .slice none 0 0, .slice none 0 0, .slice none 0 0, .slice none 0 0, .slice none 0 0, .slice none 0 0] 52)).setCells w.heap.size 0 (vecL r ws)) ∧ (w.alloc (.cells #[.bool false, .bool false, .bool false, .bool false, .bool false, .bool false, .bool false, .bool false, .bool false, .bool false, .bool false, .bool false, .slice none 0 0, .slice none 0 0, .slice none 0 0, .slice none 0 0, .slice none 0 0, .slice none 0 0, .slice none 0 0, .slice none 0 0, .slice none 0 0, .slice none 0 0, .slice none 0 0, .slice none 0 0, .slice none 0 0, .slice none 0 0, .slice none 0 0, .slice none 0 0, .slice none 0 0, .slice none 0 0, .slice none 0 0, .slice none 0 0, .slice none 0 0, .slice none 0 0, .slice none 0 0, .slice none 0 0] 52)).there w.heap.size 0 (vecL r ws).toArray.size :=
 ⟨(VecAt.zero w).put r ws, below_putC (Nat.le_refl _) _ _ _ (box_below w _), by rw [show (vecL r ws).toArray.size = 36 from vecL_len _ _]; exact (VecAt.zero w).there (by omega)⟩
def WitsIn (h : List TxnV) (ws : Nat → Value × Value) (b0 : Nat) (w : World) : Prop := ∀ i, i < 12 → OwnW w b0 (ws i).1 (ws i).2 (decW h (i : Int)).1 (decW h (i : Int)).2.1
section
variable {h : List TxnV} {ws : Nat → Value × Value} {b0 : Nat} {w w' : World}
theorem WitsIn.below (q : WitsIn h ws b0 w) (hb : Below w.heap.size w w') : WitsIn h ws b0 w' := fun i hi => (q i hi).below hb
theorem WitsIn.cells (q : WitsIn h ws b0 w) {g : Nat} (hg : g < b0) (o : Nat) (vs : List Value) : WitsIn h ws b0 (w.setCells g o vs) := fun i hi => (q i hi).cells hg o vs
theorem WitsIn.base (q : WitsIn h ws b0 w) {b1 : Nat} (hb : b1 ≤ b0) : WitsIn h ws b1 w := fun i hi => (q i hi).base hb
theorem WitsIn.one (q : WitsIn h ws b0 w) (r : Nat → Bool) : (vecL r ws).toArray.all (·.oneCell') = true := vecL_one fun i hi => by
 obtain ⟨_, _, _, _, _, _, e1, e2⟩ := (q i hi).form
 rw [e1, e2]; exact ⟨rfl, rfl⟩
end
theorem map_cells {α : Type} {e : α → Value} {P : Program} {k : TypeId} {w : World} {b n : Nat} {f : Int → Option α} {c g : Nat} (h : MapI e P k w b n f c) {v : Value} (hc : w.cell? ⟨g, 0, none⟩ = some v) : b ≠ g := by
 rintro rfl
 obtain ⟨D, ⟨es, clock, hh, _⟩, _⟩ := h
 unfold World.cell? at hc
 simp [hh] at hc
theorem OrdIs.apart {w : World} {B b : Nat} {h : List TxnV} (hO : OrdIs w B b h) {g : Nat} (hg : g < B) (hgb : g < b) {v : Value} (hc : w.cell? ⟨g, 0, none⟩ = some v) (o : Nat) (vs : List Value) : OrdIs (w.setCells g o vs) B b h := by
 obtain ⟨bm, m, c, vk, vr, K, R, h1, h2, h3, h4, h5, h6⟩ := hO
 refine ⟨bm, m, c, vk, vr, K, R, fun i hi => ?_, MapI.cells (map_cells h2 hc) vs o w h2, h3, h4.cells hgb o vs, h5, h6⟩
 rw [World.frozen?_setCells, cell_put (p := ⟨B, i, none⟩) (by show B ≠ g; omega)]
 exact h1 i hi
theorem vof_ok {w0 w : World} {B b : Nat} {h : List TxnV} (much : Int) (F : Nat) (hF : fuelN much = F) (hO : OrdIs w0 B b h) (ht : Tab w0) (hK : Kinds w0) (hc : checkI h = 0) (hb : Below w0.heap.size w0 w) (hM : ∀ l : Nat, l < 12 → (decN h (l : Int)).2.2 + 2 ≤ 1099511627776) (hl : Lasts F 0 (vecTo h 12).2) :
  Calls Tryz.prog 23 #[.pointer (some ⟨B, 0, none⟩), .int .i64 much] w fun e w' => (∃ ws, e = .returned (.tuple #[.agg (vecL (accV h) ws).toArray, .int .i64 0]) ∧ WitsIn h ws w.heap.size w') ∧ Below w.heap.size w w' := by
 refine (vof_any much F hF hO ht hK hc hb hM).mono ?_
 rintro e w' ⟨hb', ⟨_, ws, rfl, hw⟩ | ⟨hn, _⟩⟩
 ·exact ⟨⟨ws, rfl, hw⟩, hb'⟩
 ·exact (hn hl).elim
theorem vof_no {w0 w : World} {B b : Nat} {h : List TxnV} (much : Int) (F : Nat) (hF : fuelN much = F) (hO : OrdIs w0 B b h) (ht : Tab w0) (hK : Kinds w0) (hc : checkI h = 0) (hb : Below w0.heap.size w0 w) (hM : ∀ l : Nat, l < 12 → (decN h (l : Int)).2.2 + 2 ≤ 1099511627776) (hl : ¬ Lasts F 0 (vecTo h 12).2) :
  Calls Tryz.prog 23 #[.pointer (some ⟨B, 0, none⟩), .int .i64 much] w fun e w' => e = .returned (.tuple #[.agg (vecL noB wZ0).toArray, .int .i64 4]) ∧ Below w.heap.size w w' := by
 refine (vof_any much F hF hO ht hK hc hb hM).mono ?_
 rintro e w' ⟨hb', ⟨hy, _⟩ | ⟨_, rfl⟩⟩
 ·exact (hl hy).elim
 ·exact ⟨rfl, hb'⟩
theorem vec_few {h : List TxnV} (hn : h.length ≤ 7) : ∀ l : Nat, l < 12 → (decN h (l : Int)).2.2 + 2 ≤ 1099511627776 := fun l _ => by
 have h1 := dec_tries h (l : Int)
 have h2 := tr_le h.length hn
 omega
theorem lawof_any (va : Value) (h : List TxnV) (w : World) (hT : Txns w va h) (hok : ∀ t ∈ h, t.ok) (hsh : Short h) (hc : checkI h = 0) (ht : Tab w) (hK : Kinds w) (hM : ∀ l : Nat, l < 12 → (decN h (l : Int)).2.2 + 2 ≤ 1099511627776) :
  Calls Tryz.prog 32 #[va] w fun e w' => (∃ B ws, e = .returned (.tuple #[.pointer (some ⟨B, 0, none⟩), .agg (vecL (accV h) ws).toArray, .bool true]) ∧ OrdIs w' B (B + 2) h ∧ WitsIn h ws w.heap.size w') ∧ Below w.heap.size w w' := by
 have hg := ht.pos
 have V3 := VecAt.zero w
 have hb1 := box_below w (.cells #[.bool false, .bool false, .bool false, .bool false, .bool false, .bool false, .bool false, .bool false, .bool false, .bool false, .bool false, .bool false, .slice none 0 0, .slice none 0 0, .slice none 0 0, .slice none 0 0, .slice none 0 0, .slice none 0 0, .slice none 0 0, .slice none 0 0, .slice none 0 0, .slice none 0 0, .slice none 0 0, .slice none 0 0, .slice none 0 0, .slice none 0 0, .slice none 0 0, .slice none 0 0, .slice none 0 0, .slice none 0 0, .slice none 0 0, .slice none 0 0, .slice none 0 0, .slice none 0 0, .slice none 0 0, .slice none 0 0] 52)
 have CO := hid (of_done va h _ (hT.below hb1) hok hsh hc)
 have HT : Hid (∀ wx, Below w.heap.size w wx → Tab wx ∧ Kinds wx) := hid (fun wx hb => ⟨ht.below hb hg, hK.below hb⟩)
 have hs1 : (w.alloc (.cells #[.bool false, .bool false, .bool false, .bool false, .bool false, .bool false, .bool false, .bool false, .bool false, .bool false, .bool false, .bool false, .slice none 0 0, .slice none 0 0, .slice none 0 0, .slice none 0 0, .slice none 0 0, .slice none 0 0, .slice none 0 0, .slice none 0 0, .slice none 0 0, .slice none 0 0, .slice none 0 0, .slice none 0 0, .slice none 0 0, .slice none 0 0, .slice none 0 0, .slice none 0 0, .slice none 0 0, .slice none 0 0, .slice none 0 0, .slice none 0 0, .slice none 0 0, .slice none 0 0, .slice none 0 0, .slice none 0 0] 52)).heap.size = w.heap.size + 1 := by simp
 have HC := hid hc
 have HM := hid hM
 clear hT hok hsh hc ht hK hM
 go_enter Tryz.func32, Tryz.ntmps32
 go_upto_region 1 with fail
 generalize w.alloc (.cells #[.bool false, .bool false, .bool false, .bool false, .bool false, .bool false, .bool false, .bool false, .bool false, .bool false, .bool false, .bool false, .slice none 0 0, .slice none 0 0, .slice none 0 0, .slice none 0 0, .slice none 0 0, .slice none 0 0, .slice none 0 0, .slice none 0 0, .slice none 0 0, .slice none 0 0, .slice none 0 0, .slice none 0 0, .slice none 0 0, .slice none 0 0, .slice none 0 0, .slice none 0 0, .slice none 0 0, .slice none 0 0, .slice none 0 0, .slice none 0 0, .slice none 0 0, .slice none 0 0, .slice none 0 0, .slice none 0 0] 52) = w1 at *
 go_wp2_with fail
 refine CO.out.mono ?_
 rintro e w2 ⟨⟨B, rfl, hB, hO⟩, h2⟩
 have hb2 := below_then hb1 h2
 have h12 := h2.size
 have V3 := V3.below h2 V3.lt
 have hTK := HT.out _ hb2
 have CV := hid (vof_ok (w := w2) 4611686018427387904 4611686018427387904 fuel_most hO hTK.1 hTK.2 HC.out (Below.refl _ _) HM.out (.inl rfl))
 have HO := hid (fun wx (hx : Below w2.heap.size w2 wx) => hO.below hx)
 clear CO hO h2 hTK hb1
 go_wp2_with fail
 refine CV.out.mono ?_
 rintro e w3 ⟨⟨ws, rfl, hW⟩, h3⟩
 obtain ⟨V7, hb7, hth⟩ := vec_put w3 (accV h) ws
 have hone := hW.one (accV h)
 have hinf := info_vecA (accV h) ws
 have h27 := below_then h3 hb7
 have HO7 := hid (HO.out _ h27)
 have W7 := hW.below hb7
 have V3 := V3.below h3 V3.lt
 have hne := V3.lt
 have V3 := V3.below hb7 V3.lt
 have hbW := below_then hb2 h27
 clear CV h3 h27 hb2 hW HO
 go_upto_region 5 with (first | (with_reducible refine wpList_store_mid rfl 52 _ _ rfl w3.heap.size 0 (vecL (accV h) ws).toArray rfl rfl hth hinf hone ?_))
 generalize (w3.alloc (.cells #[.bool false, .bool false, .bool false, .bool false, .bool false, .bool false, .bool false, .bool false, .bool false, .bool false, .bool false, .bool false, .slice none 0 0, .slice none 0 0, .slice none 0 0, .slice none 0 0, .slice none 0 0, .slice none 0 0, .slice none 0 0, .slice none 0 0, .slice none 0 0, .slice none 0 0, .slice none 0 0, .slice none 0 0, .slice none 0 0, .slice none 0 0, .slice none 0 0, .slice none 0 0, .slice none 0 0, .slice none 0 0, .slice none 0 0, .slice none 0 0, .slice none 0 0, .slice none 0 0, .slice none 0 0, .slice none 0 0] 52)).setCells w3.heap.size 0 (vecL (accV h) ws) = w7 at *
 generalize w3.heap.size = g7 at *
 have kd := (Below.refl w7.heap.size w7).drew
 have V7 := hid (V7.below kd V7.lt)
 have HO7 := hid (HO7.out.below kd)
 have W7 := W7.below kd
 have HV3 := hid (V3.below kd V3.lt)
 have hbW := below_then hbW kd
 have hinf2 := info_vec (accV h) ws
 clear V3 kd hth
 refine wp_region_held_drew (S := fun wx => wx.rangeAt g7 0 (vecL (accV h) ws)) (by kernel_rfl) V7.out.all (fun hS0 => ?_)
 generalize w7.drew = wd at *
 refine tG9 (some 25) 0 ?vtg0x1 rfl rfl (Or.inl ⟨by rfl, ?htg0x1⟩) hS0 ?rtg0x1
 case htg0x1 => (intro w hw; go_simp; try (with_reducible rfl))
 try simp only [Act.put, zA9, zB9, zC9]
 refine tG9 (some 26) 1 _ rfl rfl (yieldsIf_load_mid (by rfl) 52 _ rfl g7 0 rfl (vecL (accV h) ws) _ (fun _ hw => hw) Tryz.underlying52 rfl hinf2) hS0 ?_
 try simp only [Act.put, zA9, zB9, zC9]
 refine tG9 (some 27) 2 ?vtg2x3 rfl rfl (Or.inl ⟨by rfl, ?htg2x3⟩) hS0 ?rtg2x3
 case htg2x3 => (intro w hw; go_simp; try (with_reducible rfl))
 try simp only [Act.put, zA9, zB9, zC9]
 refine tG9 (some 28) 3 ?vtg3x4 rfl rfl (Or.inl ⟨by rfl, ?htg3x4⟩) hS0 ?rtg3x4
 case htg3x4 => (intro w hw; go_simp; try (with_reducible rfl))
 try simp only [Act.put, zA9, zB9, zC9]
 refine tG9 (some 2) 4 ?vtg4x5 rfl rfl (Or.inl ⟨by rfl, ?htg4x5⟩) hS0 ?rtg4x5
 case htg4x5 => (intro w hw; go_simp; try (with_reducible rfl))
 try simp only [Act.put, zA9, zB9, zC9]
 refine rD9 5 rfl (fun K hK => ?_)
 have hth := HV3.out.there (o := 0) (n := 36) (by omega)
 rw [show 36 = (vecL (accV h) ws).toArray.size from (vecL_len _ _).symm] at hth
 refine wp_store_mid 52 _ _ rfl w.heap.size 0 (vecL (accV h) ws).toArray rfl rfl hth hinf hone ?_
 have sB : (wd.setCells w.heap.size 0 (vecL (accV h) ws)).rangeAt g7 0 (vecL (accV h) ws) := World.rangeAt_setCells_apart hS0 _ _ _ (.inl (by omega))
 refine hK.out _ _ sB (fun _ => ?_)
 clear hK K hth
 refine tG9 (some 4) 6 ?vtg6x7 rfl rfl (Or.inl ⟨by rfl, ?htg6x7⟩) sB ?rtg6x7
 case htg6x7 => (intro w hw; go_simp; try (with_reducible rfl))
 try simp only [Act.put, List.setIfInBounds_toArray]
 refine wpAnyH_done (by kernel_rfl) ?_ _
 have HV9 := hid (HV3.out.put (accV h) ws)
 have HF : Hid (OrdIs (wd.setCells w.heap.size 0 (vecL (accV h) ws)) B (B + 2) h ∧ WitsIn h ws w.heap.size (wd.setCells w.heap.size 0 (vecL (accV h) ws)) ∧ Below w.heap.size w (wd.setCells w.heap.size 0 (vecL (accV h) ws))) := hid ⟨HO7.out.apart (by omega) (by omega) (HV3.out 0 (by omega)).1 0 _, (W7.cells (by omega) 0 _).base (by omega), below_putC (Nat.le_refl _) _ _ _ hbW⟩
 go_wp2_with fail
 refine bodyPost_ret (results_vec3 rfl _ _ _ (accV h) ws rfl HV9.out) rfl ⟨⟨B, ws, rfl, HF.out.1, HF.out.2.1⟩, HF.out.2.2⟩
end

section
open Go.RowKit
theorem nil_check : checkI [] = 0 := by rfl
theorem nil_cost : (vecTo [] 12).2 = 0 := by kernel_rfl
theorem nil_acc : ∀ i : Fin 12, accV [] i.val = true := by decide +kernel
theorem nil_few : ∀ l : Nat, l < 12 → (decN [] (l : Int)).2.2 + 2 ≤ 1099511627776 := vec_few (by simp)
theorem nil_ne : eqlB (accV []) noB = false := by decide +kernel
theorem speaks18_any (w : World) (ht : Tab w) (hK : Kinds w) :
  Calls Tryz.prog 21 #[] w fun e w' => e = .returned (.bool true) ∧ Below w.heap.size w w' := by
 have hg := ht.pos
 have CO := hid (of_done (.slice none 0 0) [] w (txns_none w) (fun t ht => (by cases ht)) (fun t ht => (by cases ht)) nil_check)
 have HT : Hid (∀ wx, Below w.heap.size w wx → Tab wx ∧ Kinds wx) := hid (fun wx hb => ⟨ht.below hb hg, hK.below hb⟩)
 have HC := hid nil_check
 have HM := hid nil_few
 have HL : Hid (Lasts 0 0 (vecTo [] 12).2) := hid (.inr (by rw [nil_cost]; omega))
 have e0 : fuelN 0 = 0 := by decide +kernel
 have HE := hid e0
 have HA := hid nil_acc
 have HN := hid nil_ne
 have HR := hid (vec_right nil_check)
 have HCL := hid (acc_cls nil_check)
 generalize ([] : List TxnV) = h at *
 clear ht hK e0
 go_enter Tryz.func21, Tryz.ntmps21
 go_wp2_with fail
 refine CO.out.mono ?_
 rintro e w2 ⟨⟨B, rfl, hB, hO⟩, h2⟩
 have hTK := HT.out _ h2
 have CV := hid (vof_ok (w := w2) 0 0 HE.out hO hTK.1 hTK.2 HC.out (Below.refl _ _) HM.out HL.out)
 have HO := hid (fun wx (hx : Below w2.heap.size w2 wx) => hO.below hx)
 clear CO hO hTK
 go_wp2_with fail
 refine CV.out.mono ?_
 rintro e w3 ⟨⟨ws, rfl, hW⟩, h3⟩
 obtain ⟨V7, hb7, hth⟩ := vec_put w3 (accV h) ws
 have hone := hW.one (accV h)
 have hinf := info_vecA (accV h) ws
 have hinf2 := info_vec (accV h) ws
 have h27 := below_then h3 hb7
 have W7 := hW.below hb7
 have hbW := below_then h2 h27
 have hTK := HT.out _ hbW
 have CR := hid (vright_any h B (B + 2) (accV h) ws (fun i => (decW h (i : Int)).1) (fun i => (decW h (i : Int)).2.1) _ (HO.out _ h27) HC.out hTK.1 hTK.2 (fun i hi => (W7 i hi).ints) (fun i hi => (W7 i hi).lists))
 rw [HR.out] at CR
 have HK := hid (fun wx (hx : Below w.heap.size w wx) => tclosed_any (accV h) wx (HT.out _ hx).2)
 rw [HCL.out] at HK
 clear CV h3 h27 h2 hW HO hb7 W7 hTK
 go_upto_region 5 with (with_reducible refine wpList_store_mid rfl 52 _ _ rfl w3.heap.size 0 (vecL (accV h) ws).toArray rfl rfl hth hinf hone ?_)
 generalize (w3.alloc (.cells #[.bool false, .bool false, .bool false, .bool false, .bool false, .bool false, .bool false, .bool false, .bool false, .bool false, .bool false, .bool false, .slice none 0 0, .slice none 0 0, .slice none 0 0, .slice none 0 0, .slice none 0 0, .slice none 0 0, .slice none 0 0, .slice none 0 0, .slice none 0 0, .slice none 0 0, .slice none 0 0, .slice none 0 0, .slice none 0 0, .slice none 0 0, .slice none 0 0, .slice none 0 0, .slice none 0 0, .slice none 0 0, .slice none 0 0, .slice none 0 0, .slice none 0 0, .slice none 0 0, .slice none 0 0, .slice none 0 0] 52)).setCells w3.heap.size 0 (vecL (accV h) ws) = w7 at *
 generalize w3.heap.size = g7 at *
 have c11 := (V7 11 (by omega)).1
 have c0 := (V7 0 (by omega)).1
 rw [show vecF (accV h) ws 11 = .bool true from congrArg Value.bool (HA.out 11)] at c11
 rw [show vecF (accV h) ws 0 = .bool true from congrArg Value.bool (HA.out 0)] at c0
 have hall := V7.all
 have hrow := V7.row
 have HV7 := hid V7
 have CS := hid (fun wx => vsame_any (accV h) (accV h) ws ws wx)
 rw [eqlB_one fun _ _ => rfl] at CS
 have CZ := hid (fun wx => vsame_any (accV h) noB ws wZ0 wx)
 rw [HN.out, ← vec_zero] at CZ
 clear hth V7
 go_wp2_with (with_reducible refine wpList_load_midG 52 _ rfl (by kernel_rfl) g7 0 rfl (vecL (accV h) ws) _ hall Tryz.underlying52 rfl hinf2 ?_)
 refine CR.out.mono ?_
 rintro e w8 ⟨rfl, h8⟩
 have V8 := HV7.out.below h8 HV7.out.lt
 have hb8 := below_then hbW h8
 have hrow := V8.row
 have HV8 := hid V8
 have CK := hid (HK.out w8 hb8)
 clear CR h8 hall V8 HV7 c11 c0 hbW
 go_wp2_with (with_reducible refine wpList_load_midG 49 _ rfl (by kernel_rfl) g7 0 rfl (rowB (accV h)).toList _ hrow Tryz.underlying49 rfl (by kernel_rfl) ?_)
 refine CK.out.mono ?_
 rintro e w9 ⟨rfl, h9⟩
 have V9 := HV8.out.below h9 HV8.out.lt
 have hb9 := below_then hb8 h9
 have hall := V9.all
 have HV9 := hid V9
 clear CK h9 hrow V9 HV8 hb8
 go_wp2_with (with_reducible refine wpList_load_midG 52 _ rfl (by kernel_rfl) g7 0 rfl (vecL (accV h) ws) _ hall Tryz.underlying52 rfl hinf2 ?_)
 refine (CS.out _).mono ?_
 rintro e wA ⟨rfl, hA⟩
 have VA := HV9.out.below hA HV9.out.lt
 have hbA := below_then hb9 hA
 have hall := VA.all
 clear CS hA VA HV9 hb9
 go_wp2_with (with_reducible refine wpList_load_midG 52 _ rfl (by kernel_rfl) g7 0 rfl (vecL (accV h) ws) _ hall Tryz.underlying52 rfl hinf2 ?_)
 refine (CZ.out _).mono ?_
 rintro e wB ⟨rfl, hB⟩
 have hbB := below_then hbA hB
 clear CZ hB hall hbA
 go_wp2_with fail
 go_ret
 exact ⟨rfl, hbB⟩
end

section
open Go.RowKit
def codeI (ok : Bool) : Int := if ok then 0 else 4
def vRow (h : List TxnV) (ok : Bool) : Nat → Bool := if ok then accV h else noB
theorem vof_both {w0 w : World} {B b : Nat} {h : List TxnV} (much : Int) (F : Nat) (ok : Bool) (hF : fuelN much = F) (hO : OrdIs w0 B b h) (ht : Tab w0) (hK : Kinds w0) (hc : checkI h = 0) (hb : Below w0.heap.size w0 w) (hM : ∀ l : Nat, l < 12 → (decN h (l : Int)).2.2 + 2 ≤ 1099511627776) (hl : ok = true ↔ Lasts F 0 (vecTo h 12).2) :
  Calls Tryz.prog 23 #[.pointer (some ⟨B, 0, none⟩), .int .i64 much] w fun e w' => (∃ ws, e = .returned (.tuple #[.agg (vecL (vRow h ok) ws).toArray, .int .i64 (codeI ok)]) ∧ (vecL (vRow h ok) ws).toArray.all (·.oneCell') = true ∧ (ok = true → WitsIn h ws w.heap.size w') ∧ (ok = false → ws = wZ0)) ∧ Below w.heap.size w w' := by
 cases ok with
 | true =>
  refine (vof_ok much F hF hO ht hK hc hb hM (hl.1 rfl)).mono ?_
  rintro e w' ⟨⟨ws, rfl, hW⟩, hb'⟩
  exact ⟨⟨ws, rfl, hW.one _, fun _ => hW, fun e => (by cases e)⟩, hb'⟩
 | false =>
  refine (vof_no much F hF hO ht hK hc hb hM (fun e => by have := hl.2 e; cases this)).mono ?_
  rintro e w' ⟨rfl, hb'⟩
  exact ⟨⟨wZ0, rfl, vecL_one fun i _ => ⟨rfl, rfl⟩, fun e => (by cases e), fun _ => rfl⟩, hb'⟩
theorem vfuel18_walk (va : Value) (h : List TxnV) (a b : Nat) (w : World) (ha : a < 65536) (hbb : b < 65536) (ht : Tab w) (hK : Kinds w) (hT : Txns w va h) (hok : ∀ t ∈ h, t.ok) (hsh : Short h) :
  Calls Tryz.prog 5 #[va, .int .u16 a, .int .u16 b] w fun e w' => e = .returned (.bool true) ∧ Below w.heap.size w w' := by
 have hg := ht.pos
 have HT : Hid (∀ wx, Below w.heap.size w wx → Tab wx ∧ Kinds wx) := hid (fun wx hb => ⟨ht.below hb hg, hK.below hb⟩)
 have HH := hid (fun wx (hx : Below w.heap.size w wx) => hT.below hx)
 obtain ⟨ao, cap, rfl, hal⟩ := hT.form
 have HOK := hid hok
 have HSH := hid hsh
 have C0 := hid (speaks18_any w ht hK)
 clear ht hK hT hok
 go_enter Tryz.func5, Tryz.ntmps5
 go_wp2_with fail
 refine (C0.out).mono ?_
 rintro e w1 ⟨rfl, hb1⟩
 clear C0
 by_cases h5 : 7 < h.length
 ·have h5i : (7 : Int) < (h.length : Int) := by omega
  clear hsh
  go_wp2_with fail
  go_ret
  exact ⟨rfl, hb1⟩
 have h5i : ¬ (7 : Int) < (h.length : Int) := by omega
 have CC := hid (rcheck_any _ h w1 (HH.out _ hb1) hsh)
 rw [← check_ref] at CC
 by_cases hc : checkI h = 0
 rotate_left
 ·have hcn : ¬ checkI h = 0 := hc
  generalize checkI h = c at *
  have hcb : (c != 0) = true := by rw [bne_iff_ne]; exact hcn
  clear hsh hc
  go_wp2_with fail
  refine (CC.out).mono ?_
  rintro e w2 ⟨rfl, hb2⟩
  have hb2 := below_then hb1 hb2
  go_wp2_with fail
  go_ret
  exact ⟨rfl, hb2⟩
 rw [hc] at CC
 go_wp2_with fail
 refine (CC.out).mono ?_
 rintro e w2 ⟨rfl, hb2⟩
 have hb2 := below_then hb1 hb2
 have hTK := HT.out _ hb2
 have CO := hid (lawof_any _ h w2 (HH.out _ hb2) HOK.out HSH.out hc hTK.1 hTK.2 (vec_few (by omega)))
 have HC := hid hc
 have HM := hid (vec_few (h := h) (by omega))
 clear hb1 CC hc hsh hTK
 go_wp2_with fail
 refine (CO.out).mono ?_
 rintro e w3 ⟨⟨B, ws, rfl, hO, hW⟩, h3⟩
 have hb3 := below_then hb2 h3
 obtain ⟨V4, hb7, hth⟩ := vec_put w3 (accV h) ws
 have hone := hW.one (accV h)
 have hinf := info_vecA (accV h) ws
 have hinf2 := info_vec (accV h) ws
 have hbW := below_then hb3 hb7
 have hTK := HT.out _ hbW
 have hO := hO.below hb7
 clear CO h3 hb2 hb3 hW hb7
 go_upto_region 6 with (with_reducible refine wpList_store_mid rfl 52 _ _ rfl w3.heap.size 0 (vecL (accV h) ws).toArray rfl rfl hth hinf hone ?_)
 generalize (w3.alloc (.cells #[.bool false, .bool false, .bool false, .bool false, .bool false, .bool false, .bool false, .bool false, .bool false, .bool false, .bool false, .bool false, .slice none 0 0, .slice none 0 0, .slice none 0 0, .slice none 0 0, .slice none 0 0, .slice none 0 0, .slice none 0 0, .slice none 0 0, .slice none 0 0, .slice none 0 0, .slice none 0 0, .slice none 0 0, .slice none 0 0, .slice none 0 0, .slice none 0 0, .slice none 0 0, .slice none 0 0, .slice none 0 0, .slice none 0 0, .slice none 0 0, .slice none 0 0, .slice none 0 0, .slice none 0 0, .slice none 0 0] 52)).setCells w3.heap.size 0 (vecL (accV h) ws) = w4 at *
 generalize w3.heap.size = g4 at *
 obtain ⟨p, hp⟩ : ∃ p : Bool, p = true ↔ Lasts a 0 (vecTo h 12).2 := by
  by_cases e : Lasts a 0 (vecTo h 12).2
  ·exact ⟨true, by simp [e]⟩
  ·exact ⟨false, by simp [e]⟩
 obtain ⟨q, hq⟩ : ∃ q : Bool, q = true ↔ Lasts (a + b) 0 (vecTo h 12).2 := by
  by_cases e : Lasts (a + b) 0 (vecTo h 12).2
  ·exact ⟨true, by simp [e]⟩
  ·exact ⟨false, by simp [e]⟩
 have hpq : p = true → q = true := fun e => hq.2 (by
  rcases hp.1 e with e | e
  ·omega
  ·exact .inr (by omega))
 have fa : fuelN (a : Int) = a := by unfold fuelN; omega
 have fb : fuelN ((a : Int) + (b : Int)) = a + b := by unfold fuelN; omega
 have C1 := hid (vof_both (w := w4) (a : Int) a p fa hO hTK.1 hTK.2 HC.out (Below.refl _ _) HM.out hp)
 have C2 := hid (fun wx (hx : Below w4.heap.size w4 wx) => vof_both (w := wx) ((a : Int) + (b : Int)) (a + b) q fb hO hTK.1 hTK.2 HC.out hx HM.out hq)
 have HPQ := hid hpq
 clear hO hTK HC HM fa fb hp hq hpq HT HH HOK HSH hth hone hinf
 go_wp2_with fail
 refine C1.out.mono ?_
 rintro e w5 ⟨⟨wa, rfl, hone, _, _⟩, h5⟩
 obtain ⟨V6, hb6, hth⟩ := vec_put w5 (vRow h p) wa
 have hinf := info_vecA (vRow h p) wa
 have hinfa := info_vec (vRow h p) wa
 have h46 := below_then h5 hb6
 have V4 := V4.below h46 V4.lt
 have hbW := below_then hbW h46
 have C2 := hid (C2.out _ h46)
 clear C1 h5 hb6 h46
 go_upto_region 9 with (with_reducible refine wpList_store_mid rfl 52 _ _ rfl w5.heap.size 0 (vecL (vRow h p) wa).toArray rfl rfl hth hinf hone ?_)
 generalize (w5.alloc (.cells #[.bool false, .bool false, .bool false, .bool false, .bool false, .bool false, .bool false, .bool false, .bool false, .bool false, .bool false, .bool false, .slice none 0 0, .slice none 0 0, .slice none 0 0, .slice none 0 0, .slice none 0 0, .slice none 0 0, .slice none 0 0, .slice none 0 0, .slice none 0 0, .slice none 0 0, .slice none 0 0, .slice none 0 0, .slice none 0 0, .slice none 0 0, .slice none 0 0, .slice none 0 0, .slice none 0 0, .slice none 0 0, .slice none 0 0, .slice none 0 0, .slice none 0 0, .slice none 0 0, .slice none 0 0, .slice none 0 0] 52)).setCells w5.heap.size 0 (vecL (vRow h p) wa) = w6 at *
 generalize w5.heap.size = g6 at *
 clear hth hone hinf
 go_wp2_with fail
 refine C2.out.mono ?_
 rintro e w7 ⟨⟨wb, rfl, hone, _, _⟩, h7⟩
 obtain ⟨V8, hb8, hth⟩ := vec_put w7 (vRow h q) wb
 have hinf := info_vecA (vRow h q) wb
 have hinfb := info_vec (vRow h q) wb
 have h68 := below_then h7 hb8
 have V4 := V4.below h68 V4.lt
 have V6 := V6.below h68 V6.lt
 have hbW := below_then hbW h68
 clear C2 h7 hb8 h68
 go_upto_region 10 with (with_reducible refine wpList_store_mid rfl 52 _ _ rfl w7.heap.size 0 (vecL (vRow h q) wb).toArray rfl rfl hth hinf hone ?_)
 generalize (w7.alloc (.cells #[.bool false, .bool false, .bool false, .bool false, .bool false, .bool false, .bool false, .bool false, .bool false, .bool false, .bool false, .bool false, .slice none 0 0, .slice none 0 0, .slice none 0 0, .slice none 0 0, .slice none 0 0, .slice none 0 0, .slice none 0 0, .slice none 0 0, .slice none 0 0, .slice none 0 0, .slice none 0 0, .slice none 0 0, .slice none 0 0, .slice none 0 0, .slice none 0 0, .slice none 0 0, .slice none 0 0, .slice none 0 0, .slice none 0 0, .slice none 0 0, .slice none 0 0, .slice none 0 0, .slice none 0 0, .slice none 0 0] 52)).setCells w7.heap.size 0 (vecL (vRow h q) wb) = w8 at *
 generalize w7.heap.size = g8 at *
 clear hth hone hinf
 have hv := V4.all
 have hva := V6.all
 have hvb := V8.all
 have HV4 := hid V4
 have HV8 := hid V8
 have CS := hid (fun us wx => vsame_any (accV h) (accV h) us ws wx)
 rw [eqlB_one fun _ _ => rfl] at CS
 clear V4 V6 V8
 have ct : codeI true = 0 := rfl
 have cf : codeI false = 4 := rfl
 cases p with
 | true =>
  obtain rfl : q = true := HPQ.out rfl
  go_wp2_with (first
   | (with_reducible refine wpList_load_midG 52 _ rfl (by kernel_rfl) g6 0 rfl (vecL (vRow h true) wa) _ hva Tryz.underlying52 rfl hinfa ?_)
   | (with_reducible refine wpList_load_midG 52 _ rfl (by kernel_rfl) g4 0 rfl (vecL (accV h) ws) _ hv Tryz.underlying52 rfl hinf2 ?_))
  refine (CS.out wa w8).mono ?_
  rintro e w9 ⟨rfl, h9⟩
  have V4 := HV4.out.below h9 HV4.out.lt
  have V8 := HV8.out.below h9 HV8.out.lt
  have hv := V4.all
  have hvb := V8.all
  have hb9 := below_then hbW h9
  clear V4 V8 HV4 HV8 h9 hva
  go_wp2_with (first
   | (with_reducible refine wpList_load_midG 52 _ rfl (by kernel_rfl) g8 0 rfl (vecL (vRow h true) wb) _ hvb Tryz.underlying52 rfl hinfb ?_)
   | (with_reducible refine wpList_load_midG 52 _ rfl (by kernel_rfl) g4 0 rfl (vecL (accV h) ws) _ hv Tryz.underlying52 rfl hinf2 ?_))
  refine (CS.out wb w9).mono ?_
  rintro e wA ⟨rfl, hA⟩
  have hbA := below_then hb9 hA
  clear CS hA hv hvb
  go_wp2_with fail
  go_ret
  exact ⟨rfl, hbA⟩
 | false =>
  cases q with
  | true =>
   go_wp2_with (first
    | (with_reducible refine wpList_load_midG 52 _ rfl (by kernel_rfl) g8 0 rfl (vecL (vRow h true) wb) _ hvb Tryz.underlying52 rfl hinfb ?_)
    | (with_reducible refine wpList_load_midG 52 _ rfl (by kernel_rfl) g4 0 rfl (vecL (accV h) ws) _ hv Tryz.underlying52 rfl hinf2 ?_))
   refine (CS.out wb w8).mono ?_
   rintro e wA ⟨rfl, hA⟩
   have hbA := below_then hbW hA
   clear CS hA hv hvb
   go_wp2_with fail
   go_ret
   exact ⟨rfl, hbA⟩
  | false =>
   go_wp2_with fail
   go_ret
   exact ⟨rfl, hbW⟩
end

end Go.Proofs.YtmcicfdnmfbimaaGreatDoor
