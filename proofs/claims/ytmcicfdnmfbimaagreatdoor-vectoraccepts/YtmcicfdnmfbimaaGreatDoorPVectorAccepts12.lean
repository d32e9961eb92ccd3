/- Walks and plain facts that the proof of the statement VectorAccepts uses, joined: TblM TblB TblC VecE VecF VecG VecH LevD TblD TblE TblF TblG TblJ TblH TblK VecJ VecK VecL. Conditions: each theorem's own. -/
import Derived.ChangeKeysEq
import Derived.Outline
import Derived.Deep.MidRow
import Derived.Laws.BitsAllLaws
import Derived.Test.YtmcicfdnmfbimaaGreatDoorPVectorAccepts0
import Derived.Test.YtmcicfdnmfbimaaGreatDoorPVectorAccepts2
import Derived.Test.YtmcicfdnmfbimaaGreatDoorPVectorAccepts3
import Derived.Test.YtmcicfdnmfbimaaGreatDoorPVectorAccepts6
import Derived.Test.YtmcicfdnmfbimaaGreatDoorPVectorAccepts9
import Derived.Test.YtmcicfdnmfbimaaGreatDoorPVectorAccepts11
namespace Go.Proofs.YtmcicfdnmfbimaaGreatDoor
set_option maxHeartbeats 32000000
set_option maxRecDepth 100000
open Lib (hid)
section
open Go.RowKit
theorem guard_rowB (o : BinOp) (x y : Operand) (r s : Nat → Bool) (w : World) : Sem.run Tryz.prog (eqGuard o 49 x y (.agg (rowB r)) (.agg (rowB s))) w = .ok () w :=
 run_eqGuard_agg w o 49 x y _ _ (by kernel_rfl)
end

section
open Go.RowKit
def abvTo (r : Nat → Bool) (b : Int) (k : Nat) : Bool := (List.range k).any fun a => r a && (decide ((a : Int) ≠ b) && impB (a : Int) b)
def abv (r : Nat → Bool) (b : Int) : Bool := abvTo r b 12
theorem abvTo_succ (r : Nat → Bool) (b : Int) (k : Nat) : abvTo r b (k + 1) = (abvTo r b k || (r k && (decide ((k : Int) ≠ b) && impB (k : Int) b))) := by
 unfold abvTo; rw [List.range_succ, List.any_append]; simp
theorem abvTo_hit {r : Nat → Bool} {b : Int} {k : Nat} (hk : k < 12) (h : (r k && (decide ((k : Int) ≠ b) && impB (k : Int) b)) = true) : abv r b = true := List.any_eq_true.2 ⟨k, List.mem_range.2 hk, h⟩
theorem above_any (r : Nat → Bool) (b : Int) (w : World) (hK : Kinds w) : Calls Tryz.prog 122 #[.agg (rowB r), .int .i64 b] w fun e w' => e = .returned (.bool (abv r b)) ∧ Below w.heap.size w w' := by
 have HK := hid (fun wx (hb : Below w.heap.size w wx) => hK.below hb)
 clear hK
 go_enter Tryz.func122, Tryz.ntmps122
 go_wp2_with fail
 go_loopw [6] (fun i wr => ∃ k : Nat, k ≤ 12 ∧ i = .int .i64 k ∧ abvTo r b k = false ∧ BRow wr w.heap.size r ∧ Below w.heap.size w wr) (fun i _ => 12 - (intOf i).toNat)
 case atStart => exact ⟨0, by omega, rfl, rfl, BRow.made w r rfl rfl, (Below.refl w.heap.size w).alloc (Nat.le_refl _) _⟩
 case round =>
  obtain ⟨k, hk, rfl, hno, h0, hb⟩ := hrel
  have HNO := hid hno
  clear hno
  by_cases hlt : k < 12
  ·have hki : (k : Int) < 12 := by omega
   have hc := h0.cell hlt
   have HS := hid (abvTo_succ r b k)
   have HH := hid (fun h => abvTo_hit (r := r) (b := b) hlt h)
   have CI := hid (limp_any (k : Int) b wr (HK.out _ hb))
   rw [HNO.out] at HS
   cases hr : r k
   ·rw [hr] at hc HS
    clear hr HH CI
    have HM : Hid (abvTo r b (k + 1) = false) := hid (by rw [HS.out]; rfl)
    go_wp2_with fail
    go_roundw
    case rel => exact ⟨k + 1, by omega, by go_num, HM.out, h0, hb⟩
    case measure => simp [intOf]; omega
   ·rw [hr] at hc HS HH
    clear hr
    by_cases hkb : (k : Int) = b
    ·have HM : Hid (abvTo r b (k + 1) = false) := hid (by rw [HS.out, decide_eq_false (by simpa using hkb)]; rfl)
     have hkb' : ((k : Int) == b) = true := by rw [beq_iff_eq]; exact hkb
     clear hkb HH CI HS
     go_wp2_with fail
     ·go_roundw
      case rel => exact ⟨k + 1, by omega, by go_num, HM.out, h0, hb⟩
      case measure => simp [intOf]; omega
     ·exact absurd (beq_iff_eq.1 hkb') (by assumption)
    ·rw [decide_eq_true (show (k : Int) ≠ b from hkb)] at HS HH
     cases hm : impB (k : Int) b
     ·rw [hm] at CI HS
      have HM : Hid (abvTo r b (k + 1) = false) := hid (by rw [HS.out]; rfl)
      clear hm HH HS
      go_wp2_with (go_at_call 46; refine (CI.out).mono ?_; rintro e w' ⟨rfl, rfl⟩)
      go_roundw
      case rel => exact ⟨k + 1, by omega, by go_num, HM.out, h0, hb⟩
      case measure => simp [intOf]; omega
     ·rw [hm] at CI HH
      have HM : Hid (true = abv r b) := hid (HH.out rfl).symm
      clear hm HH HS
      go_wp2_with (go_at_call 46; refine (CI.out).mono ?_; rintro e w' ⟨rfl, rfl⟩)
      go_ret
      exact ⟨lret_b HM.out, hb⟩
  ·have hkn : k = 12 := by omega
   subst hkn
   have HM : Hid (false = abv r b) := hid HNO.out.symm
   go_wp2_with fail
   go_ret
   exact ⟨lret_b HM.out, hb⟩
theorem wpList_load_rowB_g {ops : Array Oper} {rest : List Oper} {o : Oper} {a : Act} {w : World} {Q : Exit → Act → World → Prop} {g : Nat} {r : Nat → Bool} (h : BRow w g r) (x : Operand) (ho : o.op = .load 49 x)
  (hw : Region.wanted o (yielded ops a.tmps) = true) (hx : a.eval x = .pointer (some ⟨g, 0, none⟩)) (hn : wpList Tryz.prog ops Q rest (a.put o.dst (.agg (rowB r))) w) : wpList Tryz.prog ops Q (o :: rest) a w :=
 wpList_step fun K hK => by rw [if_pos hw]; exact wp_load_row 49 x ho g hx _ (rowB r) _ _ h Tryz.underlying49 rfl (infoRow' _) (hK _ _ hn)
def clsTo (r : Nat → Bool) (k : Nat) : Bool := (List.range k).all fun b => !(!r b && abv r (b : Int))
def cls (r : Nat → Bool) : Bool := clsTo r 12
theorem clsTo_succ (r : Nat → Bool) (k : Nat) : clsTo r (k + 1) = (clsTo r k && !(!r k && abv r (k : Int))) := by
 unfold clsTo; rw [List.range_succ, List.all_append]; simp
theorem cls_no {r : Nat → Bool} {k : Nat} (hk : k < 12) (h : (!(!r k && abv r (k : Int))) = false) : cls r = false := by
 unfold cls clsTo
 rw [List.all_eq_false]
 exact ⟨k, List.mem_range.2 hk, by rw [h]; simp⟩
theorem tclosed_any (r : Nat → Bool) (w : World) (hK : Kinds w) : Calls Tryz.prog 73 #[.agg (rowB r)] w fun e w' => e = .returned (.bool (cls r)) ∧ Below w.heap.size w w' := by
 have HK := hid (fun wx (hb : Below w.heap.size w wx) => hK.below hb)
 clear hK
 go_enter Tryz.func73, Tryz.ntmps73
 go_wp2_with fail
 go_loopw [4] (fun i wr => ∃ k : Nat, k ≤ 12 ∧ i = .int .i64 k ∧ clsTo r k = true ∧ BRow wr w.heap.size r ∧ Below w.heap.size w wr) (fun i _ => 12 - (intOf i).toNat)
 case atStart => exact ⟨0, by omega, rfl, rfl, BRow.made w r rfl rfl, (Below.refl w.heap.size w).alloc (Nat.le_refl _) _⟩
 case round =>
  obtain ⟨k, hk, rfl, hno, h0, hb⟩ := hrel
  have HNO := hid hno
  clear hno
  by_cases hlt : k < 12
  ·have hki : (k : Int) < 12 := by omega
   have hc := h0.cell hlt
   have HS := hid (clsTo_succ r k)
   have HH := hid (fun h => cls_no (r := r) hlt h)
   have CI := hid (above_any r (k : Int) wr (HK.out _ hb))
   rw [HNO.out] at HS
   have h2 : ∀ wx, Below wr.heap.size wr wx → BRow wx w.heap.size r := fun wx hx => h0.below hx h0.lt
   have H2 := hid h2
   have HB := hid (fun wx (hx : Below wr.heap.size wr wx) => hb.trans (hx.mono hb.size))
   clear h2
   cases hr : r k
   ·rw [hr] at hc HS HH
    clear hr
    cases hm : abv r (k : Int)
    ·rw [hm] at CI HS
     have HM : Hid (clsTo r (k + 1) = true) := hid (by rw [HS.out]; rfl)
     clear hm HH HS
     go_wp2_with (first
      | (with_reducible refine wpList_load_rowB_g h0 _ rfl (by kernel_rfl) rfl ?_)
      | (go_at_call 122; refine (CI.out).mono ?_; rintro e w' ⟨rfl, hbb⟩))
     go_roundw
     case rel => exact ⟨k + 1, by omega, by go_num, HM.out, H2.out _ hbb, HB.out _ hbb⟩
     case measure => simp [intOf]; omega
    ·rw [hm] at CI HH
     have HM : Hid (false = cls r) := hid (HH.out rfl).symm
     clear hm HH HS
     go_wp2_with (first
      | (with_reducible refine wpList_load_rowB_g h0 _ rfl (by kernel_rfl) rfl ?_)
      | (go_at_call 122; refine (CI.out).mono ?_; rintro e w' ⟨rfl, hbb⟩))
     go_ret
     exact ⟨lret_b HM.out, HB.out _ hbb⟩
   ·rw [hr] at hc HS
    clear hr HH
    have HM : Hid (clsTo r (k + 1) = true) := hid (by rw [HS.out]; rfl)
    go_wp2_with fail
    go_roundw
    case rel => exact ⟨k + 1, by omega, by go_num, HM.out, h0, hb⟩
    case measure => simp [intOf]; omega
  ·have hkn : k = 12 := by omega
   subst hkn
   have HM : Hid (true = cls r) := hid HNO.out.symm
   go_wp2_with fail
   go_ret
   exact ⟨lret_b HM.out, hb⟩
theorem below_app0 {B B' : Nat} {W wr w1 : World} {o : Obj} {e : TypeId} {n size : Nat} {v : Value} {xs : List Value} (hb : Below B W wr) (hB : B ≤ W.heap.size) (hown : wr.ownsRow B' e size v n xs) (hBB : B ≤ B')
  (hg : (wr.alloc o).grownBy w1 v.ownBlock) : Below B W w1 :=
 (hb.alloc (Nat.le_trans hB hb.size) o).grown hg (by have := hb.size; simp; omega) fun k hk => Nat.le_trans hBB (hown.lt k hk).1
def natV (l : List Nat) : List Value := l.map fun i : Nat => Value.int .i64 (i : Int)
theorem natV_snoc (l : List Nat) (k : Nat) : natV (l ++ [k]) = natV l ++ [.int .i64 (k : Int)] := by simp [natV]
theorem infoIntL : (Tryz.prog.info? 3).map (fun i => (i.zero, i.size, i.bytes)) = some (some (.int .i64 0), 1, 8) := by kernel_rfl
end

section
open Go.RowKit
def eqlB (r s : Nat → Bool) : Bool := (List.range 12).all fun i => r i == s i
theorem eqlB_one {r s : Nat → Bool} (h : ∀ i, i < 12 → r i = s i) : eqlB r s = true := by
 unfold eqlB
 rw [List.all_eq_true]
 intro i hi
 rw [h i (List.mem_range.1 hi)]; simp
theorem items_rowB2 (r s : Nat → Bool) (w : World) : ∀ (is : List Nat), (∀ i ∈ is, i < 12) → (Op.eqItems 9999 4 1 (rowB r) (rowB s) is).run Tryz.prog w = .ok (is.all fun i => r i == s i) w
 | [], _ => by simp [Op.eqItems]
 | i :: is, h => by
  have hi := h i List.mem_cons_self
  have h1 := rowB_at r hi
  have h2 := rowB_at s hi
  have ih := items_rowB2 r s w is (fun j hj => h j (List.mem_cons_of_mem _ hj))
  have hp : (part 4 (rowB r) (i * 1)).run Tryz.prog w = .ok (.bool (r i)) w := by
   simp [part, isAgg, Sem.run_bind, run_underlying Tryz.underlying4 w, h1]
  have hq : (part 4 (rowB s) (i * 1)).run Tryz.prog w = .ok (.bool (s i)) w := by
   simp [part, isAgg, Sem.run_bind, run_underlying Tryz.underlying4 w, h2]
  have he : (Op.equalIn (9998 + 1) 4 (.bool (r i)) (.bool (s i))).run Tryz.prog w = .ok (r i == s i) w := by
   rw [run_equalIn_bool w 9998 4 _ _ Tryz.underlying4]
  simp only [Op.eqItems, Sem.run_bind, hp, hq, Result.andThen_ok, List.all_cons]
  rw [he]
  cases hrs : (r i == s i) with
  | true =>
   simp only [Result.andThen_ok, Bool.not_true, Bool.false_eq_true, if_false, Bool.true_and]
   exact ih
  | false => simp
theorem run_eql_rowB2 (r s : Nat → Bool) (w : World) : (binOp .eql 49 (.agg (rowB r)) (.agg (rowB s))).run Tryz.prog w = .ok (.bool (eqlB r s)) w := by
 obtain ⟨i, hi, _⟩ := Option.map_eq_some_iff.1 infoBool
 have hc : Tryz.prog.cellsOf 4 = 1 := by kernel_rfl
 rw [run_eql_struct, run_equalIn_array w 9999 (rowB r) (rowB s) Tryz.underlying49 hi, hc, items_rowB2 r s w _ (fun i hi => List.mem_range.1 hi)]
 rfl
theorem wpList_load_midG {P : Program} {ops : Array Oper} {rest : List Oper} {op : Oper} {a : Act} {w : World} {Q : Exit → Act → World → Prop} (ty : TypeId) (x : Operand) (ho : op.op = .load ty x) (hw : Region.wanted op (yielded ops a.tmps) = true)
  (b o : Nat) (hx : a.eval x = .pointer (some ⟨b, o, none⟩)) (cs : List Value) (d : TypeDesc) (hc : w.rangeAt b o cs)
  (hu : P.underlying ty = some d) (hd : d.isRow = true) (hi : (P.info? ty).map (·.size) = some cs.length)
  (h : wpList P ops Q rest (a.put op.dst (.agg cs.toArray)) w) : wpList P ops Q (op :: rest) a w :=
 wpList_step fun K hK => by rw [if_pos hw]; exact wp_load_mid ty x ho b o hx cs d hc hu hd hi (hK _ _ h)
theorem VecAt.boxed (w : World) (r : Nat → Bool) (ws : Nat → Value × Value) : VecAt (w.alloc (.cells (vecL r ws).toArray 52)) w.heap.size r ws := VecAt.made w _ r ws
theorem vsame_any (r s : Nat → Bool) (ws us : Nat → Value × Value) (w : World) :
  Calls Tryz.prog 26 #[.agg (vecL r ws).toArray, .agg (vecL s us).toArray] w fun e w' => e = .returned (.bool (eqlB r s)) ∧ Below w.heap.size w w' := by
 have v1 := VecAt.boxed w r ws
 have b1 := box_below w (.cells (vecL r ws).toArray 52)
 have v2 := VecAt.boxed (w.alloc (.cells (vecL r ws).toArray 52)) s us
 have b2 := box_below (w.alloc (.cells (vecL r ws).toArray 52)) (.cells (vecL s us).toArray 52)
 have hs : (w.alloc (.cells (vecL r ws).toArray 52)).heap.size = w.heap.size + 1 := by simp
 have v1 := v1.below b2 (by rw [hs]; omega)
 rw [hs] at v2
 have hb := below_then b1 b2
 have G0 := fun (x y : Operand) (w : World) => guard_rowB .eql x y r s w
 have E0 := fun (w : World) => run_eql_rowB2 r s w
 have r1 := v1.row
 have r2 := v2.row
 clear b1 b2 hs v1 v2
 go_enter Tryz.func26, Tryz.ntmps26
 go_upto_region 1 with fail
 generalize (w.alloc (.cells (vecL r ws).toArray 52)).alloc (.cells (vecL s us).toArray 52) = w2 at *
 go_wp2_with (first
  | (with_reducible refine wpList_load_mid rfl 49 _ rfl w.heap.size 0 rfl (rowB r).toList _ r1 Tryz.underlying49 rfl (by kernel_rfl) ?_)
  | (with_reducible refine wpList_load_mid rfl 49 _ rfl (w.heap.size + 1) 0 rfl (rowB s).toList _ r2 Tryz.underlying49 rfl (by kernel_rfl) ?_))
 go_ret
 exact ⟨rfl, hb⟩
theorem vempty_any (oo so : Option Addr) (n m oc sc : Nat) (w : World) :
  Calls Tryz.prog 77 #[.agg #[.slice oo n oc, .slice so m sc]] w fun e w' => e = .returned (.bool (decide (n = 0) && decide (m = 0))) ∧ Below w.heap.size w w' := by
 have W1 := WitT.made w (.slice oo n oc) (.slice so m sc) 39
 have hb := box_below w (.cells #[.slice oo n oc, .slice so m sc] 39)
 have HE : ∀ k : Nat, (((k : Nat) : Int) == 0) = decide (k = 0) := fun k => by rw [Bool.eq_iff_iff, beq_iff_eq, decide_eq_true_eq]; omega
 have HN := hid (HE n)
 have HM := hid (HE m)
 clear HE
 obtain ⟨c0, c1⟩ := W1
 cases hn : decide (n = 0) with
 | false =>
  rw [hn] at HN
  have hn1 := HN.out
  have hn2 : ¬ (n : Int) = 0 := by have := of_decide_eq_false hn; omega
  clear hn HM
  go_enter Tryz.func77, Tryz.ntmps77
  go_wp2_with fail
  go_ret
  exact ⟨rfl, hb⟩
 | true =>
  rw [hn] at HN
  have hn1 := HN.out
  have hn2 : (n : Int) = 0 := by have := of_decide_eq_true hn; omega
  have hm1 := HM.out
  generalize decide (m = 0) = q at *
  clear hn
  go_enter Tryz.func77, Tryz.ntmps77
  go_wp2_with fail
  go_ret
  refine ⟨?_, hb⟩
  simp
end

section
open Go.RowKit
def vrgAt (h : List TxnV) (r : Nat → Bool) (lo : Nat → List Int) (ls : Nat → List (List Int)) (i : Nat) : Bool := if r i = true then acceptsB h (i : Int) (lo i) (ls i) else decide ((lo i).length = 0) && decide ((ls i).length = 0)
def vrgTo (h : List TxnV) (r : Nat → Bool) (lo : Nat → List Int) (ls : Nat → List (List Int)) (k : Nat) : Bool := (List.range k).all (vrgAt h r lo ls)
def vrgB (h : List TxnV) (r : Nat → Bool) (lo : Nat → List Int) (ls : Nat → List (List Int)) : Bool := vrgTo h r lo ls 12 && cls r
theorem vrgTo_succ (h : List TxnV) (r : Nat → Bool) (lo : Nat → List Int) (ls : Nat → List (List Int)) (k : Nat) : vrgTo h r lo ls (k + 1) = (vrgTo h r lo ls k && vrgAt h r lo ls k) := by
 unfold vrgTo; rw [List.range_succ, List.all_append]; simp
theorem vrg_no {h : List TxnV} {r : Nat → Bool} {lo : Nat → List Int} {ls : Nat → List (List Int)} {k : Nat} (hk : k < 12) (hn : vrgAt h r lo ls k = false) : vrgB h r lo ls = false := by
 have : vrgTo h r lo ls 12 = false := by
  unfold vrgTo
  rw [List.all_eq_false]
  exact ⟨k, List.mem_range.2 hk, by rw [hn]; simp⟩
 unfold vrgB
 rw [this]; rfl
theorem vright_any (h : List TxnV) (B b : Nat) (r : Nat → Bool) (ws : Nat → Value × Value) (lo : Nat → List Int) (ls : Nat → List (List Int)) (w : World) (hO : OrdIs w B b h) (hc : checkI h = 0) (ht : Tab w) (hK : Kinds w)
  (hI : ∀ i, i < 12 → Ints w (ws i).1 (lo i)) (hL : ∀ i, i < 12 → Lists w (ws i).2 (ls i)) :
  Calls Tryz.prog 27 #[.agg (vecL r ws).toArray, .pointer (some ⟨B, 0, none⟩)] w fun e w' => e = .returned (.bool (vrgB h r lo ls)) ∧ Below w.heap.size w w' := by
 have hg := ht.pos
 have CA := hid (fun (k : Nat) wx (hk : k < 12) (hx : Below w.heap.size w wx) => aaccepts_any (k : Int) (ws k).1 (ws k).2 (lo k) (ls k) h B b wx (hO.below hx) hc (ht.below hx hg) (hK.below hx) ((hI k hk).below hx) ((hL k hk).below hx))
 have CC := hid (fun wx (hx : Below w.heap.size w wx) => tclosed_any r wx (hK.below hx))
 have HF : Hid (∀ k, k < 12 → ∃ oo oc so sc, ws k = (.slice oo (lo k).length oc, .slice so (ls k).length sc)) := hid (fun k hk => by
  obtain ⟨oo, oc, e1, _⟩ := (hI k hk).form
  obtain ⟨so, sc, e2, _⟩ := (hL k hk).form
  exact ⟨oo, oc, so, sc, by rw [← e1, ← e2]⟩)
 have v1 := VecAt.boxed w r ws
 have hb := box_below w (.cells (vecL r ws).toArray 52)
 clear hO hc ht hK hI hL hg
 go_enter Tryz.func27, Tryz.ntmps27
 go_upto_region 1 with fail
 generalize w.alloc (.cells (vecL r ws).toArray 52) = w2 at *
 have r1 := v1.row
 go_wp2_with (with_reducible refine wpList_load_mid rfl 49 _ rfl w.heap.size 0 rfl (rowB r).toList _ r1 Tryz.underlying49 rfl (by kernel_rfl) ?_)
 clear r1
 go_loopw [9] (fun i wr => ∃ k : Nat, k ≤ 12 ∧ i = .int .i64 k ∧ vrgTo h r lo ls k = true ∧ VecAt wr w.heap.size r ws ∧ Below w.heap.size w wr) (fun i _ => 12 - (intOf i).toNat)
 case atStart => exact ⟨0, by omega, rfl, rfl, v1, hb⟩
 case round =>
  obtain ⟨k, hk, rfl, hno, v, hbr⟩ := hrel
  by_cases hlt : k < 12
  ·have hki : (k : Int) < 12 := by omega
   have HX := fun wx => run_index_rowB r k hlt wx
   have HS := hid (vrgTo_succ h r lo ls k)
   have HN := hid (fun e => vrg_no (h := h) (r := r) (lo := lo) (ls := ls) hlt e)
   rw [hno] at HS
   have hwy := v.why hlt
   have e12 : 12 + 2 * k = 12 + k * 2 := by omega
   rw [e12] at hwy
   have hd0 : decide ((k : Int) < 0) = false := decide_eq_false (by omega)
   have hd1 : decide ((12 : Int) ≤ (k : Int)) = false := decide_eq_false (by omega)
   have hd2 : decide (12 ≤ k) = false := decide_eq_false (by omega)
   have V := hid v
   have CA1 := hid (CA.out k wr hlt hbr)
   obtain ⟨oo, oc, so, sc, hw⟩ := HF.out k hlt
   rw [hw] at hwy CA1
   have CE := hid (vempty_any oo so (lo k).length (ls k).length oc sc wr)
   have HA : Hid (vrgAt h r lo ls k = if r k = true then acceptsB h (k : Int) (lo k) (ls k) else decide ((lo k).length = 0) && decide ((ls k).length = 0)) := hid rfl
   clear v hno hw e12
   generalize acceptsB h (k : Int) (lo k) (ls k) = acc at *
   generalize (decide ((lo k).length = 0) && decide ((ls k).length = 0)) = emp at *
   cases hr : r k with
   | true =>
    rw [hr] at HX HA
    have HA : Hid (vrgAt h r lo ls k = acc) := hid (by rw [HA.out]; rfl)
    clear CE hr
    cases acc with
    | true =>
     have HM : Hid (vrgTo h r lo ls (k + 1) = true) := hid (by rw [HS.out, HA.out]; rfl)
     clear HS HN HA
     go_wp2_with (with_reducible refine wpList_load_midG 39 _ rfl (by kernel_rfl) w.heap.size (12 + k * 2) rfl [.slice oo (lo k).length oc, .slice so (ls k).length sc] _ hwy Tryz.underlying39 rfl (by kernel_rfl) ?_)
     refine CA1.out.mono ?_
     rintro e w4 ⟨rfl, h4⟩
     have v4 := hid (V.out.below h4 V.out.lt)
     have hb4 := below_then hbr h4
     clear CA1 h4 V hbr hwy
     go_wp2_with fail
     go_roundw
     case rel => exact ⟨k + 1, by omega, by go_num, HM.out, v4.out, hb4⟩
     case measure => simp [intOf]; omega
    | false =>
     have HM : Hid (vrgB h r lo ls = false) := hid (HN.out HA.out)
     clear HS HN HA
     go_wp2_with (with_reducible refine wpList_load_midG 39 _ rfl (by kernel_rfl) w.heap.size (12 + k * 2) rfl [.slice oo (lo k).length oc, .slice so (ls k).length sc] _ hwy Tryz.underlying39 rfl (by kernel_rfl) ?_)
     refine CA1.out.mono ?_
     rintro e w4 ⟨rfl, h4⟩
     have hb4 := below_then hbr h4
     clear CA1 h4 V hbr hwy
     go_wp2_with fail
     go_ret
     exact ⟨ret_v HM.out.symm, hb4⟩
   | false =>
    rw [hr] at HX HA
    have HA : Hid (vrgAt h r lo ls k = emp) := hid (by rw [HA.out]; rfl)
    clear CA1 hr
    cases emp with
    | true =>
     have HM : Hid (vrgTo h r lo ls (k + 1) = true) := hid (by rw [HS.out, HA.out]; rfl)
     clear HS HN HA
     go_wp2_with (with_reducible refine wpList_load_midG 39 _ rfl (by kernel_rfl) w.heap.size (12 + k * 2) rfl [.slice oo (lo k).length oc, .slice so (ls k).length sc] _ hwy Tryz.underlying39 rfl (by kernel_rfl) ?_)
     refine CE.out.mono ?_
     rintro e w4 ⟨rfl, h4⟩
     have v4 := hid (V.out.below h4 V.out.lt)
     have hb4 := below_then hbr h4
     clear CE h4 V hbr hwy
     go_wp2_with fail
     go_roundw
     case rel => exact ⟨k + 1, by omega, by go_num, HM.out, v4.out, hb4⟩
     case measure => simp [intOf]; omega
    | false =>
     have HM : Hid (vrgB h r lo ls = false) := hid (HN.out HA.out)
     clear HS HN HA
     go_wp2_with (with_reducible refine wpList_load_midG 39 _ rfl (by kernel_rfl) w.heap.size (12 + k * 2) rfl [.slice oo (lo k).length oc, .slice so (ls k).length sc] _ hwy Tryz.underlying39 rfl (by kernel_rfl) ?_)
     refine CE.out.mono ?_
     rintro e w4 ⟨rfl, h4⟩
     have hb4 := below_then hbr h4
     clear CE h4 V hbr hwy
     go_wp2_with fail
     go_ret
     exact ⟨ret_v HM.out.symm, hb4⟩
  ·obtain rfl : k = 12 := by omega
   have hki : ¬ ((12 : Nat) : Int) < 12 := by omega
   have HM : Hid (vrgB h r lo ls = cls r) := hid (by unfold vrgB; rw [hno]; rfl)
   have r1 := v.row
   have CC1 := hid (CC.out wr hbr)
   clear v hno CA CC
   go_wp2_with (with_reducible refine wpList_load_mid rfl 49 _ rfl w.heap.size 0 rfl (rowB r).toList _ r1 Tryz.underlying49 rfl (by kernel_rfl) ?_)
   refine CC1.out.mono ?_
   rintro e w4 ⟨rfl, h4⟩
   have hb4 := below_then hbr h4
   go_wp2_with fail
   go_ret
   exact ⟨ret_v HM.out.symm, hb4⟩
end

section
open Go.RowKit
section
variable {h : List TxnV}
theorem dec_told (hc : checkI h = 0) {lv : Int} (hy : (decW h lv).2.2 = true) : acceptsB h lv (decW h lv).1 (decW h lv).2.1 = true := by
 rw [decW_some hc, Option.isSome_iff_exists] at hy
 obtain ⟨r, hf⟩ := hy
 obtain ⟨X, hX⟩ := least_ex h (askN lv) (r.map Int.ofNat)
 exact dec_accepts hc hf hX
theorem acc_cls (hc : checkI h = 0) : cls (accV h) = true := by
 unfold cls clsTo
 rw [List.all_eq_true]
 intro b _
 cases hb : accV h b with
 | true => simp
 | false =>
  cases ha : abv (accV h) (b : Int) with
  | false => simp
  | true =>
   unfold abv abvTo at ha
   rw [List.any_eq_true] at ha
   obtain ⟨a, _, ha⟩ := ha
   simp only [Bool.and_eq_true] at ha
   have := dec_implied hc ha.2.2 ha.1
   unfold accV at hb
   rw [hb] at this
   cases this
theorem vec_right (hc : checkI h = 0) : vrgB h (accV h) (fun i => (decW h (i : Int)).1) (fun i => (decW h (i : Int)).2.1) = true := by
 unfold vrgB vrgTo
 rw [acc_cls hc, Bool.and_true, List.all_eq_true]
 intro i _
 unfold vrgAt accV
 cases hy : (decW h (i : Int)).2.2 with
 | true => rw [if_pos rfl]; exact dec_told hc hy
 | false =>
  obtain ⟨e1, e2⟩ := decW_none h (i : Int) hy
  rw [if_neg (by simp)]
  simp only [e1, e2]; rfl
end
theorem info_vec (r : Nat → Bool) (ws : Nat → Value × Value) : (Tryz.prog.info? 52).map (·.size) = some (vecL r ws).length := by rw [vecL_len]; kernel_rfl
theorem info_vecA (r : Nat → Bool) (ws : Nat → Value × Value) : (Tryz.prog.info? 52).map (·.size) = some (vecL r ws).toArray.size := by rw [show (vecL r ws).toArray.size = 36 from vecL_len _ _]; kernel_rfl
theorem vec_put (w : World) (r : Nat → Bool) (ws : Nat → Value × Value) : VecAt ((w.alloc (.cells Z36 52)).setCells w.heap.size 0 (vecL r ws)) w.heap.size r ws ∧ Below w.heap.size w ((w.alloc (.cells Z36 52)).setCells w.heap.size 0 (vecL r ws)) ∧ (w.alloc (.cells Z36 52)).there w.heap.size 0 (vecL r ws).toArray.size :=
 ⟨(VecAt.zero w).put r ws, below_putC (Nat.le_refl _) _ _ _ (box_below w _), by rw [show (vecL r ws).toArray.size = 36 from vecL_len _ _]; exact (VecAt.zero w).there (by omega)⟩
def WitsIn (h : List TxnV) (ws : Nat → Value × Value) (b0 : Nat) (w : World) : Prop := ∀ i, i < 12 → OwnW w b0 (ws i).1 (ws i).2 (decW h (i : Int)).1 (decW h (i : Int)).2.1
section
variable {h : List TxnV} {ws : Nat → Value × Value} {b0 : Nat} {w w' : World}
theorem WitsIn.below (q : WitsIn h ws b0 w) (hb : Below w.heap.size w w') : WitsIn h ws b0 w' := fun i hi => (q i hi).below hb
theorem WitsIn.one (q : WitsIn h ws b0 w) (r : Nat → Bool) : (vecL r ws).toArray.all (·.oneCell') = true := vecL_one fun i hi => by
 obtain ⟨_, _, _, _, _, _, e1, e2⟩ := (q i hi).form
 rw [e1, e2]; exact ⟨rfl, rfl⟩
end
theorem vof_ok {w0 w : World} {B b : Nat} {h : List TxnV} (much : Int) (F : Nat) (hF : fuelN much = F) (hO : OrdIs w0 B b h) (ht : Tab w0) (hK : Kinds w0) (hc : checkI h = 0) (hb : Below w0.heap.size w0 w) (hM : ∀ l : Nat, l < 12 → (decN h (l : Int)).2.2 + 2 ≤ 1099511627776) (hl : Lasts F 0 (vecTo h 12).2) :
  Calls Tryz.prog 23 #[.pointer (some ⟨B, 0, none⟩), .int .i64 much] w fun e w' => (∃ ws, e = .returned (.tuple #[.agg (vecL (accV h) ws).toArray, .int .i64 0]) ∧ WitsIn h ws w.heap.size w') ∧ Below w.heap.size w w' := by
 refine (vof_any much F hF hO ht hK hc hb hM).mono ?_
 rintro e w' ⟨hb', ⟨_, ws, rfl, hw⟩ | ⟨hn, _⟩⟩
 ·exact ⟨⟨ws, rfl, hw⟩, hb'⟩
 ·exact (hn hl).elim
theorem vof_no {w0 w : World} {B b : Nat} {h : List TxnV} (much : Int) (F : Nat) (hF : fuelN much = F) (hO : OrdIs w0 B b h) (ht : Tab w0) (hK : Kinds w0) (hc : checkI h = 0) (hb : Below w0.heap.size w0 w) (hM : ∀ l : Nat, l < 12 → (decN h (l : Int)).2.2 + 2 ≤ 1099511627776) (hl : ¬ Lasts F 0 (vecTo h 12).2) :
  Calls Tryz.prog 23 #[.pointer (some ⟨B, 0, none⟩), .int .i64 much] w fun e w' => e = .returned (.tuple #[.agg (vecL noB wZ0).toArray, .int .i64 4]) ∧ Below w.heap.size w w' := by
 refine (vof_any much F hF hO ht hK hc hb hM).mono ?_
 rintro e w' ⟨hb', ⟨hy, _⟩ | ⟨_, rfl⟩⟩
 ·exact (hl hy).elim
 ·exact ⟨rfl, hb'⟩
theorem vec_few {h : List TxnV} (hn : h.length ≤ 7) : ∀ l : Nat, l < 12 → (decN h (l : Int)).2.2 + 2 ≤ 1099511627776 := fun l _ => by
 have h1 := dec_tries h (l : Int)
 have h2 := tr_le h.length hn
 omega
end

section
open Go.RowKit
theorem nil_check : checkI [] = 0 := by rfl
theorem nil_cost : (vecTo [] 12).2 = 0 := by kernel_rfl
theorem nil_acc : ∀ i : Fin 12, accV [] i.val = true := by decide +kernel
theorem nil_few : ∀ l : Nat, l < 12 → (decN [] (l : Int)).2.2 + 2 ≤ 1099511627776 := vec_few (by simp)
theorem nil_ne : eqlB (accV []) noB = false := by decide +kernel
theorem speaks18_any (w : World) (ht : Tab w) (hK : Kinds w) :
  Calls Tryz.prog 21 #[] w fun e w' => e = .returned (.bool true) ∧ Below w.heap.size w w' := by
 have hg := ht.pos
 have CO := hid (of_done (.slice none 0 0) [] w (txns_none w) (fun t ht => (by cases ht)) (fun t ht => (by cases ht)) nil_check)
 have HT : Hid (∀ wx, Below w.heap.size w wx → Tab wx ∧ Kinds wx) := hid (fun wx hb => ⟨ht.below hb hg, hK.below hb⟩)
 have HC := hid nil_check
 have HM := hid nil_few
 have HL : Hid (Lasts 0 0 (vecTo [] 12).2) := hid (.inr (by rw [nil_cost]; omega))
 have e0 : fuelN 0 = 0 := by decide +kernel
 have HE := hid e0
 have HA := hid nil_acc
 have HN := hid nil_ne
 have HR := hid (vec_right nil_check)
 have HCL := hid (acc_cls nil_check)
 generalize ([] : List TxnV) = h at *
 clear ht hK e0
 go_enter Tryz.func21, Tryz.ntmps21
 go_wp2_with fail
 refine CO.out.mono ?_
 rintro e w2 ⟨⟨B, rfl, hB, hO⟩, h2⟩
 have hTK := HT.out _ h2
 have CV := hid (vof_ok (w := w2) 0 0 HE.out hO hTK.1 hTK.2 HC.out (Below.refl _ _) HM.out HL.out)
 have HO := hid (fun wx (hx : Below w2.heap.size w2 wx) => hO.below hx)
 clear CO hO hTK
 go_wp2_with fail
 refine CV.out.mono ?_
 rintro e w3 ⟨⟨ws, rfl, hW⟩, h3⟩
 obtain ⟨V7, hb7, hth⟩ := vec_put w3 (accV h) ws
 have hone := hW.one (accV h)
 have hinf := info_vecA (accV h) ws
 have hinf2 := info_vec (accV h) ws
 have h27 := below_then h3 hb7
 have W7 := hW.below hb7
 have hbW := below_then h2 h27
 have hTK := HT.out _ hbW
 have CR := hid (vright_any h B (B + 2) (accV h) ws (fun i => (decW h (i : Int)).1) (fun i => (decW h (i : Int)).2.1) _ (HO.out _ h27) HC.out hTK.1 hTK.2 (fun i hi => (W7 i hi).ints) (fun i hi => (W7 i hi).lists))
 rw [HR.out] at CR
 have HK := hid (fun wx (hx : Below w.heap.size w wx) => tclosed_any (accV h) wx (HT.out _ hx).2)
 rw [HCL.out] at HK
 clear CV h3 h27 h2 hW HO hb7 W7 hTK
 go_upto_region 5 with (with_reducible refine wpList_store_mid rfl 52 _ _ rfl w3.heap.size 0 (vecL (accV h) ws).toArray rfl rfl hth hinf hone ?_)
 generalize (w3.alloc (.cells Z36 52)).setCells w3.heap.size 0 (vecL (accV h) ws) = w7 at *
 generalize w3.heap.size = g7 at *
 have c11 := (V7 11 (by omega)).1
 have c0 := (V7 0 (by omega)).1
 rw [show vecF (accV h) ws 11 = .bool true from congrArg Value.bool (HA.out 11)] at c11
 rw [show vecF (accV h) ws 0 = .bool true from congrArg Value.bool (HA.out 0)] at c0
 have hall := V7.all
 have hrow := V7.row
 have HV7 := hid V7
 have CS := hid (fun wx => vsame_any (accV h) (accV h) ws ws wx)
 rw [eqlB_one fun _ _ => rfl] at CS
 have CZ := hid (fun wx => vsame_any (accV h) noB ws wZ0 wx)
 rw [HN.out, ← vec_zero] at CZ
 clear hth V7
 go_wp2_with (with_reducible refine wpList_load_midG 52 _ rfl (by kernel_rfl) g7 0 rfl (vecL (accV h) ws) _ hall Tryz.underlying52 rfl hinf2 ?_)
 refine CR.out.mono ?_
 rintro e w8 ⟨rfl, h8⟩
 have V8 := HV7.out.below h8 HV7.out.lt
 have hb8 := below_then hbW h8
 have hrow := V8.row
 have HV8 := hid V8
 have CK := hid (HK.out w8 hb8)
 clear CR h8 hall V8 HV7 c11 c0 hbW
 go_wp2_with (with_reducible refine wpList_load_midG 49 _ rfl (by kernel_rfl) g7 0 rfl (rowB (accV h)).toList _ hrow Tryz.underlying49 rfl (by kernel_rfl) ?_)
 refine CK.out.mono ?_
 rintro e w9 ⟨rfl, h9⟩
 have V9 := HV8.out.below h9 HV8.out.lt
 have hb9 := below_then hb8 h9
 have hall := V9.all
 have HV9 := hid V9
 clear CK h9 hrow V9 HV8 hb8
 go_wp2_with (with_reducible refine wpList_load_midG 52 _ rfl (by kernel_rfl) g7 0 rfl (vecL (accV h) ws) _ hall Tryz.underlying52 rfl hinf2 ?_)
 refine (CS.out _).mono ?_
 rintro e wA ⟨rfl, hA⟩
 have VA := HV9.out.below hA HV9.out.lt
 have hbA := below_then hb9 hA
 have hall := VA.all
 clear CS hA VA HV9 hb9
 go_wp2_with (with_reducible refine wpList_load_midG 52 _ rfl (by kernel_rfl) g7 0 rfl (vecL (accV h) ws) _ hall Tryz.underlying52 rfl hinf2 ?_)
 refine (CZ.out _).mono ?_
 rintro e wB ⟨rfl, hB⟩
 have hbB := below_then hbA hB
 clear CZ hB hall hbA
 go_wp2_with fail
 go_ret
 exact ⟨rfl, hbB⟩
end

section
open Go.RowKit
def hasI (k : Nat) (t : Int) : Bool := hasT k t.toNat
theorem rl_hasI (k : Nat) (hk : k < 64) (t : Int) (w : World) (ht : 0 < t) (ht2 : t ≤ 32) : Calls Tryz.prog 42 #[.int .i64 k, .int .i64 t] w fun e w' => e = .returned (.bool (hasI k t)) ∧ w = w' := by
 obtain ⟨n, rfl⟩ := Int.eq_ofNat_of_zero_le (Int.le_of_lt ht)
 exact rl_has k n hk (by omega) (by omega) w
def clV (h16 h4 h32 h1 h2 h8 : Bool) : Int :=
 (if h1 || h32 then 1 else 0) + (if h2 || (h4 || h16) then 2 else 0) + (if h4 || h16 then 4 else 0) + (if h8 || h16 then 8 else 0) + (if h16 then 16 else 0) + (if h32 then 32 else 0)
theorem clV_eq : ∀ k : Fin 64, ((clN k.val : Nat) : Int) = clV (hasI k.val 16) (hasI k.val 4) (hasI k.val 32) (hasI k.val 1) (hasI k.val 2) (hasI k.val 8) := by decide +kernel
theorem rl_closed (k : Nat) (hk : k < 64) (w : World) : Calls Tryz.prog 43 #[.int .i64 k] w fun e w' => e = .returned (.int .i64 (clN k)) ∧ w = w' := by
 have H := clV_eq ⟨k, hk⟩
 have C := hid (rl_hasI k hk)
 simp only at H
 cases h16 : hasI k 16 <;> cases h4 : hasI k 4 <;> cases h32 : hasI k 32 <;> cases h1 : hasI k 1 <;> cases h2 : hasI k 2 <;> cases h8 : hasI k 8
 all_goals
  rw [h16, h4, h32, h1, h2, h8] at H
  have HH := hid H
  clear H
  rw [HH.out]
  clear HH
  go_enter Tryz.func43, Tryz.ntmps43
  go_wp2_with (go_at_call 42; refine (C.out _ _ (by omega) (by omega)).mono ?_; rintro e w' ⟨rfl, rfl⟩)
  go_ret
  exact ⟨rfl, rfl⟩
end

section
open Go.RowKit
def chkB (a b : Int) (k : Nat) : Bool := (List.range k).all fun i => !(hasT (askN b) (2 ^ i) && !hasT (clN (askN a)) (2 ^ i))
theorem chkB_succ (a b : Int) (k : Nat) : chkB a b (k + 1) = (chkB a b k && !(hasT (askN b) (2 ^ k) && !hasT (clN (askN a)) (2 ^ k))) := by
 unfold chkB; rw [List.range_succ, List.all_append]; simp
theorem impB_chk : ∀ a b : Fin 12, impB (a.val : Int) (b.val : Int) = chkB (a.val : Int) (b.val : Int) 6 := by decide +kernel
theorem impB_chk' {a b : Int} (ha : isLv a = true) (hb : isLv b = true) : impB a b = chkB a b 6 := by
 have h1 : 0 ≤ a ∧ a < 12 := by simpa [isLv] using ha
 have h2 : 0 ≤ b ∧ b < 12 := by simpa [isLv] using hb
 have := impB_chk ⟨a.toNat, by omega⟩ ⟨b.toNat, by omega⟩
 simp only at this
 rwa [Int.toNat_of_nonneg h1.1, Int.toNat_of_nonneg h2.1] at this
theorem chkB_no {a b : Int} {k : Nat} (hk : k < 6) (h : (!(hasT (askN b) (2 ^ k) && !hasT (clN (askN a)) (2 ^ k))) = false) : chkB a b 6 = false := by
 unfold chkB
 rw [List.all_eq_false]
 exact ⟨k, List.mem_range.2 hk, by rw [h]; simp⟩
theorem pow_six : ∀ i : Fin 6, 0 < 2 ^ i.val ∧ 2 ^ i.val ≤ 32 := by decide
theorem rimp_any (a b : Int) (w : World) : Calls Tryz.prog 83 #[.int .i64 a, .int .i64 b] w fun e w' => e = .returned (.bool (impB a b)) ∧ w = w' := by
 by_cases hin : (0 ≤ a ∧ a < 12) ∧ 0 ≤ b ∧ b < 12
 ·obtain ⟨⟨a0, a1⟩, b0, b1⟩ := hin
  have ha : isLv a = true := by simpa [isLv] using ⟨a0, a1⟩
  have hb : isLv b = true := by simpa [isLv] using ⟨b0, b1⟩
  have HI := hid (impB_chk' ha hb)
  have hal := askN_lt a
  have hbl := askN_lt b
  have hcl := clN_lt ⟨askN a, hal⟩
  simp only at hcl
  have CA := hid (fun wx => rl_asks a wx)
  have CB := hid (fun wx => rl_asks b wx)
  have CC := hid (fun wx => rl_closed (askN a) hal wx)
  have HS := hid (chkB_succ a b)
  have HN := hid (fun k => chkB_no (a := a) (b := b) (k := k))
  have CW := hid (fun t wx h1 h2 => rl_has (askN b) t hbl h1 h2 wx)
  have CH := hid (fun t wx h1 h2 => rl_has (clN (askN a)) t hcl h1 h2 wx)
  clear ha hb hal hbl hcl
  rw [HI.out]
  clear HI
  generalize clN (askN a) = hv at *
  generalize askN a = aa at *
  generalize askN b = wt at *
  have a2 : a ≤ 11 := by omega
  have b2 : b ≤ 11 := by omega
  go_enter Tryz.func83, Tryz.ntmps83
  go_wp2_with fail
  refine (CA.out _).mono ?_
  rintro e w' ⟨rfl, rfl⟩
  go_wp2_with fail
  refine (CC.out _).mono ?_
  rintro e w' ⟨rfl, rfl⟩
  go_wp2_with fail
  refine (CB.out _).mono ?_
  rintro e w' ⟨rfl, rfl⟩
  go_wp2_with fail
  go_loopw [7] (fun v wr => ∃ k t : Nat, k ≤ 6 ∧ Hid (2 ^ k = t) ∧ v = .int .i64 (t : Int) ∧ chkB a b k = true ∧ w = wr) (fun v _ => 64 - (intOf v).toNat)
  case atStart => exact ⟨0, 1, by omega, hid rfl, rfl, rfl, rfl⟩
  case round =>
   obtain ⟨k, t, hk, HT, rfl, hno, rfl⟩ := hrel
   have HNO := hid hno
   clear hno
   by_cases hlt : k < 6
   ·obtain ⟨p0, p1⟩ := pow_six ⟨k, hlt⟩
    simp only at p0 p1
    have HSk := hid (HS.out k)
    rw [HNO.out] at HSk
    have HNk := hid (HN.out k hlt)
    have HP : Hid (2 ^ (k + 1) = t * 2) := hid (by rw [Nat.pow_succ, HT.out])
    rw [HT.out] at p0 p1
    have CWk := hid (fun wx => CW.out t wx p0 p1)
    have CHk := hid (fun wx => CH.out t wx p0 p1)
    have hti : (t : Int) ≤ 32 := by omega
    rw [HT.out] at HSk HNk
    generalize hasT wt t = h1 at *
    generalize hasT hv t = h2 at *
    cases h1
    ·have HM : Hid (chkB a b (k + 1) = true) := hid (by rw [HSk.out]; rfl)
     go_wp2_with (go_at_call 42; refine (CWk.out _).mono ?_; rintro e w' ⟨rfl, rfl⟩)
     go_roundw
     case rel => exact ⟨k + 1, t * 2, by omega, HP, by go_num, HM.out, by trivial⟩
     case measure => simp [intOf]; omega
    ·cases h2
     ·have HM : Hid (false = chkB a b 6) := hid (HNk.out rfl).symm
      go_wp2_with fail
      refine (CWk.out _).mono ?_
      rintro e w' ⟨rfl, rfl⟩
      go_wp2_with fail
      refine (CHk.out _).mono ?_
      rintro e w' ⟨rfl, rfl⟩
      go_wp2_with fail
      go_ret
      exact ⟨lret_b HM.out, rfl⟩
     ·have HM : Hid (chkB a b (k + 1) = true) := hid (by rw [HSk.out]; rfl)
      go_wp2_with fail
      refine (CWk.out _).mono ?_
      rintro e w' ⟨rfl, rfl⟩
      go_wp2_with fail
      refine (CHk.out _).mono ?_
      rintro e w' ⟨rfl, rfl⟩
      go_wp2_with fail
      go_roundw
      case rel => exact ⟨k + 1, t * 2, by omega, HP, by go_num, HM.out, by trivial⟩
      case measure => simp [intOf]; omega
   ·have hk6 : k = 6 := by omega
    subst hk6
    have ht6 : t = 64 := by have h := HT.out; omega
    subst ht6
    have HM : Hid (true = chkB a b 6) := hid HNO.out.symm
    go_wp2_with fail
    go_ret
    exact ⟨lret_b HM.out, rfl⟩
 ·have HI : Hid (false = impB a b) := hid (by
   unfold impB isLv
   by_cases h1 : 0 ≤ a ∧ a < 12
   ·have h2 : ¬ (0 ≤ b ∧ b < 12) := fun h => hin ⟨h1, h⟩
    rw [decide_eq_false h2]; simp
   ·rw [decide_eq_false h1]; rfl)
  by_cases c0 : a < 0
  ·go_enter Tryz.func83, Tryz.ntmps83
   go_wp2_with fail
   go_ret
   exact ⟨lret_b HI.out, rfl⟩
  by_cases c1 : 11 < a
  ·go_enter Tryz.func83, Tryz.ntmps83
   go_wp2_with fail
   go_ret
   exact ⟨lret_b HI.out, rfl⟩
  by_cases c2 : b < 0
  ·go_enter Tryz.func83, Tryz.ntmps83
   go_wp2_with fail
   go_ret
   exact ⟨lret_b HI.out, rfl⟩
  have c3 : 11 < b := by omega
  go_enter Tryz.func83, Tryz.ntmps83
  go_wp2_with fail
  go_ret
  exact ⟨lret_b HI.out, rfl⟩
def hasZ (l : List Int) (n : Int) : Bool := l.any fun x => x == n
theorem hasZ_take {l : List Int} {n : Int} {k : Nat} (hk : k < l.length) (h : (l.take k).any (fun x => x == n) = false) : (l.take (k + 1)).any (fun x => x == n) = (l[k] == n) := by
 rw [List.take_succ_eq_append_getElem hk, List.any_append, h]; simp
theorem hasZ_hit {l : List Int} {n : Int} {k : Nat} (hk : k < l.length) (h : (l[k] == n) = true) : hasZ l n = true := List.any_eq_true.2 ⟨_, List.getElem_mem hk, h⟩
theorem rhas_lv (v : Value) (l : List Int) (n : Int) (w : World) (hI : Ints w v l) : Calls Tryz.prog 84 #[v, .int .i64 n] w fun e w' => e = .returned (.bool (hasZ l n)) ∧ w = w' := by
 obtain ⟨ao, cap, rfl, hlen⟩ := hI.form
 go_enter Tryz.func84, Tryz.ntmps84
 go_wp2_with fail
 go_loopw [5] (fun i wr => ∃ k : Nat, k ≤ l.length ∧ i = .int .i64 k ∧ (l.take k).any (fun x => x == n) = false ∧ w = wr) (fun i _ => l.length - (intOf i).toNat)
 case atStart => exact ⟨0, by omega, rfl, rfl, rfl⟩
 case round =>
  obtain ⟨k, hk, rfl, hno, rfl⟩ := hrel
  have HNO := hid hno
  clear hno
  by_cases hlt : k < l.length
  ·have hki : (k : Int) < (l.length : Int) := by omega
   obtain ⟨g, o, hao, hc⟩ := hI.at hlt
   cases hao
   have HT := hid (hasZ_take hlt HNO.out)
   have HH := hid (fun h => hasZ_hit (n := n) hlt h)
   generalize l[k] = x at *
   cases hx : x == n
   ·have HM : Hid ((l.take (k + 1)).any (fun x => x == n) = false) := hid (by rw [HT.out, hx])
    clear HT HH
    go_wp2_with fail
    go_roundw
    case rel => exact ⟨k + 1, by omega, by go_num, HM.out, by trivial⟩
    case measure => simp [intOf]; omega
   ·have HM : Hid (true = hasZ l n) := hid (HH.out hx).symm
    clear HT HH
    go_wp2_with fail
    go_ret
    exact ⟨lret_b HM.out, rfl⟩
  ·have hkl : k = l.length := by omega
   subst hkl
   have HM : Hid (false = hasZ l n) := hid (by have h := HNO.out; rw [List.take_length] at h; exact h.symm)
   go_wp2_with fail
   go_ret
   exact ⟨lret_b HM.out, rfl⟩
def clsRow (l : List Int) (x : Int) (j : Nat) : Bool := (List.range j).all fun b => !(impB x (b : Int) && !hasZ l (b : Int))
def clsR (l : List Int) : Bool := l.all fun x => clsRow l x 12
theorem clsRow_succ (l : List Int) (x : Int) (j : Nat) : clsRow l x (j + 1) = (clsRow l x j && !(impB x (j : Int) && !hasZ l (j : Int))) := by
 unfold clsRow; rw [List.range_succ, List.all_append]; simp
theorem clsRow_no {l : List Int} {x : Int} {j : Nat} (hj : j < 12) (h : (!(impB x (j : Int) && !hasZ l (j : Int))) = false) : clsRow l x 12 = false := by
 unfold clsRow
 rw [List.all_eq_false]
 exact ⟨j, List.mem_range.2 hj, by rw [h]; simp⟩
theorem clsR_take {l : List Int} {k : Nat} (hk : k < l.length) (h : (l.take k).all (fun x => clsRow l x 12) = true) (h2 : clsRow l l[k] 12 = true) : (l.take (k + 1)).all (fun x => clsRow l x 12) = true := by
 rw [List.take_succ_eq_append_getElem hk, List.all_append, h]; simp [h2]
theorem clsR_no {l : List Int} {k : Nat} (hk : k < l.length) (h : clsRow l l[k] 12 = false) : clsR l = false := by
 unfold clsR
 rw [List.all_eq_false]
 exact ⟨_, List.getElem_mem hk, by rw [h]; simp⟩
theorem rclosed_lv (v : Value) (l : List Int) (w : World) (hI : Ints w v l) : Calls Tryz.prog 31 #[v] w fun e w' => e = .returned (.bool (clsR l)) ∧ w = w' := by
 have CH := hid (fun n => rhas_lv v l n w hI)
 obtain ⟨ao, cap, rfl, hlen⟩ := hI.form
 go_enter Tryz.func31, Tryz.ntmps31
 go_wp2_with fail
 go_loopw [3] (fun i wr => ∃ k : Nat, k ≤ l.length ∧ i = .int .i64 k ∧ (l.take k).all (fun x => clsRow l x 12) = true ∧ w = wr) (fun i _ => l.length - (intOf i).toNat)
 case atStart => exact ⟨0, by omega, rfl, rfl, rfl⟩
 case round =>
  obtain ⟨k, hk, rfl, hno, rfl⟩ := hrel
  have HNO := hid hno
  clear hno
  by_cases hlt : k < l.length
  ·have hki : (k : Int) < (l.length : Int) := by omega
   obtain ⟨g, o, hao, hc⟩ := hI.at hlt
   cases hao
   have HT := hid (clsR_take hlt HNO.out)
   have HH := hid (fun h => clsR_no hlt h)
   generalize l[k] = x at *
   have HS := hid (clsRow_succ l x)
   have HN := hid (fun j => clsRow_no (l := l) (x := x) (j := j))
   go_wp2_with fail
   go_loopw [4] (fun i wr => ∃ j : Nat, j ≤ 12 ∧ i = .int .i64 j ∧ clsRow l x j = true ∧ w = wr) (fun i _ => 12 - (intOf i).toNat)
   case atStart => exact ⟨0, by omega, rfl, rfl, rfl⟩
   case round =>
    obtain ⟨j, hj, rfl, hnj, rfl⟩ := hrel
    have HSj := hid (HS.out j)
    rw [hnj] at HSj
    have HNJ := hid hnj
    clear hnj
    by_cases hlj : j < 12
    ·have hji : (j : Int) < 12 := by omega
     have HNj := hid (HN.out j hlj)
     have CI := hid (rimp_any x (j : Int) w)
     have CHj := hid (CH.out (j : Int))
     cases hm : impB x (j : Int)
     ·rw [hm] at CI HSj
      have HM : Hid (clsRow l x (j + 1) = true) := hid (by rw [HSj.out]; rfl)
      clear hm HSj HNj
      go_wp2_with (go_at_call 83; refine (CI.out).mono ?_; rintro e w' ⟨rfl, rfl⟩)
      go_roundw
      case rel => exact ⟨j + 1, by omega, by go_num, HM.out, by trivial⟩
      case measure => simp [intOf]; omega
     ·rw [hm] at CI HSj HNj
      cases hz : hasZ l (j : Int)
      ·rw [hz] at CHj HNj
       have HM : Hid (false = clsR l) := hid (HH.out (HNj.out rfl)).symm
       clear hm hz HSj HNj
       go_wp2_with (first | (go_at_call 83; refine (CI.out).mono ?_; rintro e w' ⟨rfl, rfl⟩) | (go_at_call 84; refine (CHj.out).mono ?_; rintro e w' ⟨rfl, rfl⟩))
       go_ret
       exact ⟨lret_b HM.out, rfl⟩
      ·rw [hz] at CHj HSj
       have HM : Hid (clsRow l x (j + 1) = true) := hid (by rw [HSj.out]; rfl)
       clear hm hz HSj HNj
       go_wp2_with (first | (go_at_call 83; refine (CI.out).mono ?_; rintro e w' ⟨rfl, rfl⟩) | (go_at_call 84; refine (CHj.out).mono ?_; rintro e w' ⟨rfl, rfl⟩))
       go_roundw
       case rel => exact ⟨j + 1, by omega, by go_num, HM.out, by trivial⟩
       case measure => simp [intOf]; omega
    ·have hj12 : j = 12 := by omega
     subst hj12
     have HM := hid (HT.out HNJ.out)
     clear HSj
     go_wp2_with fail
     go_roundw
     case rel => exact ⟨k + 1, by omega, by go_num, HM.out, by trivial⟩
     case measure => simp [intOf]; omega
  ·have hkl : k = l.length := by omega
   subst hkl
   have HM : Hid (true = clsR l) := hid (by have h := HNO.out; rw [List.take_length] at h; exact h.symm)
   go_wp2_with fail
   go_ret
   exact ⟨lret_b HM.out, rfl⟩
end

section
open Go.RowKit
def lvTo (r : Nat → Bool) (k : Nat) : List Nat := (List.range k).filter r
theorem lvTo_succ (r : Nat → Bool) (k : Nat) : lvTo r (k + 1) = lvTo r k ++ (if r k then [k] else []) := by
 unfold lvTo
 rw [List.range_succ, List.filter_append]
 congr 1
 cases h : r k <;> simp [h]
theorem lvTo_len (r : Nat → Bool) (k : Nat) : (lvTo r k).length ≤ k := by
 unfold lvTo
 have := List.length_filter_le r (List.range k)
 simpa using this
end

section
open Go.RowKit
def lvI (r : Nat → Bool) : List Int := (lvTo r 12).map Int.ofNat
theorem mem_lvI {r : Nat → Bool} {x : Int} : x ∈ lvI r ↔ ∃ a, a < 12 ∧ r a = true ∧ x = (a : Int) := by
 unfold lvI lvTo
 rw [List.mem_map]
 constructor
 ·rintro ⟨a, ha, rfl⟩
  obtain ⟨h1, h2⟩ := List.mem_filter.1 ha
  exact ⟨a, List.mem_range.1 h1, h2, rfl⟩
 ·rintro ⟨a, h1, h2, rfl⟩
  exact ⟨a, List.mem_filter.2 ⟨List.mem_range.2 h1, h2⟩, rfl⟩
theorem hasZ_lvI (r : Nat → Bool) {b : Nat} (hb : b < 12) : hasZ (lvI r) (b : Int) = r b := by
 rw [Bool.eq_iff_iff]
 unfold hasZ
 rw [List.any_eq_true]
 constructor
 ·rintro ⟨x, hx, he⟩
  obtain ⟨a, h1, h2, rfl⟩ := mem_lvI.1 hx
  have : a = b := by have := beq_iff_eq.1 he; omega
  rw [← this]; exact h2
 ·intro h
  exact ⟨(b : Int), mem_lvI.2 ⟨b, hb, h, rfl⟩, by simp⟩
def Shut (r : Nat → Bool) : Prop := ∀ a b : Nat, a < 12 → b < 12 → r a = true → impB (a : Int) (b : Int) = true → r b = true
theorem abv_iff {r : Nat → Bool} {b : Nat} : abv r (b : Int) = true ↔ ∃ a, a < 12 ∧ r a = true ∧ a ≠ b ∧ impB (a : Int) (b : Int) = true := by
 unfold abv abvTo
 rw [List.any_eq_true]
 constructor
 ·rintro ⟨a, ha, h⟩
  simp only [Bool.and_eq_true, decide_eq_true_eq] at h
  exact ⟨a, List.mem_range.1 ha, h.1, fun e => h.2.1 (by rw [e]), h.2.2⟩
 ·rintro ⟨a, ha, h1, h2, h3⟩
  refine ⟨a, List.mem_range.2 ha, ?_⟩
  simp only [Bool.and_eq_true, decide_eq_true_eq]
  exact ⟨h1, fun e => h2 (by omega), h3⟩
theorem cls_iff {r : Nat → Bool} : cls r = true ↔ Shut r := by
 unfold cls clsTo Shut
 rw [List.all_eq_true]
 constructor
 ·intro h a b ha hb hr hi
  cases hrb : r b
  ·exfalso
   have := h b (List.mem_range.2 hb)
   rw [hrb] at this
   have hv : abv r (b : Int) = true := abv_iff.2 ⟨a, ha, hr, fun e => (by rw [e, hrb] at hr; cases hr), hi⟩
   rw [hv] at this
   cases this
  ·rfl
 ·intro h b hb
  cases hrb : r b
  ·cases hv : abv r (b : Int)
   ·rfl
   ·exfalso
    obtain ⟨a, ha, h1, _, h3⟩ := abv_iff.1 hv
    have := h a b ha (List.mem_range.1 hb) h1 h3
    rw [hrb] at this; cases this
  ·rfl
theorem clsR_iff {r : Nat → Bool} : clsR (lvI r) = true ↔ Shut r := by
 unfold clsR Shut
 rw [List.all_eq_true]
 constructor
 ·intro h a b ha hb hr hi
  have h1 := h (a : Int) (mem_lvI.2 ⟨a, ha, hr, rfl⟩)
  unfold clsRow at h1
  rw [List.all_eq_true] at h1
  have h2 := h1 b (List.mem_range.2 hb)
  rw [hi, hasZ_lvI r hb] at h2
  simpa using h2
 ·intro h x hx
  obtain ⟨a, ha, hr, rfl⟩ := mem_lvI.1 hx
  unfold clsRow
  rw [List.all_eq_true]
  intro b hb
  have hb' := List.mem_range.1 hb
  rw [hasZ_lvI r hb']
  cases hi : impB (a : Int) (b : Int)
  ·rfl
  ·rw [h a b ha hb' hr hi]; rfl
theorem cls_ref (r : Nat → Bool) : clsR (lvI r) = cls r := by rw [Bool.eq_iff_iff, clsR_iff, cls_iff]
end

section
open Go.RowKit
theorem few_prod : ∀ k, k ≤ 5 → timesN (levN k) 12 = levN k * 12 := by decide +kernel
theorem few_lev : ∀ k, k ≤ 5 → levN k ≤ 4611686018427387904 ∧ trN k ≤ levN k := by decide +kernel
theorem vec_lev {h : List TxnV} (hn : h.length ≤ 5) : (vecTo h 12).2 ≤ timesN (levN h.length) 12 := by
 rw [few_prod _ hn, Nat.mul_comm]
 exact vec_bound (levN h.length) (fun l _ => Nat.le_trans (dec_tries h (l : Int)) (few_lev _ hn).2) 12 (Nat.le_refl _)
theorem dec_all {h : List TxnV} (hc : checkI h = 0) (hn : h.length ≤ 8) {lv : Int} {v : Value} {wx : World} (hd : DecRes h lv v wx) : ∃ vo vs yes, v = .tuple #[.agg #[vo, vs], .bool yes, .bool true] ∧ Ints wx vo (decW h lv).1 ∧ Lists wx vs (decW h lv).2.1 := by
 unfold DecRes at hd
 rw [if_pos hn] at hd
 have hs := decW_some (lv := lv) hc
 cases hf : (ordersN h.length).find? (keptL h lv) with
 | none =>
  rw [hf] at hd hs
  obtain ⟨e1, e2⟩ := decW_none h lv hs
  rw [e1, e2]
  exact ⟨_, _, _, hd, ints_nil _, lists_none _⟩
 | some r =>
  rw [hf] at hd
  obtain ⟨vo, vs, X, e, q1, q2, q3⟩ := hd
  obtain ⟨e1, e2⟩ := dec_same hc hf q1
  have hrl : (r.map Int.ofNat).length = h.length := by rw [List.length_map, (orders_perm (List.mem_of_find?_eq_some hf)).length_eq, List.length_range]
  rw [hrl, ← e2] at q3
  rw [← e1] at q2
  exact ⟨vo, vs, _, e, q2, q3⟩
theorem vaccepts18_walk (va : Value) (h : List TxnV) (much : Int) (w : World) (ht : Tab w) (hK : Kinds w) (hT : Txns w va h) (hok : ∀ t ∈ h, t.ok) (hsh : Short h) (hmu : -9223372036854775808 ≤ much ∧ much ≤ 9223372036854775807) :
  Calls Tryz.prog 4 #[va, .int .i64 much] w fun e w' => e = .returned (.bool true) ∧ Below w.heap.size w w' := by
 obtain ⟨i0, hi, hz0, hz1, hz2⟩ := info_parts infoIntL
 have hg := ht.pos
 have HT : Hid (∀ wx, Below w.heap.size w wx → Tab wx ∧ Kinds wx) := hid (fun wx hb => ⟨ht.below hb hg, hK.below hb⟩)
 have HH := hid (fun wx (hx : Below w.heap.size w wx) => hT.below hx)
 obtain ⟨ao, cap, rfl, hal⟩ := hT.form
 have HOK := hid hok
 have HSH := hid hsh
 have C0 := hid (speaks18_any w ht hK)
 clear ht hK hT hok
 go_enter Tryz.func4, Tryz.ntmps4
 go_wp2_with fail
 refine (C0.out).mono ?_
 rintro e w1 ⟨rfl, hb1⟩
 clear C0
 by_cases h5 : 5 < h.length
 ·have h5i : (5 : Int) < (h.length : Int) := by omega
  clear hsh
  go_wp2_with fail
  go_ret
  exact ⟨rfl, hb1⟩
 have h5i : ¬ (5 : Int) < (h.length : Int) := by omega
 have CC := hid (rcheck_any _ h w1 (HH.out _ hb1) hsh)
 rw [← check_ref] at CC
 by_cases hc : checkI h = 0
 rotate_left
 ·have hcn : ¬ checkI h = 0 := hc
  generalize checkI h = c at *
  have hcb : (c != 0) = true := by rw [bne_iff_ne]; exact hcn
  clear hsh hc
  go_wp2_with fail
  refine (CC.out).mono ?_
  rintro e w2 ⟨rfl, hb2⟩
  have hb2 := below_then hb1 hb2
  go_wp2_with fail
  go_ret
  exact ⟨rfl, hb2⟩
 rw [hc] at CC
 go_wp2_with fail
 refine (CC.out).mono ?_
 rintro e w2 ⟨rfl, hb2⟩
 have hb2 := below_then hb1 hb2
 have CO := hid (of_done _ h w2 (HH.out _ hb2) HOK.out HSH.out hc)
 have HC := hid hc
 have HM := hid (vec_few (h := h) (by omega))
 have HVL := hid (vec_lev (h := h) (by omega))
 have HFE := hid (few_lev h.length (by omega))
 clear hb1 CC hc hsh HOK HSH
 go_wp2_with fail
 refine (CO.out).mono ?_
 rintro e w3 ⟨⟨B, rfl, hB, hO⟩, hb3⟩
 have hb3 := below_then hb2 hb3
 have hTK := HT.out _ hb3
 have HO := hid (fun wx (hx : Below w3.heap.size w3 wx) => hO.below hx)
 have HW := hid (fun wx (hx : Below w3.heap.size w3 wx) => below_then hb3 hx)
 have HFN : Hid (∀ F, F = fuelN much → F ≠ 4611686018427387904 → much ≤ (F : Int)) := hid (fun F e hne => by unfold fuelN at e; omega)
 obtain ⟨F, hF⟩ : ∃ F, fuelN much = F := ⟨_, rfl⟩
 have HFM := hid (HFN.out F hF.symm)
 clear HFN hmu
 by_cases hl : Lasts F 0 (vecTo h 12).2
 ·have CV := hid (vof_ok (w := w3) much F hF hO hTK.1 hTK.2 HC.out (Below.refl _ _) HM.out hl)
  clear CO hO hB hTK hF hl HVL HFE HFM HM hb2
  go_wp2_with fail
  refine CV.out.mono ?_
  rintro e w4 ⟨⟨ws, rfl, hW⟩, h4⟩
  obtain ⟨V5, hb5, hth⟩ := vec_put w4 (accV h) ws
  have hone := hW.one (accV h)
  have hinf := info_vecA (accV h) ws
  have hinf2 := info_vec (accV h) ws
  have h35 := below_then h4 hb5
  have W5 := hW.below hb5
  have hTK := HT.out _ (HW.out _ h35)
  have CR := hid (vright_any h B (B + 2) (accV h) ws _ _ _ (HO.out _ h35) HC.out hTK.1 hTK.2 (fun i hi => (W5 i hi).ints) (fun i hi => (W5 i hi).lists))
  rw [vec_right HC.out] at CR
  have HWI := hid W5
  clear CV h4 hW hb5 hTK W5
  go_upto_region 9 with (with_reducible refine wpList_store_mid rfl 52 _ _ rfl w4.heap.size 0 (vecL (accV h) ws).toArray rfl rfl hth hinf hone ?_)
  generalize (w4.alloc (.cells Z36 52)).setCells w4.heap.size 0 (vecL (accV h) ws) = w5 at *
  generalize w4.heap.size = g5 at *
  have hall := V5.all
  clear hth hone hinf
  go_wp2_with (with_reducible refine wpList_load_midG 52 _ rfl (by kernel_rfl) g5 0 rfl (vecL (accV h) ws) _ hall Tryz.underlying52 rfl hinf2 ?_)
  refine CR.out.mono ?_
  rintro e w6 ⟨rfl, h6⟩
  have V6 := V5.below h6 V5.lt
  have h36 := below_then h35 h6
  have HWI := hid (HWI.out.below h6)
  have hrow := V6.row
  clear CR V5 hall hinf2 h6 h35
  go_wp2_with (with_reducible refine wpList_load_mid rfl 49 _ rfl g5 0 rfl (rowB (accV h)).toList _ hrow Tryz.underlying49 rfl (by kernel_rfl) ?_)
  have HV6 := hid (fun wx (hx : Below w6.heap.size w6 wx) => V6.below hx V6.lt)
  have HH6 := hid (fun wx (hx : Below w6.heap.size w6 wx) => And.intro (HO.out _ (below_then h36 hx)) (HT.out _ (HW.out _ (below_then h36 hx))))
  have HX6 := hid (fun wx (hx : Below w6.heap.size w6 wx) => HH.out _ (HW.out _ (below_then h36 hx)))
  have HW6 := hid (fun wx (hx : Below w6.heap.size w6 wx) => HW.out _ (below_then h36 hx))
  have HN5 : Hid (h.length ≤ 5) := hid (by omega)
  clear hrow V6 h36 HO HW HH HT hb3
  go_loopw [8, 72] (fun v i wr => ∃ k : Nat, k ≤ 12 ∧ i = .int .i64 k ∧ wr.ownsRow w6.heap.size 3 1 v (lvTo (accV h) k).length (natV (lvTo (accV h) k)) ∧ Below w6.heap.size w6 wr) (fun _ i _ => 12 - (intOf i).toNat)
  case atStart => exact ⟨0, by omega, rfl, World.ownsRow_nil _ _ _ _, Below.refl _ _⟩
  case round =>
   obtain ⟨k, hk, rfl, hown, hbr⟩ := hrel
   have hll := lvTo_len (accV h) k
   by_cases hlt : k < 12
   ·have hki : (k : Int) < 12 := by omega
    have HIX := fun wx => run_index_rowB (accV h) k hlt wx
    have HL := hid (lvTo_succ (accV h) k)
    have CK := hid (raccepts_any _ h (k : Int) wr HC.out (by have := HN5.out; omega) (HX6.out wr hbr))
    rw [show (decW h (k : Int)).2.2 = accV h k from rfl] at CK
    have CB := hid (fun wx (hx : Below w6.heap.size w6 wx) => bdecide_any (k : Int) h B (B + 2) wx (HH6.out wx hx).1 HC.out (HH6.out wx hx).2.1 (HH6.out wx hx).2.2)
    have HDA := hid (fun v wx hd => dec_all (lv := (k : Int)) (v := v) (wx := wx) HC.out (by have := HN5.out; omega) hd)
    have HWK := hid (fun wx (hx : Below w6.heap.size w6 wx) => And.intro ((HWI.out k hlt).below hx).ints ((HWI.out k hlt).below hx).lists)
    obtain ⟨q, hq⟩ : ∃ q, accV h k = q := ⟨_, rfl⟩
    have HQ := hid hq
    rw [hq] at HIX CK HL
    have hqq : (q != q) = false := by cases q <;> rfl
    obtain ⟨oo, no, oc, so, ns, sc, e1, e2⟩ := (HWI.out k hlt).form
    rw [e1, e2] at HWK
    have HWY := hid (fun wx (hx : Below w6.heap.size w6 wx) => by have h1 := (HV6.out wx hx).why hlt; rw [e1, e2, Nat.mul_comm 2 k] at h1; exact h1)
    clear hq e1 e2
    have HOW := hid hown
    clear hown
    go_wp2_with fail
    refine CK.out.mono ?_
    rintro e w7 ⟨rfl, h7⟩
    have hb7 := below_then hbr h7
    have CB1 := hid (CB.out w7 hb7)
    have HOW7 := hid (owns_below HOW.out h7)
    clear CK CB h7 HOW
    go_wp2_with fail
    refine CB1.out.mono ?_
    rintro e w8 ⟨⟨v, rfl, hd⟩, h8⟩
    obtain ⟨vo, vs, yes, rfl, hI8, hL8⟩ := HDA.out _ _ hd
    obtain ⟨po, pc, rfl, _⟩ := hI8.form
    obtain ⟨qo, qc, rfl, _⟩ := hL8.form
    generalize hnl : (decW h (k : Int)).1.length = nl at *
    generalize hnk : (decW h (k : Int)).2.1.length = nk at *
    have W9 := WitT.made w8 (.slice po nl pc) (.slice qo nk qc) 39
    have hx9 := box_below w8 (.cells #[.slice po nl pc, .slice qo nk qc] 39)
    have hb9 := below_then (below_then hb7 h8) hx9
    have HOW9 := hid (owns_below (owns_below HOW7.out h8) hx9)
    have CS := hid (fun wx (hx : Below (w8.alloc (.cells #[.slice po nl pc, .slice qo nk qc] 39)).heap.size (w8.alloc (.cells #[.slice po nl pc, .slice qo nk qc] 39)) wx) => same17_any _ _ _ _ (decW h (k : Int)).1 (decW h (k : Int)).2.1 wx (HWK.out wx (below_then hb9 hx)).1 (HWK.out wx (below_then hb9 hx)).2 ((hI8.below hx9).below hx) ((hL8.below hx9).below hx))
    clear CB1 HDA hd h8 hI8 hL8 hx9 hb7 HOW7 HWK hnl hnk
    go_upto_region 20 with fail
    generalize w8.alloc (.cells #[.slice po nl pc, .slice qo nk qc] 39) = w9 at *
    generalize w8.heap.size = x9 at *
    have kd := (Below.refl w9.heap.size w9).drew
    have W9 := W9.below kd
    have hwy := HWY.out _ (below_then hb9 kd)
    have CS1 := hid (CS.out _ kd)
    have HKD := hid kd
    have HOWD := hid (owns_below HOW9.out kd)
    have hbd := below_then hb9 kd
    have hd0 : decide ((k : Int) < 0) = false := decide_eq_false (by omega)
    have hd1 : decide ((12 : Int) ≤ (k : Int)) = false := decide_eq_false (by omega)
    have hd2 : decide (12 ≤ k) = false := decide_eq_false (by omega)
    clear kd CS HOW9 hb9
    refine wp_region_held_drew (S := fun wx => wx.rangeAt g5 (12 + k * 2) [.slice oo no oc, .slice so ns sc] ∧ (wx.cell? ⟨x9, 0, none⟩ = some (.slice po nl pc) ∧ wx.cell? ⟨x9, 1, none⟩ = some (.slice qo nk qc))) (by kernel_rfl) ⟨hwy, W9.c0, W9.c1⟩ (fun hS0 => ?_)
    generalize w9.drew = wd at *
    refine tG (some 88) 0 ?vtl0x1 rfl rfl (Or.inl ⟨by rfl, ?htl0x1⟩) hS0 ?rtl0x1
    case htl0x1 => (intro w hw; go_simp; try (with_reducible rfl))
    try simp only [Act.put, zA, zB, zC]
    refine tG (some 89) 1 ?vtl1x2 rfl rfl (Or.inl ⟨by rfl, ?htl1x2⟩) hS0 ?rtl1x2
    case htl1x2 => (intro w hw; go_simp; try (with_reducible rfl))
    try simp only [Act.put, zA, zB, zC]
    refine tG (some 90) 2 ?vtl2x3 rfl rfl (Or.inl ⟨by rfl, ?htl2x3⟩) hS0 ?rtl2x3
    case htl2x3 => (intro w hw; go_simp; try (with_reducible rfl))
    try simp only [Act.put, zA, zB, zC]
    refine tG (some 91) 3 _ rfl rfl (yieldsIf_load_mid (by rfl) 39 _ rfl g5 (12 + k * 2) rfl [.slice oo no oc, .slice so ns sc] _ (fun _ hw => hw.1) Tryz.underlying39 rfl (by kernel_rfl)) hS0 ?_
    try simp only [Act.put, zA, zB, zC]
    refine tG (some 92) 4 ?vtl4x5 rfl rfl (Or.inl ⟨by rfl, ?htl4x5⟩) hS0 ?rtl4x5
    case htl4x5 => (intro w hw; obtain ⟨_, m0, m1⟩ := hw; go_simp; try (with_reducible rfl))
    try simp only [Act.put, zA, zB, zC]
    refine rD 5 rfl (fun K hK => ?_)
    go_simp
    refine CS1.out.mono ?_
    rintro e wA ⟨rfl, hA⟩
    have sB : wA.rangeAt g5 (12 + k * 2) [.slice oo no oc, .slice so ns sc] ∧ (wA.cell? ⟨x9, 0, none⟩ = some (.slice po nl pc) ∧ wA.cell? ⟨x9, 1, none⟩ = some (.slice qo nk qc)) := ⟨by have := HWY.out _ (below_then hbd hA); exact this, ⟨(hA.cell (p := ⟨x9, 0, none⟩) (block_lt hS0.2.1)).trans hS0.2.1, (hA.cell (p := ⟨x9, 1, none⟩) (block_lt hS0.2.2)).trans hS0.2.2⟩⟩
    show K _ _
    refine hK.out _ _ sB (fun _ => ?_)
    clear hK K
    refine tG (some 94) 6 ?vtl6x7 rfl rfl (Or.inl ⟨by rfl, ?htl6x7⟩) sB ?rtl6x7
    case htl6x7 => (intro w hw; go_simp; try (with_reducible rfl))
    try simp only [Act.put, zA, zB, zC]
    refine wpAnyH_done (by kernel_rfl) ?_ _
    have HOWA := owns_below HOWD.out hA
    have hbA := below_then hbd hA
    clear HOWD hA hbd CS1 W9 hwy hS0 sB HWY
    cases q with
    | false =>
     have HM : Hid (lvTo (accV h) (k + 1) = lvTo (accV h) k) := hid (by rw [HL.out]; simp)
     clear HL
     go_wp2_with fail
     go_roundw
     case rel => exact ⟨k + 1, by omega, by go_num, by rw [HM.out]; exact HOWA, hbA⟩
     case measure => simp [intOf]; omega
    | true =>
     have HM : Hid (lvTo (accV h) (k + 1) = lvTo (accV h) k ++ [k]) := hid (by rw [HL.out]; simp)
     clear HL
     have hsA := hbA.size
     go_wp2_with (at_builtin; refine wpList_append_own _ rfl _ _ 36 rfl w6.heap.size 3 i0 (.int .i64 0) 1 8 Tryz.underlying36 hi hz0 hz1 hz2 rfl (by decide) _ _ _ rfl (HOWA.alloc _) ⟨_, 0, none⟩ 1 1 [.int .i64 (k : Int)] rfl rfl ?c1 ?c2 ?c3 ?c4 ?c5 ?_)
     case c1 => exact cell_one_new _ _ _
     case c2 => intro u hu; simp at hu; subst hu; rfl
     case c3 => unfold maxLen; omega
     case c4 => omega
     case c5 => simp; omega
     ·intro v' wC hown' hgrow _
      have hb' := below_app0 hbA (Nat.le_refl _) HOWA (Nat.le_refl _) hgrow
      clear HOWA hgrow
      go_wp2_with fail
      go_roundw
      case rel =>
       refine ⟨k + 1, by omega, by go_num, ?_, hb'⟩
       rw [HM.out, natV_snoc, List.length_append]
       exact hown'
      case measure => simp [intOf]; omega
   ·obtain rfl : k = 12 := by omega
    have hki : ¬ ((12 : Nat) : Int) < 12 := by omega
    have hI : Ints wr u8 (lvI (accV h)) := by
     have h := hown
     exact Ints.of_owns (n := (lvTo (accV _) 12).length) (by unfold natV at h; unfold lvI; rw [List.map_map]; exact h)
    have CC1 := hid (rclosed_lv u8 (lvI (accV h)) wr hI)
    rw [cls_ref, acc_cls HC.out] at CC1
    obtain ⟨ao2, cap2, rfl, _⟩ := hI.form
    have hz := HW6.out _ hbr
    clear hown hI
    go_wp2_with fail
    refine CC1.out.mono ?_
    rintro e wq ⟨rfl, rfl⟩
    go_wp2_with fail
    go_ret
    exact ⟨rfl, hz⟩
 ·have CV := hid (vof_no (w := w3) much F hF hO hTK.1 hTK.2 HC.out (Below.refl _ _) HM.out hl)
  have hFn : F ≠ 4611686018427387904 ∧ F < (vecTo h 12).2 := ⟨fun e => hl (.inl e), by
   by_cases e : F < (vecTo h 12).2
   ·exact e
   ·exact (hl (.inr (by omega))).elim⟩
  have hmF := HFM.out hFn.1
  have hvl := HVL.out
  have hml : much < ((timesN (levN h.length) 12 : Nat) : Int) := by omega
  have CL := hid (fun wx => rlevel_any (h.length : Int) wx)
  rw [show levZ (h.length : Int) = levN h.length by unfold levZ; rw [Int.toNat_natCast]] at CL
  have CP := hid (fun wx => rprod_any (levN h.length) 12 wx HFE.out.1 (by omega))
  have CS := hid (fun wx => vsame_any noB noB wZ0 wZ0 wx)
  rw [eqlB_one fun _ _ => rfl, ← vec_zero] at CS
  clear CO hO hB hTK hF hl HVL HFE HFM HM hb2 hFn hmF hvl
  generalize timesN (levN h.length) 12 = pr at *
  generalize levN h.length = lev at *
  go_wp2_with fail
  refine CV.out.mono ?_
  rintro e w4 ⟨rfl, h4⟩
  obtain ⟨V5, hb5, hth⟩ := vec_put w4 noB wZ0
  have hone : (vecL noB wZ0).toArray.all (·.oneCell') = true := vecL_one fun i _ => ⟨rfl, rfl⟩
  have hinf := info_vecA noB wZ0
  have hinf2 := info_vec noB wZ0
  have h35 := below_then h4 hb5
  clear CV h4 hb5
  go_upto_region 9 with (with_reducible refine wpList_store_mid rfl 52 _ _ rfl w4.heap.size 0 (vecL noB wZ0).toArray rfl rfl hth hinf hone ?_)
  generalize (w4.alloc (.cells Z36 52)).setCells w4.heap.size 0 (vecL noB wZ0) = w5 at *
  generalize w4.heap.size = g5 at *
  have hall := V5.all
  have hc12 := (V5 12 (by omega)).1
  rw [show vecF noB wZ0 12 = .slice none 0 0 from rfl] at hc12
  clear hth hone hinf V5
  go_wp2_with fail
  refine (CL.out _).mono ?_
  rintro e wq ⟨rfl, rfl⟩
  go_wp2_with fail
  refine (CP.out _).mono ?_
  rintro e wq ⟨rfl, rfl⟩
  go_wp2_with (with_reducible refine wpList_load_midG 52 _ rfl (by kernel_rfl) g5 0 rfl (vecL noB wZ0) _ hall Tryz.underlying52 rfl hinf2 ?_)
  rw [← vec_zero]
  refine (CS.out _).mono ?_
  rintro e w6 ⟨rfl, h6⟩
  have hc12 := (h6.cell (p := ⟨g5, 12, none⟩) (block_lt hc12)).trans hc12
  have hz := HW.out _ (below_then h35 h6)
  clear h6 CL CP CS hall
  go_wp2_with fail
  go_ret
  exact ⟨rfl, hz⟩
end

end Go.Proofs.YtmcicfdnmfbimaaGreatDoor
