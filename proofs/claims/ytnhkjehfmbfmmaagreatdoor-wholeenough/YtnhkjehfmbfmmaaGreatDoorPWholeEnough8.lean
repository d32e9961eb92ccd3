/- Walks and plain facts that the proof of the statement WholeEnough uses, joined: TblC VecE VecF VecG ChkA Blk TokF TokG TokH TokI TokJ TokK TokL OpA OpB ScrA HisT HisU HisV ScrB ScrC ScrI ScrJ ScrD ScrK TxnN ScrE ScrF HisY OpC OpD OpE OpF OpG OpH OpI ScrG ScrH ScrL TxeA TxeB IsoA IsoB CnoA SrtA. Conditions: each theorem's own. -/
import Derived.Deep.OwnRows
import Derived.BigRegion
import Derived.StillTailTactics
import Derived.BigQuiet
import Derived.Sort.Row
import Derived.Deep.AppendLies
import Derived.Deep.CutRange
import Derived.Deep.RegionLaw
import Derived.Laws.StructEq
import Derived.Deep.RegionHeld3
import Derived.Test.YtnhkjehfmbfmmaaGreatDoorPWholeEnough0
import Derived.Test.YtnhkjehfmbfmmaaGreatDoorPWholeEnough1
import Derived.Test.YtnhkjehfmbfmmaaGreatDoorPWholeEnough2
import Derived.Test.YtnhkjehfmbfmmaaGreatDoorPWholeEnough3
import Derived.Test.YtnhkjehfmbfmmaaGreatDoorPWholeEnough6
import Derived.Test.YtnhkjehfmbfmmaaGreatDoorPWholeEnough7
namespace Go.Proofs.YtnhkjehfmbfmmaaGreatDoor
set_option maxHeartbeats 32000000
set_option maxRecDepth 100000
set_option linter.unusedSimpArgs false
set_option linter.unusedVariables false
open Lib (hid)
section
open Go.RowKit
def abvTo (r : Nat → Bool) (b : Int) (k : Nat) : Bool := (List.range k).any fun a => r a && (decide ((a : Int) ≠ b) && impB (a : Int) b)
def abv (r : Nat → Bool) (b : Int) : Bool := abvTo r b 12
theorem abvTo_succ (r : Nat → Bool) (b : Int) (k : Nat) : abvTo r b (k + 1) = (abvTo r b k || (r k && (decide ((k : Int) ≠ b) && impB (k : Int) b))) := by
 unfold abvTo; rw [List.range_succ, List.any_append]; simp
theorem abvTo_hit {r : Nat → Bool} {b : Int} {k : Nat} (hk : k < 12) (h : (r k && (decide ((k : Int) ≠ b) && impB (k : Int) b)) = true) : abv r b = true := List.any_eq_true.2 ⟨k, List.mem_range.2 hk, h⟩
theorem above_any (r : Nat → Bool) (b : Int) (w : World) (hK : Kinds w) : Calls Tryz.prog 111 #[.agg (rowB r), .int .i64 b] w fun e w' => e = .returned (.bool (abv r b)) ∧ Below w.heap.size w w' := by
 have HK := hid (fun wx (hb : Below w.heap.size w wx) => hK.below hb)
 clear hK
 go_enter Tryz.func111, Tryz.ntmps111
 go_wp2_with fail
 go_loopw [6] (fun i wr => ∃ k : Nat, k ≤ 12 ∧ i = .int .i64 k ∧ abvTo r b k = false ∧ BRow wr w.heap.size r ∧ Below w.heap.size w wr) (fun i _ => 12 - (intOf i).toNat)
 case atStart => exact ⟨0, by omega, rfl, rfl, BRow.made w r rfl rfl, (Below.refl w.heap.size w).alloc (Nat.le_refl _) _⟩
 case round =>
  obtain ⟨k, hk, rfl, hno, h0, hb⟩ := hrel
  have HNO := hid hno
  clear hno
  by_cases hlt : k < 12
  ·have hki : (k : Int) < 12 := by omega
   have hc := h0.cell hlt
   have HS := hid (abvTo_succ r b k)
   have HH := hid (fun h => abvTo_hit (r := r) (b := b) hlt h)
   have CI := hid (limp_any (k : Int) b wr (HK.out _ hb))
   rw [HNO.out] at HS
   cases hr : r k
   ·rw [hr] at hc HS
    clear hr HH CI
    have HM : Hid (abvTo r b (k + 1) = false) := hid (by rw [HS.out]; rfl)
    go_wp2_with fail
    go_roundw
    case rel => exact ⟨k + 1, by omega, by go_num, HM.out, h0, hb⟩
    case measure => simp [intOf]; omega
   ·rw [hr] at hc HS HH
    clear hr
    by_cases hkb : (k : Int) = b
    ·have HM : Hid (abvTo r b (k + 1) = false) := hid (by rw [HS.out, decide_eq_false (by simpa using hkb)]; rfl)
     have hkb' : ((k : Int) == b) = true := by rw [beq_iff_eq]; exact hkb
     clear hkb HH CI HS
     go_wp2_with fail
     ·go_roundw
      case rel => exact ⟨k + 1, by omega, by go_num, HM.out, h0, hb⟩
      case measure => simp [intOf]; omega
     ·exact absurd (beq_iff_eq.1 hkb') (by assumption)
    ·rw [decide_eq_true (show (k : Int) ≠ b from hkb)] at HS HH
     cases hm : impB (k : Int) b
     ·rw [hm] at CI HS
      have HM : Hid (abvTo r b (k + 1) = false) := hid (by rw [HS.out]; rfl)
      clear hm HH HS
      go_wp2_with (go_at_call 117; refine (CI.out).mono ?_; rintro e w' ⟨rfl, rfl⟩)
      go_roundw
      case rel => exact ⟨k + 1, by omega, by go_num, HM.out, h0, hb⟩
      case measure => simp [intOf]; omega
     ·rw [hm] at CI HH
      have HM : Hid (true = abv r b) := hid (HH.out rfl).symm
      clear hm HH HS
      go_wp2_with (go_at_call 117; refine (CI.out).mono ?_; rintro e w' ⟨rfl, rfl⟩)
      go_ret
      exact ⟨lret_b HM.out, hb⟩
  ·have hkn : k = 12 := by omega
   subst hkn
   have HM : Hid (false = abv r b) := hid HNO.out.symm
   go_wp2_with fail
   go_ret
   exact ⟨lret_b HM.out, hb⟩
theorem wpList_load_rowB_g {ops : Array Oper} {rest : List Oper} {o : Oper} {a : Act} {w : World} {Q : Exit → Act → World → Prop} {g : Nat} {r : Nat → Bool} (h : BRow w g r) (x : Operand) (ho : o.op = .load 38 x)
  (hw : Region.wanted o (yielded ops a.tmps) = true) (hx : a.eval x = .pointer (some ⟨g, 0, none⟩)) (hn : wpList Tryz.prog ops Q rest (a.put o.dst (.agg (rowB r))) w) : wpList Tryz.prog ops Q (o :: rest) a w :=
 wpList_step fun K hK => by rw [if_pos hw]; exact wp_load_row 38 x ho g hx _ (rowB r) _ _ h Tryz.underlying38 rfl (infoRow' _) (hK _ _ hn)
theorem own_base0 {w : World} {base base' : Nat} {v : Value} {e : TypeId} {size n : Nat} {xs : List Value} (h : w.ownsRow base e size v n xs) (hb : base' ≤ base) : w.ownsRow base' e size v n xs := by
 obtain ⟨h1, h2⟩ := h
 refine ⟨h1, ?_⟩
 rcases h2 with h2 | ⟨g, cap, cur, e1, e2, r⟩
 ·exact .inl h2
 ·exact .inr ⟨g, cap, cur, e1, Nat.le_trans hb e2, r⟩
def strTo (r : Nat → Bool) (k : Nat) : List Nat := (List.range k).filter fun b => r b && !abv r (b : Int)
theorem below_app0 {B B' : Nat} {W wr w1 : World} {o : Obj} {e : TypeId} {n size : Nat} {v : Value} {xs : List Value} (hb : Below B W wr) (hB : B ≤ W.heap.size) (hown : wr.ownsRow B' e size v n xs) (hBB : B ≤ B')
  (hg : (wr.alloc o).grownBy w1 v.ownBlock) : Below B W w1 :=
 (hb.alloc (Nat.le_trans hB hb.size) o).grown hg (by have := hb.size; simp; omega) fun k hk => Nat.le_trans hBB (hown.lt k hk).1
def natV (l : List Nat) : List Value := l.map fun i : Nat => Value.int .i64 (i : Int)
theorem strTo_succ (r : Nat → Bool) (k : Nat) : strTo r (k + 1) = strTo r k ++ (if r k && !abv r (k : Int) then [k] else []) := by
 unfold strTo
 rw [List.range_succ, List.filter_append]
 congr 1
 cases h : r k && !abv r (k : Int) <;> simp [h]
theorem strTo_len (r : Nat → Bool) (k : Nat) : (strTo r k).length ≤ k := by
 unfold strTo
 have := List.length_filter_le (fun b => r b && !abv r (b : Int)) (List.range k)
 simpa using this
theorem natV_snoc (l : List Nat) (k : Nat) : natV (l ++ [k]) = natV l ++ [.int .i64 (k : Int)] := by simp [natV]
theorem infoLv : (Tryz.prog.info? 74).map (fun i => (i.zero, i.size, i.bytes)) = some (some (.int .i64 0), 1, 8) := by kernel_rfl
theorem strongest_any (r : Nat → Bool) (w : World) (hK : Kinds w) : Calls Tryz.prog 73 #[.agg (rowB r)] w fun e w' => ∃ v, e = .returned v ∧ w'.ownsRow w.heap.size 74 1 v (strTo r 12).length (natV (strTo r 12)) ∧ Below w.heap.size w w' := by
 obtain ⟨i0, hi, hz0, hz1, hz2⟩ := info_parts infoLv
 have HK := hid (fun wx (hb : Below w.heap.size w wx) => hK.below hb)
 clear hK
 go_enter Tryz.func73, Tryz.ntmps73
 go_wp2_with fail
 go_loopw [3, 5] (fun v i wr => ∃ k : Nat, k ≤ 12 ∧ i = .int .i64 k ∧ wr.ownsRow (w.heap.size + 1) 74 1 v (strTo r k).length (natV (strTo r k)) ∧ BRow wr w.heap.size r ∧ Below w.heap.size w wr) (fun _ i _ => 12 - (intOf i).toNat)
 case atStart => exact ⟨0, by omega, rfl, World.ownsRow_nil _ _ _ _, BRow.made w r rfl rfl, (Below.refl w.heap.size w).alloc (Nat.le_refl _) _⟩
 case round =>
  obtain ⟨k, hk, rfl, hown, h0, hb⟩ := hrel
  have hll := strTo_len r k
  by_cases hlt : k < 12
  ·have hki : (k : Int) < 12 := by omega
   have hc := h0.cell hlt
   have HS := hid (strTo_succ r k)
   have CI := hid (above_any r (k : Int) wr (HK.out _ hb))
   have H2 := hid (fun wx (hx : Below wr.heap.size wr wx) => h0.below hx h0.lt)
   have HB := hid (fun wx (hx : Below wr.heap.size wr wx) => hb.trans (hx.mono hb.size))
   have HO := hid (fun wx (hx : Below wr.heap.size wr wx) => owns_below hown hx)
   have hsz := h0.lt
   cases hr : r k
   ·rw [hr] at hc HS
    have HM : Hid (strTo r (k + 1) = strTo r k) := hid (by rw [HS.out]; simp)
    clear hr HS CI
    go_wp2_with fail
    go_roundw
    case rel => exact ⟨k + 1, by omega, by go_num, by rw [HM.out]; exact hown, h0, hb⟩
    case measure => simp [intOf]; omega
   ·rw [hr] at hc HS
    clear hr
    cases hm : abv r (k : Int)
    ·rw [hm] at CI HS
     have HM : Hid (strTo r (k + 1) = strTo r k ++ [k]) := hid (by rw [HS.out]; simp)
     clear hm HS
     go_wp2_with (with_reducible refine wpList_load_rowB_g h0 _ rfl (by kernel_rfl) rfl ?_)
     refine (CI.out).mono ?_
     rintro e w6 ⟨rfl, hb6⟩
     have h6 := H2.out _ hb6
     have hbw := HB.out _ hb6
     have hown6 := HO.out _ hb6
     have hs6 := h6.lt
     clear CI hown h0 hb hb6 hsz H2 HB HO
     go_wp2_with (at_builtin; refine wpList_append_own _ rfl _ _ 54 rfl (w.heap.size + 1) 74 i0 (.int .i64 0) 1 8 Tryz.underlying54 hi hz0 hz1 hz2 rfl (by decide) _ _ _ rfl (hown6.alloc _) ⟨_, 0, none⟩ 1 1 [.int .i64 (k : Int)] rfl rfl ?c1 ?c2 ?c3 ?c4 ?c5 ?_)
     case c1 => exact cell_one_new _ _ _
     case c2 => intro u hu; simp at hu; subst hu; rfl
     case c3 => unfold maxLen; omega
     case c4 => omega
     case c5 => simp; omega
     ·intro v' w7 hown' hgrow _
      have hb' := below_app0 hbw (Nat.le_refl _) hown6 (by omega) hgrow
      have h7 := (h6.alloc _).kept hgrow (fun e => by have := (hown6.lt _ e.symm).1; omega)
      clear hown6 h6 hbw hgrow
      go_wp2_with fail
      go_roundw
      case rel =>
       refine ⟨k + 1, by omega, by go_num, ?_, h7, hb'⟩
       rw [HM.out, natV_snoc, List.length_append]
       exact hown'
      case measure => simp [intOf]; omega
    ·rw [hm] at CI HS
     have HM : Hid (strTo r (k + 1) = strTo r k) := hid (by rw [HS.out]; simp)
     clear hm HS
     go_wp2_with (first
      | (with_reducible refine wpList_load_rowB_g h0 _ rfl (by kernel_rfl) rfl ?_)
      | (go_at_call 111; refine (CI.out).mono ?_; rintro e w' ⟨rfl, hbb⟩))
     go_roundw
     case rel => exact ⟨k + 1, by omega, by go_num, by rw [HM.out]; exact HO.out _ hbb, H2.out _ hbb, HB.out _ hbb⟩
     case measure => simp [intOf]; omega
  ·have hkn : k = 12 := by omega
   subst hkn
   go_wp2_with fail
   go_ret
   exact ⟨_, rfl, own_base0 hown (by omega), hb⟩
end

section
open Go.RowKit
def eqlB (r s : Nat → Bool) : Bool := (List.range 12).all fun i => r i == s i
theorem eqlB_one {r s : Nat → Bool} (h : ∀ i, i < 12 → r i = s i) : eqlB r s = true := by
 unfold eqlB
 rw [List.all_eq_true]
 intro i hi
 rw [h i (List.mem_range.1 hi)]; simp
theorem items_rowB2 (r s : Nat → Bool) (w : World) : ∀ (is : List Nat), (∀ i ∈ is, i < 12) → (Op.eqItems 9999 4 1 (rowB r) (rowB s) is).run Tryz.prog w = .ok (is.all fun i => r i == s i) w
 | [], _ => by simp [Op.eqItems]
 | i :: is, h => by
  have hi := h i List.mem_cons_self
  have h1 := rowB_at r hi
  have h2 := rowB_at s hi
  have ih := items_rowB2 r s w is (fun j hj => h j (List.mem_cons_of_mem _ hj))
  have hp : (part 4 (rowB r) (i * 1)).run Tryz.prog w = .ok (.bool (r i)) w := by
   simp [part, isAgg, Sem.run_bind, run_underlying Tryz.underlying4 w, h1]
  have hq : (part 4 (rowB s) (i * 1)).run Tryz.prog w = .ok (.bool (s i)) w := by
   simp [part, isAgg, Sem.run_bind, run_underlying Tryz.underlying4 w, h2]
  have he : (Op.equalIn (9998 + 1) 4 (.bool (r i)) (.bool (s i))).run Tryz.prog w = .ok (r i == s i) w := by
   rw [run_equalIn_bool w 9998 4 _ _ Tryz.underlying4]
  simp only [Op.eqItems, Sem.run_bind, hp, hq, Result.andThen_ok, List.all_cons]
  rw [he]
  cases hrs : (r i == s i) with
  | true =>
   simp only [Result.andThen_ok, Bool.not_true, Bool.false_eq_true, if_false, Bool.true_and]
   exact ih
  | false => simp
theorem run_eql_rowB2 (r s : Nat → Bool) (w : World) : (binOp .eql 38 (.agg (rowB r)) (.agg (rowB s))).run Tryz.prog w = .ok (.bool (eqlB r s)) w := by
 obtain ⟨i, hi, _⟩ := Option.map_eq_some_iff.1 infoBool
 have hc : Tryz.prog.cellsOf 4 = 1 := by kernel_rfl
 rw [run_eql_struct, run_equalIn_array w 9999 (rowB r) (rowB s) Tryz.underlying38 hi, hc, items_rowB2 r s w _ (fun i hi => List.mem_range.1 hi)]
 rfl
theorem wpList_load_midG {P : Program} {ops : Array Oper} {rest : List Oper} {op : Oper} {a : Act} {w : World} {Q : Exit → Act → World → Prop} (ty : TypeId) (x : Operand) (ho : op.op = .load ty x) (hw : Region.wanted op (yielded ops a.tmps) = true)
  (b o : Nat) (hx : a.eval x = .pointer (some ⟨b, o, none⟩)) (cs : List Value) (d : TypeDesc) (hc : w.rangeAt b o cs)
  (hu : P.underlying ty = some d) (hd : d.isRow = true) (hi : (P.info? ty).map (·.size) = some cs.length)
  (h : wpList P ops Q rest (a.put op.dst (.agg cs.toArray)) w) : wpList P ops Q (op :: rest) a w :=
 wpList_step fun K hK => by rw [if_pos hw]; exact wp_load_mid ty x ho b o hx cs d hc hu hd hi (hK _ _ h)
theorem VecAt.boxed (w : World) (r : Nat → Bool) (ws : Nat → Value × Value) : VecAt (w.alloc (.cells (vecL r ws).toArray 44)) w.heap.size r ws := VecAt.made w _ r ws
theorem vsame_any (r s : Nat → Bool) (ws us : Nat → Value × Value) (w : World) :
  Calls Tryz.prog 16 #[.agg (vecL r ws).toArray, .agg (vecL s us).toArray] w fun e w' => e = .returned (.bool (eqlB r s)) ∧ Below w.heap.size w w' := by
 have v1 := VecAt.boxed w r ws
 have b1 := box_below w (.cells (vecL r ws).toArray 44)
 have v2 := VecAt.boxed (w.alloc (.cells (vecL r ws).toArray 44)) s us
 have b2 := box_below (w.alloc (.cells (vecL r ws).toArray 44)) (.cells (vecL s us).toArray 44)
 have hs : (w.alloc (.cells (vecL r ws).toArray 44)).heap.size = w.heap.size + 1 := by simp
 have v1 := v1.below b2 (by rw [hs]; omega)
 rw [hs] at v2
 have hb := below_then b1 b2
 have G0 := fun (x y : Operand) (w : World) => guard_rowB .eql x y r s w
 have E0 := fun (w : World) => run_eql_rowB2 r s w
 have r1 := v1.row
 have r2 := v2.row
 clear b1 b2 hs v1 v2
 go_enter Tryz.func16, Tryz.ntmps16
 go_upto_region 1 with fail
 generalize (w.alloc (.cells (vecL r ws).toArray 44)).alloc (.cells (vecL s us).toArray 44) = w2 at *
 go_wp2_with (first
  | (with_reducible refine wpList_load_mid rfl 38 _ rfl w.heap.size 0 rfl (rowB r).toList _ r1 Tryz.underlying38 rfl (by kernel_rfl) ?_)
  | (with_reducible refine wpList_load_mid rfl 38 _ rfl (w.heap.size + 1) 0 rfl (rowB s).toList _ r2 Tryz.underlying38 rfl (by kernel_rfl) ?_))
 go_ret
 exact ⟨rfl, hb⟩
end

section
open Go.RowKit
section
variable {h : List TxnV}
end
theorem fuel_most : fuelN 4611686018427387904 = 4611686018427387904 := by decide +kernel
theorem info_vec (r : Nat → Bool) (ws : Nat → Value × Value) : (Tryz.prog.info? 44).map (·.size) = some (vecL r ws).length := by rw [vecL_len]; kernel_rfl
theorem info_vecA (r : Nat → Bool) (ws : Nat → Value × Value) : (Tryz.prog.info? 44).map (·.size) = some (vecL r ws).toArray.size := by rw [show (vecL r ws).toArray.size = 36 from vecL_len _ _]; kernel_rfl
theorem results_vec3 {fn : Func} {p u v : Tmp} (h : fn.results = #[.tmp u, .cell p 44, .tmp v]) (tmps : Array Value) (w : World) (g : Nat) (r : Nat → Bool) (ws : Nat → Value × Value)
  (hp : tmps.getD p undef = .pointer (some ⟨g, 0, none⟩)) (hg : VecAt w g r ws) : (results fn tmps).run Tryz.prog w = .ok (.tuple #[tmps.getD u undef, .agg (vecL r ws).toArray, tmps.getD v undef]) w := by
 have hp' : tmps[p]?.getD undef = .pointer (some ⟨g, 0, none⟩) := by simpa using hp
 simp [results, h, hp', asAddr, run_loadVar_mid w g 0 44 (vecL r ws) _ hg.all Tryz.underlying44 rfl (info_vec r ws)]
theorem vec_put (w : World) (r : Nat → Bool) (ws : Nat → Value × Value) : VecAt ((w.alloc (.cells #[.bool false, .bool false, .bool false, .bool false, .bool false, .bool false, .bool false, .bool false, .bool false, .bool false, .bool false, .bool false, .slice none 0 0, .slice none 0 0, .slice none 0 0, .slice none 0 0, .slice none 0 0, .slice none 0 0, .slice none 0 0, .slice none 0 0, .slice none 0 0, .slice none 0 0, .slice none 0 0, .slice none 0 0, .slice none 0 0, .slice none 0 0, .slice none 0 0, .slice none 0 0, .slice none 0 0, .slice none 0 0, .slice none 0 0, .slice none 0 0, .slice none 0 0, .slice none 0 0, .slice none 0 0, .slice none 0 0] 44)).setCells w.heap.size 0 (vecL r ws)) w.heap.size r ws ∧ Below w.heap.size w ((w.alloc (.cells #[.bool false, .bool false, .bool false, .bool false, .bool false, .bool false, .bool false, .bool false, .bool false, .bool false, .bool false, .bool false, .slice none 0 0, .slice none 0 0, .slice none 0 0, .slice none 0 0, .slice none 0 0, .slice none 0 0, .slice none 0 0, .slice none 0 0, .slice none 0 0, .slice none 0 0, .slice none 0 0, .slice none 0 0, .slice none 0 0, .slice none 0 0, .slice none 0 0, .slice none 0 0, .slice none 0 0, .slice none 0 0, .slice none 0 0, .slice none 0 0, .slice none 0 0, .slice none 0 0, .slice none 0 0, .slice none 0 0] 44)).setCells w.heap.size 0 (vecL r ws)) ∧ (w.alloc (.cells #[.bool false, .bool false, .bool false, .bool false, .bool false, .bool false, .bool false, .bool false, .bool false, .bool false, .bool false, .bool false, .slice none 0 0, .slice none 0 0, .slice none 0 0, .slice none 0 0, .slice none 0 0, .slice none 0 0, .slice none 0 0, .slice none 0 0, .slice none 0 0, .slice none 0 0, .slice none 0 0, .slice none 0 0, .slice none 0 0, .slice none 0 0, .slice none 0 0, .slice none 0 0, .slice none 0 0, .slice none 0 0, .slice none 0 0, .slice none 0 0, .slice none 0 0, .slice none 0 0, .slice none 0 0, .slice none 0 0] 44)).there w.heap.size 0 (vecL r ws).toArray.size :=
 ⟨(VecAt.zero w).put r ws, below_putC (Nat.le_refl _) _ _ _ (box_below w _), by rw [show (vecL r ws).toArray.size = 36 from vecL_len _ _]; exact (VecAt.zero w).there (by omega)⟩
def WitsIn (h : List TxnV) (ws : Nat → Value × Value) (b0 : Nat) (w : World) : Prop := ∀ i, i < 12 → OwnW w b0 (ws i).1 (ws i).2 (decW h (i : Int)).1 (decW h (i : Int)).2.1
section
variable {h : List TxnV} {ws : Nat → Value × Value} {b0 : Nat} {w w' : World}
theorem WitsIn.below (q : WitsIn h ws b0 w) (hb : Below w.heap.size w w') : WitsIn h ws b0 w' := fun i hi => (q i hi).below hb
theorem WitsIn.cells (q : WitsIn h ws b0 w) {g : Nat} (hg : g < b0) (o : Nat) (vs : List Value) : WitsIn h ws b0 (w.setCells g o vs) := fun i hi => (q i hi).cells hg o vs
theorem WitsIn.base (q : WitsIn h ws b0 w) {b1 : Nat} (hb : b1 ≤ b0) : WitsIn h ws b1 w := fun i hi => (q i hi).base hb
theorem WitsIn.one (q : WitsIn h ws b0 w) (r : Nat → Bool) : (vecL r ws).toArray.all (·.oneCell') = true := vecL_one fun i hi => by
 obtain ⟨_, _, _, _, _, _, e1, e2⟩ := (q i hi).form
 rw [e1, e2]; exact ⟨rfl, rfl⟩
end
theorem map_cells {α : Type} {e : α → Value} {P : Program} {k : TypeId} {w : World} {b n : Nat} {f : Int → Option α} {c g : Nat} (h : MapI e P k w b n f c) {v : Value} (hc : w.cell? ⟨g, 0, none⟩ = some v) : b ≠ g := by
 rintro rfl
 obtain ⟨D, ⟨es, clock, hh, _⟩, _⟩ := h
 unfold World.cell? at hc
 simp [hh] at hc
theorem OrdIs.apart {w : World} {B b : Nat} {h : List TxnV} (hO : OrdIs w B b h) {g : Nat} (hg : g < B) (hgb : g < b) {v : Value} (hc : w.cell? ⟨g, 0, none⟩ = some v) (o : Nat) (vs : List Value) : OrdIs (w.setCells g o vs) B b h := by
 obtain ⟨bm, m, c, vk, vr, K, R, h1, h2, h3, h4, h5, h6⟩ := hO
 refine ⟨bm, m, c, vk, vr, K, R, fun i hi => ?_, MapI.cells (map_cells h2 hc) vs o w h2, h3, h4.cells hgb o vs, h5, h6⟩
 rw [World.frozen?_setCells, cell_put (p := ⟨B, i, none⟩) (by show B ≠ g; omega)]
 exact h1 i hi
theorem vof_ok {w0 w : World} {B b : Nat} {h : List TxnV} (much : Int) (F : Nat) (hF : fuelN much = F) (hO : OrdIs w0 B b h) (ht : Tab w0) (hK : Kinds w0) (hc : checkI h = 0) (hb : Below w0.heap.size w0 w) (hM : ∀ l : Nat, l < 12 → (decN h (l : Int)).2.2 + 2 ≤ 1099511627776) (hl : Lasts F 0 (vecTo h 12).2) :
  Calls Tryz.prog 46 #[.pointer (some ⟨B, 0, none⟩), .int .i64 much] w fun e w' => (∃ ws, e = .returned (.tuple #[.agg (vecL (accV h) ws).toArray, .int .i64 0]) ∧ WitsIn h ws w.heap.size w') ∧ Below w.heap.size w w' := by
 refine (vof_any much F hF hO ht hK hc hb hM).mono ?_
 rintro e w' ⟨hb', ⟨_, ws, rfl, hw⟩ | ⟨hn, _⟩⟩
 ·exact ⟨⟨ws, rfl, hw⟩, hb'⟩
 ·exact (hn hl).elim
theorem vof_no {w0 w : World} {B b : Nat} {h : List TxnV} (much : Int) (F : Nat) (hF : fuelN much = F) (hO : OrdIs w0 B b h) (ht : Tab w0) (hK : Kinds w0) (hc : checkI h = 0) (hb : Below w0.heap.size w0 w) (hM : ∀ l : Nat, l < 12 → (decN h (l : Int)).2.2 + 2 ≤ 1099511627776) (hl : ¬ Lasts F 0 (vecTo h 12).2) :
  Calls Tryz.prog 46 #[.pointer (some ⟨B, 0, none⟩), .int .i64 much] w fun e w' => e = .returned (.tuple #[.agg (vecL noB wZ0).toArray, .int .i64 4]) ∧ Below w.heap.size w w' := by
 refine (vof_any much F hF hO ht hK hc hb hM).mono ?_
 rintro e w' ⟨hb', ⟨hy, _⟩ | ⟨_, rfl⟩⟩
 ·exact (hl hy).elim
 ·exact ⟨rfl, hb'⟩
theorem vec_few {h : List TxnV} (hn : h.length ≤ 7) : ∀ l : Nat, l < 12 → (decN h (l : Int)).2.2 + 2 ≤ 1099511627776 := fun l _ => by
 have h1 := dec_tries h (l : Int)
 have h2 := tr_le h.length hn
 omega
theorem lawof_any (va : Value) (h : List TxnV) (w : World) (hT : Txns w va h) (hok : ∀ t ∈ h, t.ok) (hsh : Short h) (hc : checkI h = 0) (ht : Tab w) (hK : Kinds w) (hM : ∀ l : Nat, l < 12 → (decN h (l : Int)).2.2 + 2 ≤ 1099511627776) :
  Calls Tryz.prog 15 #[va] w fun e w' => (∃ B ws, e = .returned (.tuple #[.pointer (some ⟨B, 0, none⟩), .agg (vecL (accV h) ws).toArray, .bool true]) ∧ OrdIs w' B (B + 2) h ∧ WitsIn h ws w.heap.size w') ∧ Below w.heap.size w w' := by
 have hg := ht.pos
 have V3 := VecAt.zero w
 have hb1 := box_below w (.cells #[.bool false, .bool false, .bool false, .bool false, .bool false, .bool false, .bool false, .bool false, .bool false, .bool false, .bool false, .bool false, .slice none 0 0, .slice none 0 0, .slice none 0 0, .slice none 0 0, .slice none 0 0, .slice none 0 0, .slice none 0 0, .slice none 0 0, .slice none 0 0, .slice none 0 0, .slice none 0 0, .slice none 0 0, .slice none 0 0, .slice none 0 0, .slice none 0 0, .slice none 0 0, .slice none 0 0, .slice none 0 0, .slice none 0 0, .slice none 0 0, .slice none 0 0, .slice none 0 0, .slice none 0 0, .slice none 0 0] 44)
 have CO := hid (of_done va h _ (hT.below hb1) hok hsh hc)
 have HT : Hid (∀ wx, Below w.heap.size w wx → Tab wx ∧ Kinds wx) := hid (fun wx hb => ⟨ht.below hb hg, hK.below hb⟩)
 have hs1 : (w.alloc (.cells #[.bool false, .bool false, .bool false, .bool false, .bool false, .bool false, .bool false, .bool false, .bool false, .bool false, .bool false, .bool false, .slice none 0 0, .slice none 0 0, .slice none 0 0, .slice none 0 0, .slice none 0 0, .slice none 0 0, .slice none 0 0, .slice none 0 0, .slice none 0 0, .slice none 0 0, .slice none 0 0, .slice none 0 0, .slice none 0 0, .slice none 0 0, .slice none 0 0, .slice none 0 0, .slice none 0 0, .slice none 0 0, .slice none 0 0, .slice none 0 0, .slice none 0 0, .slice none 0 0, .slice none 0 0, .slice none 0 0] 44)).heap.size = w.heap.size + 1 := by simp
 have HC := hid hc
 have HM := hid hM
 clear hT hok hsh hc ht hK hM
 go_enter Tryz.func15, Tryz.ntmps15
 go_upto_region 1 with fail
 generalize w.alloc (.cells #[.bool false, .bool false, .bool false, .bool false, .bool false, .bool false, .bool false, .bool false, .bool false, .bool false, .bool false, .bool false, .slice none 0 0, .slice none 0 0, .slice none 0 0, .slice none 0 0, .slice none 0 0, .slice none 0 0, .slice none 0 0, .slice none 0 0, .slice none 0 0, .slice none 0 0, .slice none 0 0, .slice none 0 0, .slice none 0 0, .slice none 0 0, .slice none 0 0, .slice none 0 0, .slice none 0 0, .slice none 0 0, .slice none 0 0, .slice none 0 0, .slice none 0 0, .slice none 0 0, .slice none 0 0, .slice none 0 0] 44) = w1 at *
 go_wp2_with fail
 refine CO.out.mono ?_
 rintro e w2 ⟨⟨B, rfl, hB, hO⟩, h2⟩
 have hb2 := below_then hb1 h2
 have h12 := h2.size
 have V3 := V3.below h2 V3.lt
 have hTK := HT.out _ hb2
 have CV := hid (vof_ok (w := w2) 4611686018427387904 4611686018427387904 fuel_most hO hTK.1 hTK.2 HC.out (Below.refl _ _) HM.out (.inl rfl))
 have HO := hid (fun wx (hx : Below w2.heap.size w2 wx) => hO.below hx)
 clear CO hO h2 hTK hb1
 go_wp2_with fail
 refine CV.out.mono ?_
 rintro e w3 ⟨⟨ws, rfl, hW⟩, h3⟩
 obtain ⟨V7, hb7, hth⟩ := vec_put w3 (accV h) ws
 have hone := hW.one (accV h)
 have hinf := info_vecA (accV h) ws
 have h27 := below_then h3 hb7
 have HO7 := hid (HO.out _ h27)
 have W7 := hW.below hb7
 have V3 := V3.below h3 V3.lt
 have hne := V3.lt
 have V3 := V3.below hb7 V3.lt
 have hbW := below_then hb2 h27
 clear CV h3 h27 hb2 hW HO
 go_upto_region 5 with (first | (with_reducible refine wpList_store_mid rfl 44 _ _ rfl w3.heap.size 0 (vecL (accV h) ws).toArray rfl rfl hth hinf hone ?_))
 generalize (w3.alloc (.cells #[.bool false, .bool false, .bool false, .bool false, .bool false, .bool false, .bool false, .bool false, .bool false, .bool false, .bool false, .bool false, .slice none 0 0, .slice none 0 0, .slice none 0 0, .slice none 0 0, .slice none 0 0, .slice none 0 0, .slice none 0 0, .slice none 0 0, .slice none 0 0, .slice none 0 0, .slice none 0 0, .slice none 0 0, .slice none 0 0, .slice none 0 0, .slice none 0 0, .slice none 0 0, .slice none 0 0, .slice none 0 0, .slice none 0 0, .slice none 0 0, .slice none 0 0, .slice none 0 0, .slice none 0 0, .slice none 0 0] 44)).setCells w3.heap.size 0 (vecL (accV h) ws) = w7 at *
 generalize w3.heap.size = g7 at *
 have kd := (Below.refl w7.heap.size w7).drew
 have V7 := hid (V7.below kd V7.lt)
 have HO7 := hid (HO7.out.below kd)
 have W7 := W7.below kd
 have HV3 := hid (V3.below kd V3.lt)
 have hbW := below_then hbW kd
 have hinf2 := info_vec (accV h) ws
 clear V3 kd hth
 refine wp_region_held_drew (S := fun wx => wx.rangeAt g7 0 (vecL (accV h) ws)) (by kernel_rfl) V7.out.all (fun hS0 => ?_)
 generalize w7.drew = wd at *
 refine tG (some 25) 0 ?vtg0x1 rfl rfl (Or.inl ⟨by rfl, ?htg0x1⟩) hS0 ?rtg0x1
 case htg0x1 => (intro w hw; go_simp; try (with_reducible rfl))
 try simp only [Act.put, zA, zB, zC]
 refine tG (some 26) 1 _ rfl rfl (yieldsIf_load_mid (by rfl) 44 _ rfl g7 0 rfl (vecL (accV h) ws) _ (fun _ hw => hw) Tryz.underlying44 rfl hinf2) hS0 ?_
 try simp only [Act.put, zA, zB, zC]
 refine tG (some 27) 2 ?vtg2x3 rfl rfl (Or.inl ⟨by rfl, ?htg2x3⟩) hS0 ?rtg2x3
 case htg2x3 => (intro w hw; go_simp; try (with_reducible rfl))
 try simp only [Act.put, zA, zB, zC]
 refine tG (some 28) 3 ?vtg3x4 rfl rfl (Or.inl ⟨by rfl, ?htg3x4⟩) hS0 ?rtg3x4
 case htg3x4 => (intro w hw; go_simp; try (with_reducible rfl))
 try simp only [Act.put, zA, zB, zC]
 refine tG (some 2) 4 ?vtg4x5 rfl rfl (Or.inl ⟨by rfl, ?htg4x5⟩) hS0 ?rtg4x5
 case htg4x5 => (intro w hw; go_simp; try (with_reducible rfl))
 try simp only [Act.put, zA, zB, zC]
 refine rD 5 rfl (fun K hK => ?_)
 have hth := HV3.out.there (o := 0) (n := 36) (by omega)
 rw [show 36 = (vecL (accV h) ws).toArray.size from (vecL_len _ _).symm] at hth
 refine wp_store_mid 44 _ _ rfl w.heap.size 0 (vecL (accV h) ws).toArray rfl rfl hth hinf hone ?_
 have sB : (wd.setCells w.heap.size 0 (vecL (accV h) ws)).rangeAt g7 0 (vecL (accV h) ws) := World.rangeAt_setCells_apart hS0 _ _ _ (.inl (by omega))
 refine hK.out _ _ sB (fun _ => ?_)
 clear hK K hth
 refine tG (some 4) 6 ?vtg6x7 rfl rfl (Or.inl ⟨by rfl, ?htg6x7⟩) sB ?rtg6x7
 case htg6x7 => (intro w hw; go_simp; try (with_reducible rfl))
 try simp only [Act.put, List.setIfInBounds_toArray]
 refine wpAnyH_done (by kernel_rfl) ?_ _
 have HV9 := hid (HV3.out.put (accV h) ws)
 have HF : Hid (OrdIs (wd.setCells w.heap.size 0 (vecL (accV h) ws)) B (B + 2) h ∧ WitsIn h ws w.heap.size (wd.setCells w.heap.size 0 (vecL (accV h) ws)) ∧ Below w.heap.size w (wd.setCells w.heap.size 0 (vecL (accV h) ws))) := hid ⟨HO7.out.apart (by omega) (by omega) (HV3.out 0 (by omega)).1 0 _, (W7.cells (by omega) 0 _).base (by omega), below_putC (Nat.le_refl _) _ _ _ hbW⟩
 go_wp2_with fail
 refine bodyPost_ret (results_vec3 rfl _ _ _ (accV h) ws rfl HV9.out) rfl ⟨⟨B, ws, rfl, HF.out.1, HF.out.2.1⟩, HF.out.2.2⟩
end

section
open Go.RowKit
def outL (k n : Int) (r : Nat → Bool) (ws : Nat → Value × Value) : List Value := .int .i64 k :: .int .i64 n :: vecL r ws
theorem outL_len (k n : Int) (r : Nat → Bool) (ws : Nat → Value × Value) : (outL k n r ws).length = 38 := by unfold outL; simp [vecL_len]
def OutAt (w : World) (g : Nat) (k n : Int) (r : Nat → Bool) (ws : Nat → Value × Value) : Prop := ∀ i u, (outL k n r ws)[i]? = some u → w.cell? ⟨g, i, none⟩ = some u ∧ w.frozen? ⟨g, i, none⟩ = false
section
variable {w w' : World} {g : Nat} {k n : Int} {r : Nat → Bool} {ws : Nat → Value × Value}
theorem outL_at (k n : Int) (r : Nat → Bool) (ws : Nat → Value × Value) {i : Nat} (hi : i < 38) : ∃ u, (outL k n r ws)[i]? = some u := ⟨_, List.getElem?_eq_getElem (by rw [outL_len]; exact hi)⟩
theorem OutAt.lt (h : OutAt w g k n r ws) : g < w.heap.size := block_lt (h 0 _ rfl).1
theorem OutAt.below {B : Nat} (h : OutAt w g k n r ws) (hb : Below B w w') (hB : g < B) : OutAt w' g k n r ws := fun i u hu => by
 rw [hb.cell (p := ⟨g, i, none⟩) hB, hb.frozen (p := ⟨g, i, none⟩) hB]; exact h i u hu
theorem OutAt.all (h : OutAt w g k n r ws) : w.rangeAt g 0 (outL k n r ws) := fun j v hv => by rw [Nat.zero_add, (h j v hv).1]
theorem OutAt.there (h : OutAt w g k n r ws) {o m : Nat} (ho : o + m ≤ 38) : w.there g o m := fun j hj => by
 obtain ⟨u, hu⟩ := outL_at k n r ws (i := o + j) (by omega)
 obtain ⟨h1, h2⟩ := h (o + j) u hu
 exact ⟨by rw [h1]; rfl, h2⟩
theorem OutAt.put (h : OutAt w g k n r ws) (k' n' : Int) (s : Nat → Bool) (us : Nat → Value × Value) : OutAt (w.setCells g 0 (outL k' n' s us)) g k' n' s us := fun i u hu => by
 have hi : i < 38 := by have := (List.getElem?_eq_some_iff.1 hu).1; rwa [outL_len] at this
 rw [World.frozen?_setCells]
 obtain ⟨x, hx⟩ := outL_at k n r ws hi
 refine ⟨?_, (h i x hx).2⟩
 have := World.cell?_setCells_in g (outL k' n' s us) 0 w (fun j hj => by
  rw [outL_len] at hj
  obtain ⟨y, hy⟩ := outL_at k n r ws hj
  rw [Nat.zero_add, (h j y hy).1]; rfl) i (by rw [outL_len]; exact hi)
 rw [Nat.zero_add] at this
 rw [this]
 rw [← hu]
 exact (List.getElem?_eq_getElem (by rw [outL_len]; exact hi)).symm
end
theorem OutAt.zero (w : World) : OutAt (w.alloc (.cells #[.int .i64 0, .int .i64 0, .bool false, .bool false, .bool false, .bool false, .bool false, .bool false, .bool false, .bool false, .bool false, .bool false, .bool false, .bool false, .slice none 0 0, .slice none 0 0, .slice none 0 0, .slice none 0 0, .slice none 0 0, .slice none 0 0, .slice none 0 0, .slice none 0 0, .slice none 0 0, .slice none 0 0, .slice none 0 0, .slice none 0 0, .slice none 0 0, .slice none 0 0, .slice none 0 0, .slice none 0 0, .slice none 0 0, .slice none 0 0, .slice none 0 0, .slice none 0 0, .slice none 0 0, .slice none 0 0, .slice none 0 0, .slice none 0 0] 52)) w.heap.size 0 0 noB wZ0 := fun i u hu => by
 have hn := heap_alloc_new w (.cells #[.int .i64 0, .int .i64 0, .bool false, .bool false, .bool false, .bool false, .bool false, .bool false, .bool false, .bool false, .bool false, .bool false, .bool false, .bool false, .slice none 0 0, .slice none 0 0, .slice none 0 0, .slice none 0 0, .slice none 0 0, .slice none 0 0, .slice none 0 0, .slice none 0 0, .slice none 0 0, .slice none 0 0, .slice none 0 0, .slice none 0 0, .slice none 0 0, .slice none 0 0, .slice none 0 0, .slice none 0 0, .slice none 0 0, .slice none 0 0, .slice none 0 0, .slice none 0 0, .slice none 0 0, .slice none 0 0, .slice none 0 0, .slice none 0 0] 52)
 refine ⟨?_, frozen_of_row _ _ _ _ _ hn⟩
 rw [cell_of_row _ _ _ _ _ _ hn, ← hu]
 have e : (#[.int .i64 0, .int .i64 0, .bool false, .bool false, .bool false, .bool false, .bool false, .bool false, .bool false, .bool false, .bool false, .bool false, .bool false, .bool false, .slice none 0 0, .slice none 0 0, .slice none 0 0, .slice none 0 0, .slice none 0 0, .slice none 0 0, .slice none 0 0, .slice none 0 0, .slice none 0 0, .slice none 0 0, .slice none 0 0, .slice none 0 0, .slice none 0 0, .slice none 0 0, .slice none 0 0, .slice none 0 0, .slice none 0 0, .slice none 0 0, .slice none 0 0, .slice none 0 0, .slice none 0 0, .slice none 0 0, .slice none 0 0, .slice none 0 0] : Array Value).toList = outL 0 0 noB wZ0 := by kernel_rfl
 rw [← Array.getElem?_toList, e]
theorem info_out (k n : Int) (r : Nat → Bool) (ws : Nat → Value × Value) : (Tryz.prog.info? 52).map (·.size) = some (outL k n r ws).length := by rw [outL_len]; kernel_rfl
theorem info_outA (k n : Int) (r : Nat → Bool) (ws : Nat → Value × Value) : (Tryz.prog.info? 52).map (·.size) = some (outL k n r ws).toArray.size := by rw [show (outL k n r ws).toArray.size = 38 from outL_len _ _ _ _]; kernel_rfl
theorem results_out {fn : Func} {p : Tmp} (h : fn.results = #[.cell p 52]) (tmps : Array Value) (w : World) (g : Nat) (k n : Int) (r : Nat → Bool) (ws : Nat → Value × Value)
  (hp : tmps.getD p undef = .pointer (some ⟨g, 0, none⟩)) (hg : OutAt w g k n r ws) : (results fn tmps).run Tryz.prog w = .ok (.agg (outL k n r ws).toArray) w := by
 have hp' : tmps[p]?.getD undef = .pointer (some ⟨g, 0, none⟩) := by simpa using hp
 simp [results, h, hp', asAddr, run_loadVar_mid w g 0 52 (outL k n r ws) _ hg.all Tryz.underlying52 rfl (info_out k n r ws)]
theorem outL_one {k n : Int} {r : Nat → Bool} {ws : Nat → Value × Value} (h : (vecL r ws).toArray.all (·.oneCell') = true) : (outL k n r ws).toArray.all (·.oneCell') = true := by
 unfold outL
 simp only [List.all_toArray, List.all_cons] at h ⊢
 rw [h]; rfl
theorem wZ0_one (r : Nat → Bool) : (vecL r wZ0).toArray.all (·.oneCell') = true := vecL_one fun _ _ => ⟨rfl, rfl⟩
theorem build_judged (r : Nat → Bool) (ws : Nat → Value × Value) : Tryz.prog.built 52 [(0, .int .i64 4), (2, .agg (vecL r ws).toArray)] = some (outL 4 0 r ws).toArray := by kernel_rfl
theorem build_fuel : Tryz.prog.built 52 [(0, .int .i64 3)] = some (outL 3 0 noB wZ0).toArray := by kernel_rfl
theorem build_large : Tryz.prog.built 52 [(0, .int .i64 2)] = some (outL 2 0 noB wZ0).toArray := by kernel_rfl
theorem build_bad (n : Int) : Tryz.prog.built 52 [(0, .int .i64 1), (1, .int .i64 n)] = some (outL 1 n noB wZ0).toArray := by kernel_rfl
theorem wpList_built {ops : Array Oper} {rest : List Oper} {o : Oper} {a : Act} {w : World} {Q : Exit → Act → World → Prop} {t : TypeId} {parts : Array (Nat × Operand)} {cs : Array Value} (hw : Region.wanted o (yielded ops a.tmps) = true) (ho : o.op = .build t parts)
  (hb : Tryz.prog.built t (parts.toList.map fun p => (p.1, a.eval p.2)) = some cs) (h : wpList Tryz.prog ops Q rest (a.put o.dst (.agg cs)) w) : wpList Tryz.prog ops Q (o :: rest) a w := by
 refine wpList_step fun K hK => ?_
 rw [if_pos hw]
 unfold Oper.wp execOp
 have hr := run_build w t (parts.map fun p => (p.1, a.eval p.2)) cs (by rw [Array.toList_map]; exact hb)
 simp only [ho, Sem.run_bind, Sem.run_pure, Result.andThen_ok, hr]
 exact hK _ _ h
theorem judge_any (va : Value) (h : List TxnV) (much : Int) (w : World) (hT : Txns w va h) (hok : ∀ t ∈ h, t.ok) (hsh : Short h) (hc : checkI h = 0) (ht : Tab w) (hK : Kinds w) (hM : ∀ l : Nat, l < 12 → (decN h (l : Int)).2.2 + 2 ≤ 1099511627776) :
  Calls Tryz.prog 50 #[va, .int .i64 much] w fun e w' => ((Lasts (fuelN much) 0 (vecTo h 12).2 ∧ ∃ ws, e = .returned (.agg (outL 4 0 (accV h) ws).toArray) ∧ WitsIn h ws w.heap.size w') ∨ (¬ Lasts (fuelN much) 0 (vecTo h 12).2 ∧ e = .returned (.agg (outL 3 0 noB wZ0).toArray))) ∧ Below w.heap.size w w' := by
 have hg := ht.pos
 have O1 := OutAt.zero w
 have hb1 := box_below w (.cells #[.int .i64 0, .int .i64 0, .bool false, .bool false, .bool false, .bool false, .bool false, .bool false, .bool false, .bool false, .bool false, .bool false, .bool false, .bool false, .slice none 0 0, .slice none 0 0, .slice none 0 0, .slice none 0 0, .slice none 0 0, .slice none 0 0, .slice none 0 0, .slice none 0 0, .slice none 0 0, .slice none 0 0, .slice none 0 0, .slice none 0 0, .slice none 0 0, .slice none 0 0, .slice none 0 0, .slice none 0 0, .slice none 0 0, .slice none 0 0, .slice none 0 0, .slice none 0 0, .slice none 0 0, .slice none 0 0, .slice none 0 0, .slice none 0 0] 52)
 have hs1 : (w.alloc (.cells #[.int .i64 0, .int .i64 0, .bool false, .bool false, .bool false, .bool false, .bool false, .bool false, .bool false, .bool false, .bool false, .bool false, .bool false, .bool false, .slice none 0 0, .slice none 0 0, .slice none 0 0, .slice none 0 0, .slice none 0 0, .slice none 0 0, .slice none 0 0, .slice none 0 0, .slice none 0 0, .slice none 0 0, .slice none 0 0, .slice none 0 0, .slice none 0 0, .slice none 0 0, .slice none 0 0, .slice none 0 0, .slice none 0 0, .slice none 0 0, .slice none 0 0, .slice none 0 0, .slice none 0 0, .slice none 0 0, .slice none 0 0, .slice none 0 0] 52)).heap.size = w.heap.size + 1 := by simp
 have CO := hid (of_done va h _ (hT.below hb1) hok hsh hc)
 have HT : Hid (∀ wx, Below w.heap.size w wx → Tab wx ∧ Kinds wx) := hid (fun wx hb => ⟨ht.below hb hg, hK.below hb⟩)
 have HC := hid hc
 have HM := hid hM
 clear hT hok hsh hc ht hK hM
 go_enter Tryz.func50, Tryz.ntmps50
 go_upto_region 1 with fail
 generalize w.alloc (.cells #[.int .i64 0, .int .i64 0, .bool false, .bool false, .bool false, .bool false, .bool false, .bool false, .bool false, .bool false, .bool false, .bool false, .bool false, .bool false, .slice none 0 0, .slice none 0 0, .slice none 0 0, .slice none 0 0, .slice none 0 0, .slice none 0 0, .slice none 0 0, .slice none 0 0, .slice none 0 0, .slice none 0 0, .slice none 0 0, .slice none 0 0, .slice none 0 0, .slice none 0 0, .slice none 0 0, .slice none 0 0, .slice none 0 0, .slice none 0 0, .slice none 0 0, .slice none 0 0, .slice none 0 0, .slice none 0 0, .slice none 0 0, .slice none 0 0] 52) = w1 at *
 go_wp2_with fail
 refine CO.out.mono ?_
 rintro e w2 ⟨⟨B, rfl, hB, hO⟩, h2⟩
 have hb2 := below_then hb1 h2
 have h12 := h2.size
 have O2 := O1.below h2 O1.lt
 have hTK := HT.out _ hb2
 by_cases hla : Lasts (fuelN much) 0 (vecTo h 12).2
 ·have CV := hid (vof_ok (w := w2) much (fuelN much) rfl hO hTK.1 hTK.2 HC.out (Below.refl _ _) HM.out hla)
  have HLA := hid hla
  clear CO hO h2 hTK hb1 O1 hla
  go_wp2_with fail
  refine CV.out.mono ?_
  rintro e w3 ⟨⟨ws, rfl, hW⟩, h3⟩
  obtain ⟨V4, hb4, hth⟩ := vec_put w3 (accV h) ws
  have hone := hW.one (accV h)
  have hone2 := outL_one (k := 4) (n := 0) hone
  have hinf := info_vecA (accV h) ws
  have hinf2 := info_vec (accV h) ws
  have hinf3 := info_outA 4 0 (accV h) ws
  have W4 := hW.below hb4
  have h23 := h3.size
  have O3 := O2.below h3 O2.lt
  have O4 := O3.below hb4 O3.lt
  have hb5 := below_then (below_then hb2 h3) hb4
  have hbd := build_judged (accV h) ws
  clear CV h3 hb2 hW hb4 O2 O3
  go_upto_region 3 with (with_reducible refine wpList_store_mid rfl 44 _ _ rfl w3.heap.size 0 (vecL (accV h) ws).toArray rfl rfl hth hinf hone ?_)
  generalize (w3.alloc (.cells #[.bool false, .bool false, .bool false, .bool false, .bool false, .bool false, .bool false, .bool false, .bool false, .bool false, .bool false, .bool false, .slice none 0 0, .slice none 0 0, .slice none 0 0, .slice none 0 0, .slice none 0 0, .slice none 0 0, .slice none 0 0, .slice none 0 0, .slice none 0 0, .slice none 0 0, .slice none 0 0, .slice none 0 0, .slice none 0 0, .slice none 0 0, .slice none 0 0, .slice none 0 0, .slice none 0 0, .slice none 0 0, .slice none 0 0, .slice none 0 0, .slice none 0 0, .slice none 0 0, .slice none 0 0, .slice none 0 0] 44)).setCells w3.heap.size 0 (vecL (accV h) ws) = w4 at *
  have hgw : w.heap.size < w3.heap.size := by omega
  generalize w3.heap.size = g4 at *
  have hall := V4.all
  have hth2 := O4.there (o := 0) (m := (outL 4 0 (accV h) ws).toArray.size) (by rw [show (outL 4 0 (accV h) ws).toArray.size = 38 from outL_len _ _ _ _]; omega)
  have O5 := O4.put 4 0 (accV h) ws
  have W5 := (W4.cells (g := w.heap.size) (by omega) 0 (outL 4 0 (accV h) ws)).base (b1 := w.heap.size) (by omega)
  have hb6 := below_putC (Nat.le_refl w.heap.size) (outL 4 0 (accV h) ws) 0 _ hb5
  clear hth hone hinf V4 W4 O4 hb5 hgw h12 h23 hs1
  go_wp2_with (first | (with_reducible refine wpList_load_mid rfl 44 _ rfl g4 0 rfl (vecL (accV h) ws) _ hall Tryz.underlying44 rfl hinf2 ?_) | (refine wpList_built (by kernel_rfl) rfl hbd ?_) | (with_reducible refine wpList_store_mid rfl 52 _ _ rfl w.heap.size 0 (outL 4 0 (accV h) ws).toArray rfl rfl hth2 hinf3 hone2 ?_))
  exact bodyPost_ret (results_out rfl _ _ w.heap.size _ _ _ _ rfl O5) rfl ⟨.inl ⟨HLA.out, ws, rfl, W5⟩, hb6⟩
 ·have CV := hid (vof_no (w := w2) much (fuelN much) rfl hO hTK.1 hTK.2 HC.out (Below.refl _ _) HM.out hla)
  have HLA := hid hla
  clear CO hO h2 hTK hb1 O1 hla
  go_wp2_with fail
  refine CV.out.mono ?_
  rintro e w3 ⟨rfl, h3⟩
  obtain ⟨V4, hb4, hth⟩ := vec_put w3 noB wZ0
  have hone := wZ0_one noB
  have hone2 := outL_one (k := 3) (n := 0) hone
  have hinf := info_vecA noB wZ0
  have hinf3 := info_outA 3 0 noB wZ0
  have O3 := O2.below h3 O2.lt
  have O4 := O3.below hb4 O3.lt
  have hb5 := below_then (below_then hb2 h3) hb4
  have hbd := build_fuel
  clear CV h3 hb2 hb4 O2 O3 V4
  go_upto_region 3 with (with_reducible refine wpList_store_mid rfl 44 _ _ rfl w3.heap.size 0 (vecL noB wZ0).toArray rfl rfl hth hinf hone ?_)
  generalize (w3.alloc (.cells #[.bool false, .bool false, .bool false, .bool false, .bool false, .bool false, .bool false, .bool false, .bool false, .bool false, .bool false, .bool false, .slice none 0 0, .slice none 0 0, .slice none 0 0, .slice none 0 0, .slice none 0 0, .slice none 0 0, .slice none 0 0, .slice none 0 0, .slice none 0 0, .slice none 0 0, .slice none 0 0, .slice none 0 0, .slice none 0 0, .slice none 0 0, .slice none 0 0, .slice none 0 0, .slice none 0 0, .slice none 0 0, .slice none 0 0, .slice none 0 0, .slice none 0 0, .slice none 0 0, .slice none 0 0, .slice none 0 0] 44)).setCells w3.heap.size 0 (vecL noB wZ0) = w4 at *
  generalize w3.heap.size = g4 at *
  have hth2 := O4.there (o := 0) (m := (outL 3 0 noB wZ0).toArray.size) (by rw [show (outL 3 0 noB wZ0).toArray.size = 38 from outL_len _ _ _ _]; omega)
  have O5 := O4.put 3 0 noB wZ0
  have hb6 := below_putC (Nat.le_refl w.heap.size) (outL 3 0 noB wZ0) 0 _ hb5
  clear hth hone hinf O4 hb5 h12 hs1
  go_wp2_with (first | (refine wpList_built (by kernel_rfl) rfl hbd ?_) | (with_reducible refine wpList_store_mid rfl 52 _ _ rfl w.heap.size 0 (outL 3 0 noB wZ0).toArray rfl rfl hth2 hinf3 hone2 ?_))
  exact bodyPost_ret (results_out rfl _ _ w.heap.size _ _ _ _ rfl O5) rfl ⟨.inr ⟨HLA.out, rfl⟩, hb6⟩
end

section
open Go.RowKit
def Whole (w : World) (g : Nat) (t : TypeId) (cs : Array Value) : Prop := w.heap[g]? = some (.cells cs t (0, 0))
theorem Whole.lt {w : World} {g : Nat} {t : TypeId} {cs : Array Value} (h : Whole w g t cs) : g < w.heap.size := by
 by_cases hg : g < w.heap.size
 ·exact hg
 ·unfold Whole at h; rw [Array.getElem?_eq_none (by omega)] at h; cases h
theorem Whole.cell {w : World} {g : Nat} {t : TypeId} {cs : Array Value} (h : Whole w g t cs) (i : Nat) : w.cell? ⟨g, i, none⟩ = cs[i]? := by
 unfold Whole at h
 simp [World.cell?, h]
theorem Whole.frozen {w : World} {g : Nat} {t : TypeId} {cs : Array Value} (h : Whole w g t cs) (i : Nat) : w.frozen? ⟨g, i, none⟩ = false := by
 unfold Whole at h
 simp [World.frozen?, h]
theorem Whole.new (w : World) (t : TypeId) (cs : Array Value) : Whole (w.alloc (.cells cs t)) w.heap.size t cs := heap_alloc_new w _
theorem Whole.put {w : World} {g : Nat} {t : TypeId} {cs : Array Value} (h : Whole w g t cs) (i : Nat) (v : Value) : Whole (w.setCell ⟨g, i, none⟩ v) g t (cs.setIfInBounds i v) := by
 unfold Whole at h ⊢
 simp [World.setCell, Array.getElem?_modify, h]
theorem below_put {B g : Nat} {w w' : World} (hb : Below B w w') (hg : B ≤ g) (i : Nat) (v : Value) : Below B w (w'.setCell ⟨g, i, none⟩ v) := hb.setCell (p := ⟨g, i, none⟩) hg _
theorem Whole.row {w : World} {g : Nat} {t : TypeId} {cs : List Value} {n : Nat} (h : Whole w g t cs.toArray) (hn : cs.length = n) (hm : n ≤ maxLen) : Row w (.slice (some ⟨g, 0, none⟩) n n) n 1 cs := by
 refine ⟨by omega, some ⟨g, 0, none⟩, n, rfl, ⟨by omega, hm⟩, (fun h => by cases h), fun _ => ⟨g, 0, rfl, fun i _ => ?_⟩⟩
 rw [h.cell]; simp
end

section
open Go.RowKit
def wordsOK (s : ByteArray) (many : Int) : Bool := decide (((cutB 32 s).length : Int) = many + 1) && (cutB 32 s).tail.all fun t => okN t.data.toList
def numsB (P : List ByteArray) : List Int := P.map fun t => ((numV t.data.toList : Nat) : Int)
def numsOf (s : ByteArray) : List Int := numsB (cutB 32 s).tail
def headB (s : ByteArray) : ByteArray := (cutB 32 s).headD ⟨#[]⟩
def WordsRes (s : ByteArray) (many : Int) (w : World) (p : ByteArray) (v : Value) (b : Bool) : Prop :=
 b = wordsOK s many ∧ (b = true → p = headB s ∧ Ints w v (numsOf s)) ∧ (b = false → p = ⟨#[]⟩ ∧ v = .slice none 0 0)
theorem wordsRes_no {s : ByteArray} {many : Int} {w : World} (h : wordsOK s many = false) : WordsRes s many w ⟨#[]⟩ (.slice none 0 0) false := ⟨h.symm, (fun h => by cases h), fun _ => ⟨rfl, rfl⟩⟩
def numsTo (Q : List ByteArray) (k : Nat) : List Value := ((numsB (Q.take k)).map (Value.int .i64)) ++ List.replicate (Q.length - k) (.int .i64 0)
theorem numsTo_len (Q : List ByteArray) (k : Nat) (hk : k ≤ Q.length) : (numsTo Q k).length = Q.length := by
 unfold numsTo numsB; simp; omega
theorem numsTo_set (Q : List ByteArray) (k : Nat) (hk : k < Q.length) : (numsTo Q k).toArray.setIfInBounds k (.int .i64 ((numV Q[k].data.toList : Nat) : Int)) = (numsTo Q (k + 1)).toArray := by
 have hl : ((numsB (Q.take k)).map (Value.int .i64)).length = k := by unfold numsB; simp; omega
 have e1 : Q.length - k = (Q.length - (k + 1)) + 1 := by omega
 have e2 : numsB (Q.take (k + 1)) = numsB (Q.take k) ++ [((numV Q[k].data.toList : Nat) : Int)] := by
  unfold numsB; rw [List.take_succ_eq_append_getElem hk, List.map_append]; rfl
 unfold numsTo
 rw [e1, e2, List.replicate_succ, List.map_append, List.setIfInBounds_toArray]
 congr 1
 rw [List.set_append_right _ _ (by omega), hl, Nat.sub_self, List.set_cons_zero]
 simp
theorem numsTo_all (Q : List ByteArray) : numsTo Q Q.length = (numsB Q).map (Value.int .i64) := by unfold numsTo; simp
theorem numsTo_at (Q : List ByteArray) (k : Nat) (hk : k < Q.length) : (numsTo Q k).toArray[k]? = some (.int .i64 0) := by
 have hl : ((numsB (Q.take k)).map (Value.int .i64)).length = k := by unfold numsB; simp; omega
 unfold numsTo
 rw [List.getElem?_toArray, List.getElem?_append_right (by omega), hl, Nat.sub_self, List.getElem?_replicate, if_pos (by omega)]
def okTo (Q : List ByteArray) (k : Nat) : Prop := ∀ t ∈ Q.take k, okN t.data.toList = true
theorem okTo_zero (Q : List ByteArray) : okTo Q 0 := by intro t ht; simp at ht
theorem okTo_succ {Q : List ByteArray} {k : Nat} (h : okTo Q k) (hk : k < Q.length) (hd : okN Q[k].data.toList = true) : okTo Q (k + 1) := by
 intro b hb
 rw [List.take_succ_eq_append_getElem hk, List.mem_append] at hb
 rcases hb with hb | hb
 ·exact h b hb
 ·rw [List.mem_singleton] at hb; subst hb; exact hd
theorem words_no_at {s : ByteArray} {many : Int} {q : ByteArray} {Q : List ByteArray} (h : cutB 32 s = q :: Q) {k : Nat} (hk : k < Q.length) (hd : okN Q[k].data.toList = false) : wordsOK s many = false := by
 unfold wordsOK
 rw [h, List.tail_cons]
 have : Q.all (fun t => okN t.data.toList) = false := List.all_eq_false.2 ⟨Q[k], List.getElem_mem hk, by simp [hd]⟩
 rw [this]; simp
theorem words_yes {s : ByteArray} {q : ByteArray} {Q : List ByteArray} (h : cutB 32 s = q :: Q) (hd : okTo Q Q.length) : wordsOK s (Q.length : Int) = true ∧ headB s = q ∧ numsOf s = numsB Q := by
 unfold wordsOK headB numsOf
 rw [h, List.tail_cons]
 refine ⟨?_, rfl, rfl⟩
 have : Q.all (fun t => okN t.data.toList) = true := List.all_eq_true.2 (fun t ht => hd t (by rw [List.take_length]; exact ht))
 rw [this]; simp
theorem words_count {s : ByteArray} {many : Int} (h : ¬ ((cutB 32 s).length : Int) - 1 = many) : wordsOK s many = false := by
 unfold wordsOK
 have : decide (((cutB 32 s).length : Int) = many + 1) = false := by simp; omega
 rw [this]; simp
theorem pieces_le {s : ByteArray} {c : UInt8} {t : ByteArray} (h : t ∈ cutB c s) : t.size ≤ 100000000 ∨ 100000 < s.size := by
 by_cases hb : 100000 < s.size
 ·exact .inr hb
 ·left
  have key : ∀ (l p : List UInt8), p ∈ cutL c l → p.length ≤ l.length := by
   intro l
   induction l with
   | nil => intro p hp; simp [cutL] at hp; subst hp; simp
   | cons b l ih =>
    intro p hp
    unfold cutL at hp
    split at hp
    ·rcases List.mem_cons.1 hp with rfl | hp
     ·simp
     ·have := ih p hp; simp; omega
    ·rcases List.mem_cons.1 hp with rfl | hp
     ·have := cutL_ne c l
      cases hc : cutL c l with
      | nil => exact absurd hc this
      | cons a r =>
       have := ih a (by rw [hc]; exact List.mem_cons_self)
       simp; omega
     ·have := ih p (List.mem_of_mem_tail hp); simp; omega
  obtain ⟨p, hp, rfl⟩ := List.mem_map.1 h
  have := key _ _ hp
  have e : (⟨p.toArray⟩ : ByteArray).size = p.length := by simp [ByteArray.size]
  rw [e, Lib.size_eq] at *; omega
theorem words_any (s : ByteArray) (many : Int) (w : World) (he : EnvM w) (hs : s.size ≤ 100000) :
  Calls Tryz.prog 183 #[.string s, .int .i64 many] w fun e w' => ∃ p v b, e = .returned (.tuple #[.string p, v, .bool b]) ∧ WordsRes s many w' p v b ∧ Below w.heap.size w w' := by
 have CC := hid (count_byte s 32 w)
 by_cases hm : ((cutB 32 s).length : Int) - 1 = many
 case neg =>
  have HR := hid (words_count hm)
  have hne : ((((cutB 32 s).length : Int) - 1) != many) = true := by rw [bne_iff_ne]; exact hm
  clear hm
  go_enter Tryz.func183, Tryz.ntmps183
  go_wp2_with fail
  refine (CC.out).mono ?_
  rintro e w' ⟨rfl, rfl⟩
  go_wp2_with fail
  go_ret3
  exact ⟨_, _, _, rfl, wordsRes_no HR.out, Below.refl _ _⟩
 obtain ⟨hl1, hl2⟩ := cut_len_le 32 s
 have CS := hid (split_byte s 32 w he hs)
 have HP : Hid (∀ t ∈ cutB 32 s, t.size ≤ 9223372036854775807) := hid (fun t ht => by rcases pieces_le ht with h | h <;> omega)
 have hS := strs_lit w (cutB 32 s) (by unfold maxLen; omega)
 have hb1 := (Below.refl w.heap.size w).alloc (Nat.le_refl _) (.cells ((cutB 32 s).map Value.string).toArray 9)
 obtain ⟨q, Q, hqQ⟩ : ∃ q Q, cutB 32 s = q :: Q := by
  cases h : cutB 32 s with
  | nil => rw [h] at hl2; simp at hl2
  | cons q Q => exact ⟨q, Q, rfl⟩
 have HQ := hid hqQ
 rw [hqQ] at CC CS HP hS hb1 hm hl1
 rw [List.length_cons] at CC CS hm hl1 hS
 clear hqQ hl2
 obtain ⟨n, hn⟩ : ∃ n, n = Q.length := ⟨_, rfl⟩
 have HN := hid hn
 rw [← hn] at CC CS hm hl1 hS
 obtain rfl : many = (n : Int) := by omega
 have hnb : (n : Int) ≤ 1000000 := by omega
 rw [show ((n + 1 : Nat) : Int) - 1 = (n : Int) from by omega] at CC
 have hmk := fun W => Go.run_make_row' (P := Tryz.prog) 24 3 (.int .i64 0) 8 Tryz.underlying24 infoInt rfl .i64 .i64 n (by omega) (by omega) W
 clear hn hm he hs hl1
 go_enter Tryz.func183, Tryz.ntmps183
 go_wp2_with fail
 refine (CC.out).mono ?_
 rintro e w' ⟨rfl, rfl⟩
 go_wp2_with fail
 refine (CS.out).mono ?_
 rintro e w' ⟨rfl, rfl⟩
 generalize w.alloc (.cells ((q :: Q).map Value.string).toArray 9) = w1 at *
 clear CS CC
 have hW := Whole.new w1 3 (madeCells #[.int .i64 0] n)
 have hb2 := (Below.refl w1.heap.size w1).alloc (Nat.le_refl _) (.cells (madeCells #[.int .i64 0] n) 3)
 have hg := hS.at (k := 0) (by simp)
 obtain ⟨g0, o0, hg0, hc0⟩ := hg
 cases hg0
 have hz1 := hb1.size
 rw [show madeCells #[.int .i64 0] n = (numsTo Q 0).toArray from by
  apply Array.ext
  ·rw [size_madeCells]; simp [numsTo, numsB, HN.out]
  ·intro i h1 h2
   simp [madeCells, numsTo, numsB, Nat.mod_one]] at hmk hW hb2
 have HE : Hid (Strs w1 (.slice (some ⟨w.heap.size, 0, none⟩) (n + 1) (n + 1)) (q :: Q)) := hid hS
 change w1.cell? ⟨w.heap.size, 0, none⟩ = some (.string q) at hc0
 clear hS
 have FIN : Hid (∀ wr, okTo Q n → Whole wr w1.heap.size 3 (numsTo Q n).toArray → WordsRes s (n : Int) wr q (.slice (some ⟨w1.heap.size, 0, none⟩) n n) true) := hid (fun wr h1 h2 => by
  have hN := HN.out
  rw [hN] at h1
  obtain ⟨e1, e2, e3⟩ := words_yes HQ.out h1
  rw [← hN] at e1
  refine ⟨e1.symm, fun _ => ⟨e2.symm, ?_⟩, fun h => by cases h⟩
  have hr := h2.row (numsTo_len Q n (by omega) |>.trans hN.symm) (by unfold maxLen; omega)
  have hl : (numsB Q).length = n := by unfold numsB; simp; omega
  rw [e3]
  unfold Ints
  rw [hl]
  have e4 : numsTo Q n = (numsB Q).map (Value.int .i64) := by
   have := numsTo_all Q
   rw [← hN] at this
   exact this
  rw [e4] at hr
  exact hr)
 have hzs := Whole.lt hW
 rcases Nat.eq_zero_or_pos n with h0 | h0
 ·subst h0
  change (∀ W, (Instr.makeSlice 24 (.int .i64 0) (.int .i64 0)).run Tryz.prog W = _) at hmk
  have HW := hid hW
  have hc1 : (w1.alloc (.cells (numsTo Q 0).toArray 3)).cell? ⟨w.heap.size, 0, none⟩ = some (.string q) := by rw [hb2.cell (p := ⟨w.heap.size, 0, none⟩) (block_lt hc0)]; exact hc0
  clear hW hc0
  go_wp2_with fail
  refine wp_loop_rounds 1 ?_
  rw [rounds_succ]
  go_wp2_with fail
  go_ret3
  exact ⟨_, _, _, rfl, FIN.out _ (okTo_zero Q) HW.out, hb1.trans (hb2.mono hz1)⟩
 ·have hn1 : ¬ n + 1 = 1 := by omega
  have HW0 := hid hW
  have HC : Hid (∀ wr, Below w1.heap.size w1 wr → wr.cell? ⟨w.heap.size, 0, none⟩ = some (.string q)) := hid (fun wr hb => by rw [hb.cell (p := ⟨w.heap.size, 0, none⟩) (block_lt hc0)]; exact hc0)
  clear hW hc0
  go_wp2_with fail
  go_loopw [24] (fun i wr => ∃ k : Nat, k ≤ n ∧ i = .int .i64 k ∧ okTo Q k ∧ Whole wr w1.heap.size 3 (numsTo Q k).toArray ∧ Below w1.heap.size w1 wr) (fun i _ => n - (intOf i).toNat)
  case atStart => exact ⟨0, by omega, rfl, okTo_zero Q, HW0.out, hb2⟩
  case round =>
   obtain ⟨k, hk, rfl, hok, hw, hb⟩ := hrel
   have HOK := hid hok
   have HW := hid hw
   have hzr := hb.size
   have hwl := hw.lt
   clear hok hw
   by_cases hlt : k < n
   ·have hki : (k : Int) < (n : Int) := by omega
    have hkq : k < Q.length := by have := HN.out; omega
    obtain ⟨g1, o1, hg1, hc1⟩ := (HE.out.below hb).at (k := k + 1) (by rw [List.length_cons]; omega)
    cases hg1
    change wr.cell? ⟨w.heap.size, 0 + (k + 1), none⟩ = some (.string Q[k]) at hc1
    rw [show 0 + (k + 1) = 1 + k from by omega] at hc1
    have hz := HW.out.cell k
    rw [numsTo_at Q k hkq] at hz
    have hf := HW.out.frozen k
    have hts := HP.out Q[k] (List.mem_cons_of_mem _ (List.getElem_mem hkq))
    have CN := hid (number_any Q[k] wr (by unfold maxLen; omega))
    have HSET := hid (numsTo_set Q k hkq)
    cases hd : okN Q[k].data.toList
    ·have HR := hid (words_no_at (many := (n : Int)) HQ.out hkq hd)
     rw [hd] at CN
     clear hd
     generalize numV Q[k].data.toList = x at *
     generalize Q[k] = t at *
     go_wp2_with fail
     refine (CN.out).mono ?_
     rintro e w' ⟨rfl, rfl⟩
     go_wp2_with fail
     go_ret3
     exact ⟨_, _, _, rfl, wordsRes_no HR.out, hb1.trans (hb.mono hz1)⟩
    ·have HOK' := hid (okTo_succ HOK.out hkq hd)
     rw [hd] at CN
     clear hd
     generalize numV Q[k].data.toList = x at *
     generalize Q[k] = t at *
     go_wp2_with fail
     refine (CN.out).mono ?_
     rintro e w' ⟨rfl, rfl⟩
     go_wp2_with fail
     go_roundw
     case rel => exact ⟨k + 1, by omega, by go_num, HOK'.out, by rw [← HSET.out]; exact HW.out.put _ _, below_put hb (Nat.le_refl _) _ _⟩
     case measure => simp [intOf]; omega
   ·obtain rfl : k = n := by omega
    have hc2 := HC.out _ hb
    go_wp2_with fail
    go_ret3
    exact ⟨_, _, _, rfl, FIN.out _ HOK.out HW.out, hb1.trans (hb.mono hz1)⟩
end

section
open Go.RowKit
theorem words_is (s : ByteArray) (many : Int) (w : World) (he : EnvM w) (hs : s.size ≤ 100000) (h : wordsOK s many = true) :
  Calls Tryz.prog 183 #[.string s, .int .i64 many] w fun e w' => ∃ v, e = .returned (.tuple #[.string (headB s), v, .bool true]) ∧ Ints w' v (numsOf s) ∧ Below w.heap.size w w' := by
 refine (words_any s many w he hs).mono ?_
 rintro e w' ⟨p, v, b, rfl, ⟨h1, h2, _⟩, hb⟩
 rw [h] at h1
 subst h1
 obtain ⟨rfl, hI⟩ := h2 rfl
 exact ⟨v, rfl, hI, hb⟩
theorem words_isnt (s : ByteArray) (many : Int) (w : World) (he : EnvM w) (hs : s.size ≤ 100000) (h : wordsOK s many = false) :
  Calls Tryz.prog 183 #[.string s, .int .i64 many] w fun e w' => e = .returned (.tuple #[.string ⟨#[]⟩, .slice none 0 0, .bool false]) ∧ Below w.heap.size w w' := by
 refine (words_any s many w he hs).mono ?_
 rintro e w' ⟨p, v, b, rfl, ⟨h1, _, h2⟩, hb⟩
 rw [h] at h1
 subst h1
 obtain ⟨rfl, rfl⟩ := h2 rfl
 exact ⟨rfl, hb⟩
end

section
open Go.RowKit
theorem dec_clear (u : Nat) : ∀ x ∈ Lib.decDigits u, x ≠ 32 := by
 intro x hx e
 have := (decm_all u).1 x hx
 subst e
 exact absurd this (by decide)
theorem itoa_clear (n : Int) : ∀ x ∈ Lib.itoa n, x ≠ 32 := by
 intro x hx
 unfold Lib.itoa at hx
 split at hx
 ·rcases List.mem_cons.1 hx with rfl | hx
  ·decide
  ·exact dec_clear _ x hx
 ·exact dec_clear _ x hx
theorem joinTo_cons (s : List UInt8) (a : Int) (l : List Int) : joinTo s (a :: l) = s ++ 32 :: joinTo (Lib.itoa a) l := by
 unfold joinTo; rw [List.flatMap_cons]; simp
theorem cut_join : ∀ (l : List Int) (s : List UInt8), (∀ x ∈ s, x ≠ 32) → cutL 32 (joinTo s l) = s :: l.map Lib.itoa
 | [], s, h => by rw [joinTo_nil, cutL_none h]; rfl
 | a :: l, s, h => by rw [joinTo_cons, cutL_app _ h, cut_join l _ (itoa_clear a)]; rfl
def inRk (n : Int) : Bool := decide (0 ≤ n) && decide (n ≤ 2147483647)
theorem okN_itoa (n : Int) : okN (Lib.itoa n) = inRk n ∧ (inRk n = true → ((numV (Lib.itoa n) : Nat) : Int) = n) := by
 unfold Lib.itoa inRk
 by_cases h : n < 0
 ·rw [if_pos h]
  have h0 : decide (0 ≤ n) = false := by simp; omega
  rw [h0]
  refine ⟨?_, fun h => by simp at h⟩
  exact okN_digit (k := 0) (by simp) (show isD 45 = false from by decide)
 ·rw [if_neg h]
  have h0 : decide (0 ≤ n) = true := by simp; omega
  rw [h0, Bool.true_and]
  by_cases h1 : n ≤ 2147483647
  ·obtain ⟨e1, e2⟩ := numV_dec (u := n.toNat) (by omega)
   rw [e1, e2]
   exact ⟨by simp [h1], fun _ => by omega⟩
  ·have h1' : decide (n ≤ 2147483647) = false := by simp; omega
   rw [h1']
   refine ⟨?_, fun h => by cases h⟩
   obtain ⟨_, e, _, _⟩ := decm_all n.toNat
   unfold okN
   rw [e]
   have : decide (n.toNat ≤ 2147483647) = false := by simp; omega
   rw [this]; simp
theorem cutB_join (s : ByteArray) (l : List Int) (h : ∀ x ∈ s.data.toList, x ≠ 32) : cutB 32 (joinB s l) = s :: l.map fun n => ⟨(Lib.itoa n).toArray⟩ := by
 unfold cutB joinB
 have e : (⟨(joinTo s.data.toList l).toArray⟩ : ByteArray).data.toList = joinTo s.data.toList l := by simp
 rw [e, cut_join _ _ h, List.map_cons, List.map_map]
 congr 1
def allR (l : List Int) : Bool := l.all inRk
theorem words_join (s : ByteArray) (l : List Int) (h : ∀ x ∈ s.data.toList, x ≠ 32) : wordsOK (joinB s l) (l.length : Int) = allR l ∧ headB (joinB s l) = s ∧ (allR l = true → numsOf (joinB s l) = l) := by
 unfold wordsOK headB numsOf
 rw [cutB_join s l h, List.tail_cons]
 refine ⟨?_, rfl, fun ha => ?_⟩
 ·have e1 : decide ((((s :: l.map fun n => (⟨(Lib.itoa n).toArray⟩ : ByteArray)).length : Nat) : Int) = (l.length : Int) + 1) = true := by simp
  rw [e1, Bool.true_and]
  unfold allR
  rw [List.all_map]
  congr 1
  funext n
  exact (okN_itoa n).1
 ·unfold numsB
  rw [List.map_map]
  calc _ = l.map id := List.map_congr_left (fun n hn => (okN_itoa n).2 (List.all_eq_true.1 ha n hn))
   _ = l := List.map_id _
end

section
open Go.RowKit
theorem nums_two {s : ByteArray} (h : wordsOK s 2 = true) : ∃ a b : Int, numsOf s = [a, b] ∧ (0 ≤ a ∧ a ≤ 2147483647) ∧ (0 ≤ b ∧ b ≤ 2147483647) := by
 unfold wordsOK at h
 simp only [Bool.and_eq_true, decide_eq_true_eq] at h
 have hl : (cutB 32 s).tail.length = 2 := by rw [List.length_tail]; omega
 unfold numsOf numsB
 match hq : (cutB 32 s).tail, hl with
 | [p, q], _ =>
  have h1 := numV_le p.data.toList
  have h2 := numV_le q.data.toList
  exact ⟨((numV p.data.toList : Nat) : Int), ((numV q.data.toList : Nat) : Int), rfl, ⟨by omega, by omega⟩, ⟨by omega, by omega⟩⟩
def isW (s : ByteArray) : Bool := decide ((headB s).data.toList = [119])
def isRd (s : ByteArray) : Bool := decide ((headB s).data.toList = [114])
def parseR (s : ByteArray) : Bool × OpV :=
 if wordsOK s 2 = true then
  match numsOf s with
  | [a, b] => if (isW s || isRd s) && mayO ⟨isW s, a, b⟩ then (true, ⟨isW s, a, b⟩) else (false, opZ)
  | _ => (false, opZ)
 else (false, opZ)
theorem parseR_no {s : ByteArray} (h : wordsOK s 2 = false) : parseR s = (false, opZ) := by unfold parseR; simp [h]
theorem parseR_at {s : ByteArray} (h : wordsOK s 2 = true) {a b : Int} (hn : numsOf s = [a, b]) : parseR s = if (isW s || isRd s) && mayO ⟨isW s, a, b⟩ then (true, ⟨isW s, a, b⟩) else (false, opZ) := by unfold parseR; simp [h, hn]
theorem parse_no (s : ByteArray) (w : World) (he : EnvM w) (hs : s.size ≤ 100000) (h : wordsOK s 2 = false) :
  Calls Tryz.prog 144 #[.string s] w fun e w' => e = .returned (.tuple #[.agg #[.bool false, .int .i64 0, .int .i64 0], .bool false]) ∧ Below w.heap.size w w' := by
 have hb0 := box_below w (.cells #[.bool false, .int .i64 0, .int .i64 0] 79)
 have CW := hid (words_isnt s 2 _ (he.below hb0) hs h)
 clear he hs h
 go_enter Tryz.func144, Tryz.ntmps144
 go_wp2_with fail
 refine (CW.out).mono ?_
 rintro e w1 ⟨rfl, hb1⟩
 obtain ⟨⟨c0, c1, c2⟩, f0, f1, f2⟩ := op_cells (by simpa using hb1)
 have hb2 := hb0.trans (hb1.mono (by simp))
 go_wp2_with fail
 obtain ⟨d0, d1, d2⟩ := put_three (.bool false) (.int .i64 0) (.int .i64 0) c0 c1 c2
 have hb3 := below_three (.bool false) (.int .i64 0) (.int .i64 0) hb2 (Nat.le_refl _)
 generalize World.setCell _ _ _ = w5 at *
 refine bodyPost_ret (v := .tuple #[.agg #[.bool false, .int .i64 0, .int .i64 0], .bool false]) (by simp [results, Tryz.results144, go_sem, d0, d1, d2]) rfl ⟨rfl, hb3⟩
theorem parse_words (s : ByteArray) (w : World) (he : EnvM w) (hs : s.size ≤ 100000) (h : wordsOK s 2 = true) :
  Calls Tryz.prog 144 #[.string s] w fun e w' => e = .returned (.tuple #[.agg #[.bool (parseR s).2.wr, .int .i64 (parseR s).2.key, .int .i64 (parseR s).2.val], .bool (parseR s).1]) ∧ Below w.heap.size w w' := by
 have hb0 := box_below w (.cells #[.bool false, .int .i64 0, .int .i64 0] 79)
 have CW := hid (words_is s 2 _ (he.below hb0) hs h)
 obtain ⟨a, b, hab, ⟨ha0, ha1⟩, hb0', hb1'⟩ := nums_two h
 have HR := hid (parseR_at h hab)
 rw [hab] at CW
 have HW : Hid (isW s = decide ((headB s).data.toList = [119])) := hid rfl
 have HRd : Hid (isRd s = decide ((headB s).data.toList = [114])) := hid rfl
 generalize isW s = iw at *
 generalize isRd s = ir at *
 generalize headB s = p at *
 generalize parseR s = R at *
 clear he hs h hab
 go_enter Tryz.func144, Tryz.ntmps144
 go_wp2_with fail
 refine (CW.out).mono ?_
 rintro e w1 ⟨v, rfl, hI, hb1⟩
 obtain ⟨⟨c0, c1, c2⟩, f0, f1, f2⟩ := op_cells (by simpa using hb1)
 have hb2 := hb0.trans (hb1.mono (by simp))
 obtain ⟨ao, cap, rfl, _⟩ := hI.form
 obtain ⟨g, o, hg, k0⟩ := hI.at (k := 0) (by simp)
 subst hg
 obtain ⟨g', o', hg', k1⟩ := hI.at (k := 1) (by simp)
 cases hg'
 change w1.cell? ⟨g, o + 0, none⟩ = some (.int .i64 a) at k0
 rw [Nat.add_zero] at k0
 change w1.cell? ⟨g, o + 1, none⟩ = some (.int .i64 b) at k1
 have hz1 := hb2.size
 have q0 : ∀ O, (w1.alloc O).cell? ⟨g, o, none⟩ = some (.int .i64 a) := fun O => (World.cell?_alloc_lt w1 O _ (block_lt k0)).trans k0
 have q1 : ∀ O, (w1.alloc O).cell? ⟨g, o + 1, none⟩ = some (.int .i64 b) := fun O => (World.cell?_alloc_lt w1 O _ (block_lt k1)).trans k1
 have key : ∀ (wr : Bool), (p.toList == [119]) = wr → (p.toList = [114] ∨ p.toList = [119]) → Hid (R = if mayO ⟨wr, a, b⟩ then (true, ⟨wr, a, b⟩) else (false, opZ)) := by
  intro wr h1 h2
  refine hid ?_
  rw [HR.out]
  have e1 : iw = wr := by
   rw [HW.out, ← h1, ← ByteArray.toList_eq, Bool.eq_iff_iff]; simp
  have e2 : (iw || ir) = true := by
   rw [HW.out, HRd.out, ← ByteArray.toList_eq]
   rcases h2 with h2 | h2 <;> simp [h2]
  rw [e2, e1, Bool.true_and]
 have hlt := block_lt c0
 change w.heap.size < w1.heap.size at hlt
 by_cases hr : p.toList = [114]
 ·have HK := key false (by rw [hr]; rfl) (.inl hr)
  clear key HR HW HRd CW
  go_wp2_with fail
  go_region
  go_wp2_with fail
  refine (right_any false a b _).mono ?_
  rintro e w3 ⟨rfl, hb3⟩
  have hb4 : Below w1.heap.size w1 w3 := ((box_below w1 _).drew).trans (hb3.mono (by simp))
  have c0' := (hb4.cell (p := ⟨w.heap.size, 0, none⟩) hlt).trans c0
  have c1' := (hb4.cell (p := ⟨w.heap.size, 1, none⟩) hlt).trans c1
  have c2' := (hb4.cell (p := ⟨w.heap.size, 2, none⟩) hlt).trans c2
  have f0' := (hb4.frozen (p := ⟨w.heap.size, 0, none⟩) hlt).trans f0
  have f1' := (hb4.frozen (p := ⟨w.heap.size, 1, none⟩) hlt).trans f1
  have f2' := (hb4.frozen (p := ⟨w.heap.size, 2, none⟩) hlt).trans f2
  have n0 := hb3.cell (p := ⟨w1.heap.size, 0, none⟩) (by simp)
  have n1 := hb3.cell (p := ⟨w1.heap.size, 1, none⟩) (by simp)
  have n2 := hb3.cell (p := ⟨w1.heap.size, 2, none⟩) (by simp)
  simp at n0 n1 n2
  have hb5 := hb2.trans (hb4.mono hz1)
  clear hb3 hb4 c0 c1 c2 f0 f1 f2
  cases hm : mayO ⟨false, a, b⟩
  ·rw [hm] at HK
   clear hm
   go_wp2_with fail
   obtain ⟨d0, d1, d2⟩ := put_three (.bool false) (.int .i64 0) (.int .i64 0) c0' c1' c2'
   have hb6 := below_three (.bool false) (.int .i64 0) (.int .i64 0) hb5 (Nat.le_refl _)
   generalize World.setCell _ _ _ = w5 at *
   refine bodyPost_ret (v := .tuple #[.agg #[.bool false, .int .i64 0, .int .i64 0], .bool false]) (by simp [results, Tryz.results144, go_sem, d0, d1, d2]) rfl ⟨?_, hb6⟩
   rw [HK.out]; rfl
  ·rw [hm] at HK
   clear hm
   go_wp2_with fail
   obtain ⟨d0, d1, d2⟩ := put_three (.bool false) (.int .i64 a) (.int .i64 b) c0' c1' c2'
   have hb6 := below_three (.bool false) (.int .i64 a) (.int .i64 b) hb5 (Nat.le_refl _)
   generalize World.setCell _ _ _ = w5 at *
   refine bodyPost_ret (v := .tuple #[.agg #[.bool false, .int .i64 a, .int .i64 b], .bool true]) (by simp [results, Tryz.results144, go_sem, d0, d1, d2]) rfl ⟨?_, hb6⟩
   rw [HK.out]; rfl
 by_cases hw : p.toList = [119]
 ·have HK := key true (by rw [hw]; rfl) (.inr hw)
  clear key HR HW HRd CW hr
  go_wp2_with fail
  go_region
  go_wp2_with fail
  refine (right_any true a b _).mono ?_
  rintro e w3 ⟨rfl, hb3⟩
  have hb4 : Below w1.heap.size w1 w3 := ((box_below w1 _).drew).trans (hb3.mono (by simp))
  have c0' := (hb4.cell (p := ⟨w.heap.size, 0, none⟩) hlt).trans c0
  have c1' := (hb4.cell (p := ⟨w.heap.size, 1, none⟩) hlt).trans c1
  have c2' := (hb4.cell (p := ⟨w.heap.size, 2, none⟩) hlt).trans c2
  have f0' := (hb4.frozen (p := ⟨w.heap.size, 0, none⟩) hlt).trans f0
  have f1' := (hb4.frozen (p := ⟨w.heap.size, 1, none⟩) hlt).trans f1
  have f2' := (hb4.frozen (p := ⟨w.heap.size, 2, none⟩) hlt).trans f2
  have n0 := hb3.cell (p := ⟨w1.heap.size, 0, none⟩) (by simp)
  have n1 := hb3.cell (p := ⟨w1.heap.size, 1, none⟩) (by simp)
  have n2 := hb3.cell (p := ⟨w1.heap.size, 2, none⟩) (by simp)
  simp at n0 n1 n2
  have hb5 := hb2.trans (hb4.mono hz1)
  clear hb3 hb4 c0 c1 c2 f0 f1 f2
  cases hm : mayO ⟨true, a, b⟩
  ·rw [hm] at HK
   clear hm
   go_wp2_with fail
   obtain ⟨d0, d1, d2⟩ := put_three (.bool false) (.int .i64 0) (.int .i64 0) c0' c1' c2'
   have hb6 := below_three (.bool false) (.int .i64 0) (.int .i64 0) hb5 (Nat.le_refl _)
   generalize World.setCell _ _ _ = w5 at *
   refine bodyPost_ret (v := .tuple #[.agg #[.bool false, .int .i64 0, .int .i64 0], .bool false]) (by simp [results, Tryz.results144, go_sem, d0, d1, d2]) rfl ⟨?_, hb6⟩
   rw [HK.out]; rfl
  ·rw [hm] at HK
   clear hm
   go_wp2_with fail
   obtain ⟨d0, d1, d2⟩ := put_three (.bool true) (.int .i64 a) (.int .i64 b) c0' c1' c2'
   have hb6 := below_three (.bool true) (.int .i64 a) (.int .i64 b) hb5 (Nat.le_refl _)
   generalize World.setCell _ _ _ = w5 at *
   refine bodyPost_ret (v := .tuple #[.agg #[.bool true, .int .i64 a, .int .i64 b], .bool true]) (by simp [results, Tryz.results144, go_sem, d0, d1, d2]) rfl ⟨?_, hb6⟩
   rw [HK.out]; rfl
 ·have HK : Hid (R = (false, opZ)) := hid (by
   rw [HR.out]
   have e1 : iw = false := by rw [HW.out, ← ByteArray.toList_eq]; simp [hw]
   have e2 : ir = false := by rw [HRd.out, ← ByteArray.toList_eq]; simp [hr]
   rw [e1, e2]; rfl)
  have b1 : (p.toList == [114]) = false := by simp [hr]
  have b2 : (p.toList == [119]) = false := by simp [hw]
  clear key HR HW HRd CW
  go_wp2_with fail
  obtain ⟨d0, d1, d2⟩ := put_three (.bool false) (.int .i64 0) (.int .i64 0) c0 c1 c2
  have hb6 := below_three (.bool false) (.int .i64 0) (.int .i64 0) hb2 (Nat.le_refl _)
  generalize World.setCell _ _ _ = w5 at *
  refine bodyPost_ret (v := .tuple #[.agg #[.bool false, .int .i64 0, .int .i64 0], .bool false]) (by simp [results, Tryz.results144, go_sem, d0, d1, d2]) rfl ⟨?_, hb6⟩
  rw [HK.out]; rfl
theorem parse_any (s : ByteArray) (w : World) (he : EnvM w) (hs : s.size ≤ 100000) :
  Calls Tryz.prog 144 #[.string s] w fun e w' => e = .returned (.tuple #[.agg #[.bool (parseR s).2.wr, .int .i64 (parseR s).2.key, .int .i64 (parseR s).2.val], .bool (parseR s).1]) ∧ Below w.heap.size w w' := by
 cases h : wordsOK s 2
 ·rw [parseR_no h]; exact parse_no s w he hs h
 ·exact parse_words s w he hs h
end

section
open Go.RowKit
theorem nums_three {s : ByteArray} (h : wordsOK s 3 = true) : ∃ a b c : Int, numsOf s = [a, b, c] ∧ (0 ≤ a ∧ a ≤ 2147483647) ∧ (0 ≤ b ∧ b ≤ 2147483647) ∧ (0 ≤ c ∧ c ≤ 2147483647) := by
 unfold wordsOK at h
 simp only [Bool.and_eq_true, decide_eq_true_eq] at h
 have hl : (cutB 32 s).tail.length = 3 := by rw [List.length_tail]; omega
 unfold numsOf numsB
 match hq : (cutB 32 s).tail, hl with
 | [p, q, r], _ =>
  have h1 := numV_le p.data.toList
  have h2 := numV_le q.data.toList
  have h3 := numV_le r.data.toList
  exact ⟨((numV p.data.toList : Nat) : Int), ((numV q.data.toList : Nat) : Int), ((numV r.data.toList : Nat) : Int), rfl, ⟨by omega, by omega⟩, ⟨by omega, by omega⟩, ⟨by omega, by omega⟩⟩
def isT (s : ByteArray) : Bool := decide ((headB s).data.toList = [116, 120, 110])
def begR (s : ByteArray) : Bool × Int × Int × Int :=
 if wordsOK s 3 && isT s then
  match numsOf s with
  | [a, b, c] => (true, a, b, c)
  | _ => (false, 0, 0, 0)
 else (false, 0, 0, 0)
theorem begR_no {s : ByteArray} (h : (wordsOK s 3 && isT s) = false) : begR s = (false, 0, 0, 0) := by unfold begR; rw [h]; rfl
theorem begR_at {s : ByteArray} (h : (wordsOK s 3 && isT s) = true) {a b c : Int} (hn : numsOf s = [a, b, c]) : begR s = (true, a, b, c) := by unfold begR; rw [h, hn]; rfl
theorem txn_cells {w w1 : World} {x y z u : Value} {t : TypeId} (hb : Below (w.heap.size + 1) (w.alloc (.cells #[x, y, z, u] t)) w1) :
  (w1.cell? ⟨w.heap.size, 0, none⟩ = some x ∧ w1.cell? ⟨w.heap.size, 1, none⟩ = some y ∧ w1.cell? ⟨w.heap.size, 2, none⟩ = some z ∧ w1.cell? ⟨w.heap.size, 3, none⟩ = some u) ∧
  (w1.frozen? ⟨w.heap.size, 0, none⟩ = false ∧ w1.frozen? ⟨w.heap.size, 1, none⟩ = false ∧ w1.frozen? ⟨w.heap.size, 2, none⟩ = false ∧ w1.frozen? ⟨w.heap.size, 3, none⟩ = false) := by
 have c0 := hb.cell (p := ⟨w.heap.size, 0, none⟩) (by simp)
 have c1 := hb.cell (p := ⟨w.heap.size, 1, none⟩) (by simp)
 have c2 := hb.cell (p := ⟨w.heap.size, 2, none⟩) (by simp)
 have c3 := hb.cell (p := ⟨w.heap.size, 3, none⟩) (by simp)
 have f0 := hb.frozen (p := ⟨w.heap.size, 0, none⟩) (by simp)
 have f1 := hb.frozen (p := ⟨w.heap.size, 1, none⟩) (by simp)
 have f2 := hb.frozen (p := ⟨w.heap.size, 2, none⟩) (by simp)
 have f3 := hb.frozen (p := ⟨w.heap.size, 3, none⟩) (by simp)
 simp at c0 c1 c2 c3 f0 f1 f2 f3
 exact ⟨⟨c0, c1, c2, c3⟩, f0, f1, f2, f3⟩
theorem put_four {w1 : World} {g : Nat} {x0 x1 x2 x3 : Value} (v0 v1 v2 v3 : Value) (c0 : w1.cell? ⟨g, 0, none⟩ = some x0) (c1 : w1.cell? ⟨g, 1, none⟩ = some x1) (c2 : w1.cell? ⟨g, 2, none⟩ = some x2) (c3 : w1.cell? ⟨g, 3, none⟩ = some x3) :
  ((((w1.setCell ⟨g, 0, none⟩ v0).setCell ⟨g, 1, none⟩ v1).setCell ⟨g, 2, none⟩ v2).setCell ⟨g, 3, none⟩ v3).cell? ⟨g, 0, none⟩ = some v0 ∧
  ((((w1.setCell ⟨g, 0, none⟩ v0).setCell ⟨g, 1, none⟩ v1).setCell ⟨g, 2, none⟩ v2).setCell ⟨g, 3, none⟩ v3).cell? ⟨g, 1, none⟩ = some v1 ∧
  ((((w1.setCell ⟨g, 0, none⟩ v0).setCell ⟨g, 1, none⟩ v1).setCell ⟨g, 2, none⟩ v2).setCell ⟨g, 3, none⟩ v3).cell? ⟨g, 2, none⟩ = some v2 ∧
  ((((w1.setCell ⟨g, 0, none⟩ v0).setCell ⟨g, 1, none⟩ v1).setCell ⟨g, 2, none⟩ v2).setCell ⟨g, 3, none⟩ v3).cell? ⟨g, 3, none⟩ = some v3 := by
 obtain ⟨a0, a1, a2⟩ := put_three v0 v1 v2 c0 c1 c2
 have n3 : ∀ i, i ≠ 3 → (⟨g, i, none⟩ : Addr) ≠ ⟨g, 3, none⟩ := fun i hi e => by cases e; exact hi rfl
 refine ⟨?_, ?_, ?_, ?_⟩
 ·rw [World.cell?_setCell_other _ _ _ _ (n3 0 (by decide)).symm]; exact a0
 ·rw [World.cell?_setCell_other _ _ _ _ (n3 1 (by decide)).symm]; exact a1
 ·rw [World.cell?_setCell_other _ _ _ _ (n3 2 (by decide)).symm]; exact a2
 ·refine World.cell?_setCell_same _ _ _ (u := x3) ?_
  rw [World.cell?_setCell_other _ _ _ _ (n3 2 (by decide)), World.cell?_setCell_other _ _ _ _ (n3 1 (by decide)), World.cell?_setCell_other _ _ _ _ (n3 0 (by decide))]
  exact c3
theorem below_four {B : Nat} {w w1 : World} {g : Nat} (v0 v1 v2 v3 : Value) (hb : Below B w w1) (hg : B ≤ g) :
  Below B w ((((w1.setCell ⟨g, 0, none⟩ v0).setCell ⟨g, 1, none⟩ v1).setCell ⟨g, 2, none⟩ v2).setCell ⟨g, 3, none⟩ v3) :=
 (below_three v0 v1 v2 hb hg).setCell (p := ⟨g, 3, none⟩) hg v3
def begV (r : Bool × Int × Int × Int) : Value := .tuple #[.agg #[.int .i64 r.2.1, .int .i64 r.2.2.1, .int .i64 r.2.2.2, .slice none 0 0], .bool r.1]
theorem begun_any (s : ByteArray) (w : World) (he : EnvM w) (hs : s.size ≤ 100000) :
  Calls Tryz.prog 143 #[.string s] w fun e w' => e = .returned (begV (begR s)) ∧ Below w.heap.size w w' := by
 have hb0 := box_below w (.cells #[.int .i64 0, .int .i64 0, .int .i64 0, .slice none 0 0] 83)
 cases h : wordsOK s 3
 ·have CW := hid (words_isnt s 3 _ (he.below hb0) hs h)
  have HR := hid (begR_no (s := s) (by rw [h]; rfl))
  clear he hs h
  go_enter Tryz.func143, Tryz.ntmps143
  go_wp2_with fail
  refine (CW.out).mono ?_
  rintro e w1 ⟨rfl, hb1⟩
  obtain ⟨⟨c0, c1, c2, c3⟩, f0, f1, f2, f3⟩ := txn_cells (by simpa using hb1)
  have hb2 := hb0.trans (hb1.mono (by simp))
  go_wp2_with fail
  obtain ⟨d0, d1, d2, d3⟩ := put_four (.int .i64 0) (.int .i64 0) (.int .i64 0) (.slice none 0 0) c0 c1 c2 c3
  have hb3 := below_four (.int .i64 0) (.int .i64 0) (.int .i64 0) (.slice none 0 0) hb2 (Nat.le_refl _)
  generalize World.setCell _ _ _ = w5 at *
  refine bodyPost_ret (v := .tuple #[.agg #[.int .i64 0, .int .i64 0, .int .i64 0, .slice none 0 0], .bool false]) (by simp [results, Tryz.results143, go_sem, d0, d1, d2, d3]) rfl ⟨?_, hb3⟩
  rw [HR.out]; rfl
 ·have CW := hid (words_is s 3 _ (he.below hb0) hs h)
  obtain ⟨a, b, c, habc, _⟩ := nums_three h
  rw [habc] at CW
  have HR1 : Hid (isT s = true → begR s = (true, a, b, c)) := hid (fun hi => begR_at (by rw [h, hi]; rfl) habc)
  have HR0 : Hid (isT s = false → begR s = (false, 0, 0, 0)) := hid (fun hi => begR_no (by rw [hi, Bool.and_false]))
  have HI : Hid (isT s = decide ((headB s).data.toList = [116, 120, 110])) := hid rfl
  generalize isT s = it at *
  generalize headB s = p at *
  generalize begR s = R at *
  clear he hs h habc
  go_enter Tryz.func143, Tryz.ntmps143
  go_wp2_with fail
  refine (CW.out).mono ?_
  rintro e w1 ⟨v, rfl, hI, hb1⟩
  obtain ⟨⟨c0, c1, c2, c3⟩, f0, f1, f2, f3⟩ := txn_cells (by simpa using hb1)
  have hb2 := hb0.trans (hb1.mono (by simp))
  by_cases hr : p.toList = [116, 120, 110]
  ·have H := hid (HR1.out (by rw [HI.out, ← ByteArray.toList_eq]; exact decide_eq_true hr))
   obtain ⟨ao, cap, rfl, _⟩ := hI.form
   obtain ⟨g, o, hg, k0⟩ := hI.at (k := 0) (by simp)
   subst hg
   obtain ⟨g', o', hg', k1⟩ := hI.at (k := 1) (by simp)
   cases hg'
   obtain ⟨g', o', hg', k2⟩ := hI.at (k := 2) (by simp)
   cases hg'
   change w1.cell? ⟨g, o + 0, none⟩ = some (.int .i64 a) at k0
   rw [Nat.add_zero] at k0
   change w1.cell? ⟨g, o + 1, none⟩ = some (.int .i64 b) at k1
   change w1.cell? ⟨g, o + 2, none⟩ = some (.int .i64 c) at k2
   have hne : (p.toList != [116, 120, 110]) = false := by simp [hr]
   clear HR1 HR0 HI CW hI
   go_wp2_with fail
   go_still_tail 10, (by kernel_rfl)
   go_wp2_with fail
   obtain ⟨d0, d1, d2, d3⟩ := put_four (.int .i64 a) (.int .i64 b) (.int .i64 c) (.slice none 0 0) c0 c1 c2 c3
   have hb3 := below_four (.int .i64 a) (.int .i64 b) (.int .i64 c) (.slice none 0 0) hb2 (Nat.le_refl _)
   generalize World.setCell _ _ _ = w5 at *
   refine bodyPost_ret (v := .tuple #[.agg #[.int .i64 a, .int .i64 b, .int .i64 c, .slice none 0 0], .bool true]) (by simp [results, Tryz.results143, go_sem, d0, d1, d2, d3]) rfl ⟨?_, hb3.drew⟩
   rw [H.out]; rfl
  ·have H := hid (HR0.out (by rw [HI.out, ← ByteArray.toList_eq]; exact decide_eq_false hr))
   have b1 : (p.toList == [116, 120, 110]) = false := by simp [hr]
   clear HR1 HR0 HI CW hI
   go_wp2_with fail
   obtain ⟨d0, d1, d2, d3⟩ := put_four (.int .i64 0) (.int .i64 0) (.int .i64 0) (.slice none 0 0) c0 c1 c2 c3
   have hb3 := below_four (.int .i64 0) (.int .i64 0) (.int .i64 0) (.slice none 0 0) hb2 (Nat.le_refl _)
   generalize World.setCell _ _ _ = w5 at *
   refine bodyPost_ret (v := .tuple #[.agg #[.int .i64 0, .int .i64 0, .int .i64 0, .slice none 0 0], .bool false]) (by simp [results, Tryz.results143, go_sem, d0, d1, d2, d3]) rfl ⟨?_, hb3⟩
   rw [H.out]; rfl
end

section
open Go.RowKit
def txE (t : TxnV) : Int × Int × Int × List OpV := (t.s, t.b, t.c, t.l)
end

section
open Go.RowKit
theorem infoTxn : (Tryz.prog.info? 83).map (fun i => (i.zero, i.size, i.bytes)) = some (some (.agg #[.int .i64 0, .int .i64 0, .int .i64 0, .slice none 0 0]), 4, 48) := by kernel_rfl
def OwnT (w : World) (base : Nat) (v : Value) (h : List TxnV) : Prop := w.ownsRow base 83 4 v h.length (txV h)
theorem OwnT.row {w : World} {base : Nat} {v : Value} {h : List TxnV} (hO : OwnT w base v h) : Row w v h.length 4 (txV h) := Row.of_owns hO
end

section
open Go.RowKit
theorem grown_setC (w : World) (a : Addr) (u : Value) : w.grownBy (w.setCell a u) (some a.block) :=
 ⟨rfl, rfl, rfl, by simp, fun k _ hk => Below.heap_setCell w a u k (fun e => hk (by rw [e]))⟩
theorem txV_app (l m : List TxnV) : txV (l ++ m) = txV l ++ txV m := by simp [txV]
def ApartT (t u : TxnV) : Prop := ∀ b, t.v.ownBlock = some b → u.v.ownBlock ≠ some b
theorem OwnT.below {w w' : World} {base : Nat} {v : Value} {h : List TxnV} (hO : OwnT w base v h) (hb : Below w.heap.size w w') : OwnT w' base v h := owns_below hO hb
theorem OwnT.setCell {w : World} {base g cap : Nat} {h h' : List TxnV} {j : Nat} {u : Value} (hO : OwnT w base (.slice (some ⟨g, 0, none⟩) h.length cap) h) (hl : h'.length = h.length) (hh : txV h' = (txV h).set j u) :
  OwnT (w.setCell ⟨g, j, none⟩ u) base (.slice (some ⟨g, 0, none⟩) h'.length cap) h' := by
 obtain ⟨h1, h2⟩ := hO
 rcases h2 with ⟨h2, _⟩ | ⟨g', cap', cur, e1, e2, hb, e3, e4, e5, e6⟩
 ·cases h2
 cases e1
 refine ⟨by rw [txV_len], .inr ⟨g, cap, cur.setIfInBounds j u, rfl, e2, ?_, by rw [hl]; exact e3, e4, by simpa using e5, ?_⟩⟩
 ·rw [Sort.setCell_eq]
  simp [Sort.mapBlock, Array.getElem?_modify, hb, Sort.onCells]
 ·rw [hl, Array.toList_setIfInBounds, List.take_set, e6, hh]
theorem OwnT.at {w : World} {base g cap : Nat} {h : List TxnV} (hO : OwnT w base (.slice (some ⟨g, 0, none⟩) h.length cap) h) {j : Nat} (hj : j < h.length * 4) :
  w.cell? ⟨g, j, none⟩ = (txV h)[j]? ∧ w.frozen? ⟨g, j, none⟩ = false := by
 constructor
 ·obtain ⟨_, ao, cap', e, _, _, hc⟩ := hO.row
  cases e
  obtain ⟨b, off, e, hcell⟩ := hc (by omega)
  cases e
  have := hcell j hj
  simpa using this
 ·obtain ⟨h1, h2⟩ := hO
  rcases h2 with ⟨h2, _⟩ | ⟨g', cap', cur, e1, e2, hb, _⟩
  ·cases h2
  cases e1
  simp [World.frozen?, hb]
theorem OwnT.split {w : World} {base : Nat} {v : Value} {h : List TxnV} (hO : OwnT w base v h) : (v = .slice none 0 0 ∧ h = []) ∨ ∃ g cap, v = .slice (some ⟨g, 0, none⟩) h.length cap ∧ base ≤ g := by
 obtain ⟨_, h2⟩ := hO
 rcases h2 with ⟨e1, e2⟩ | ⟨g, cap, cur, e1, e2, _⟩
 ·exact .inl ⟨e1, List.eq_nil_of_length_eq_zero e2⟩
 ·exact .inr ⟨g, cap, e1, e2⟩
theorem txV_mid (D : List TxnV) (x : TxnV) (r : List TxnV) (v' : Value) (l' : List OpV) : txV ((D ++ [⟨x.s, x.b, x.c, v', l'⟩]) ++ r) = (txV (D ++ x :: r)).set (D.length * 4 + 3) v' := by
 rw [txV_app, txV_app, txV_app, ← txV_len D, List.append_assoc, List.set_append, if_neg (by omega), Nat.add_sub_cancel_left]
 rfl
end

section
open Go.RowKit
def stepL (H : List (Int × Int × Int × List OpV)) (s : ByteArray) : Option (List (Int × Int × Int × List OpV)) :=
 if (begR s).1 then some (H ++ [((begR s).2.1, (begR s).2.2.1, (begR s).2.2.2, [])])
 else match H.getLast? with
  | none => none
  | some t => if (parseR s).1 then some (H.dropLast ++ [(t.1, t.2.1, t.2.2.1, t.2.2.2 ++ [(parseR s).2])]) else none
def runL (L : List ByteArray) : Option (List (Int × Int × Int × List OpV)) := L.foldl (fun o s => o.bind fun H => stepL H s) (some [])
theorem runL_snoc (L : List ByteArray) (s : ByteArray) : runL (L ++ [s]) = (runL L).bind fun H => stepL H s := by unfold runL; rw [List.foldl_append]; rfl
theorem runL_at {L : List ByteArray} {k : Nat} (hk : k < L.length) {H : List (Int × Int × Int × List OpV)} (h : runL (L.take k) = some H) : runL (L.take (k + 1)) = stepL H L[k] := by
 rw [List.take_succ_eq_append_getElem hk, runL_snoc, h]; rfl
theorem stepL_beg {H : List (Int × Int × Int × List OpV)} {s : ByteArray} {a b c : Int} (h : begR s = (true, a, b, c)) : stepL H s = some (H ++ [(a, b, c, [])]) := by unfold stepL; rw [h]; rfl
theorem stepL_nil {s : ByteArray} {r : Int × Int × Int} (h : begR s = (false, r)) : stepL [] s = none := by unfold stepL; rw [h]; rfl
theorem stepL_op {H : List (Int × Int × Int × List OpV)} {s : ByteArray} {r : Int × Int × Int} (h : begR s = (false, r)) {o : OpV} (ho : parseR s = (true, o)) (t : Int × Int × Int × List OpV) : stepL (H ++ [t]) s = some (H ++ [(t.1, t.2.1, t.2.2.1, t.2.2.2 ++ [o])]) := by
 unfold stepL; rw [h, ho]; simp
theorem stepL_no {H : List (Int × Int × Int × List OpV)} {s : ByteArray} {r : Int × Int × Int} (h : begR s = (false, r)) {o : OpV} (ho : parseR s = (false, o)) : stepL H s = none := by
 unfold stepL; rw [h, ho]
 simp only [Bool.false_eq_true, if_false]
 cases H.getLast? <;> rfl
def Made (w : World) (base : Nat) (v : Value) (c : List TxnV) : Prop := OwnT w base v c ∧ (∀ t ∈ c, Own w base t.v t.l) ∧ c.Pairwise ApartT
theorem Made.below {w w' : World} {base : Nat} {v : Value} {c : List TxnV} (h : Made w base v c) (hb : Below w.heap.size w w') : Made w' base v c :=
 ⟨h.1.below hb, fun t ht => (h.2.1 t ht).below hb, h.2.2⟩
theorem Made.nil (w : World) (base : Nat) : Made w base (.slice none 0 0) [] := ⟨⟨rfl, .inl ⟨rfl, rfl⟩⟩, by simp, List.Pairwise.nil⟩
theorem Made.txns {w : World} {base : Nat} {v : Value} {c : List TxnV} (h : Made w base v c) : Txns w v c := ⟨h.1.row, fun t ht => (h.2.1 t ht).ops⟩
theorem own_apart {w : World} {base base' : Nat} {v u : Value} {c : List TxnV} {l : List OpV} (h : OwnT w base v c) (k : Own w base' u l) : u.ownBlock = none ∨ u.ownBlock ≠ v.ownBlock := by
 rcases k.2 with ⟨rfl, _⟩ | ⟨g, cap, cur, rfl, _, hg, _⟩
 ·exact .inl rfl
 ·refine .inr (fun e => ?_)
  rcases h.2 with ⟨rfl, _⟩ | ⟨g', cap', cur', rfl, _, hg', _⟩
  ·cases e
  ·have : g = g' := by simpa [Value.ownBlock] using e
   subst this
   rw [hg] at hg'
   have e2 := (Obj.cells.inj (Option.some.inj hg')).2.1
   exact absurd e2 (by decide)
theorem Made.beg {w w' : World} {base : Nat} {v v' : Value} {c : List TxnV} (h : Made w base v c) {a b d : Int} (hO : OwnT w' base v' (c ++ [⟨a, b, d, .slice none 0 0, []⟩])) (hg : w.grownBy w' v.ownBlock) : Made w' base v' (c ++ [⟨a, b, d, .slice none 0 0, []⟩]) := by
 refine ⟨hO, fun t ht => ?_, ?_⟩
 ·rcases List.mem_append.1 ht with ht | ht
  ·exact World.ownsRow.kept (h.2.1 t ht) hg (own_apart h.1 (h.2.1 t ht))
  ·obtain rfl := List.mem_singleton.1 ht
   exact Own.nil _ _
 ·rw [List.pairwise_append]
  refine ⟨h.2.2, List.pairwise_singleton _ _, fun t _ u hu => ?_⟩
  obtain rfl := List.mem_singleton.1 hu
  intro b1 _ h2
  cases h2
theorem Made.op {w w1 : World} {base g cap : Nat} {D : List TxnV} {t : TxnV} (h : Made w base (.slice (some ⟨g, 0, none⟩) (D.length + 1) cap) (D ++ [t])) {v' : Value} {l' : List OpV} (hg : w.grownBy w1 t.v.ownBlock) (hO : Own w1 base v' l') (hl : ∀ b, v'.ownBlock = some b → t.v.ownBlock = some b ∨ w.heap.size ≤ b) :
  Made (w1.setCell ⟨g, D.length * 4 + 3, none⟩ v') base (.slice (some ⟨g, 0, none⟩) (D.length + 1) cap) (D ++ [⟨t.s, t.b, t.c, v', l'⟩]) := by
 obtain ⟨h1, h2, h3⟩ := h
 have hle : (D ++ [t]).length = D.length + 1 := by simp
 have hT := h2 t (by simp)
 have hgt : some g ≠ t.v.ownBlock := fun e => by
  rcases own_apart h1 hT with q | q
  ·rw [q] at e; cases e
  ·exact q (by rw [← e]; rfl)
 have h1' : OwnT w1 base (.slice (some ⟨g, 0, none⟩) (D.length + 1) cap) (D ++ [t]) := World.ownsRow.kept h1 hg (.inr hgt)
 have hg2 := grown_setC w1 ⟨g, D.length * 4 + 3, none⟩ v'
 have hset : ∀ (u : Value) (m : List OpV), Own w1 base u m → Own (w1.setCell ⟨g, D.length * 4 + 3, none⟩ v') base u m := fun u m hu => World.ownsRow.kept hu hg2 (by
  rcases own_apart h1' hu with q | q
  ·exact .inl q
  ·exact .inr q)
 rw [List.pairwise_append] at h3
 refine ⟨?_, fun u hu => ?_, ?_⟩
 ·have := OwnT.setCell (h' := D ++ [⟨t.s, t.b, t.c, v', l'⟩]) (j := D.length * 4 + 3) (u := v') (by rw [← hle] at h1'; exact h1') (by simp) (by
   have := txV_mid D t [] v' l'
   simpa using this)
  simpa using this
 ·rcases List.mem_append.1 hu with hu | hu
  ·refine hset _ _ (World.ownsRow.kept (h2 u (by simp [hu])) hg ?_)
   cases hb : u.v.ownBlock with
   | none => exact .inl rfl
   | some b => exact .inr (fun e => h3.2.2 u hu t (by simp) b hb e.symm)
  ·obtain rfl := List.mem_singleton.1 hu
   exact hset _ _ hO
 ·rw [List.pairwise_append]
  refine ⟨h3.1, List.pairwise_singleton _ _, fun u hu x hx => ?_⟩
  obtain rfl := List.mem_singleton.1 hx
  intro b hb hb2
  rcases hl b hb2 with q | q
  ·exact h3.2.2 u hu t (by simp) b hb q
  ·have := (World.ownsRow.lt (h2 u (by simp [hu])) b hb).2
   omega
end

section
open Go.RowKit
def LinesRes (L : List ByteArray) (base : Nat) (w : World) (e : Ending) : Prop :=
 (∃ v c, e = .returned (.tuple #[v, .int .i64 0]) ∧ runL L = some (c.map txE) ∧ Made w base v c ∧ c.length ≤ L.length ∧ ∀ t ∈ c, t.l.length ≤ L.length) ∨
 (∃ k, k < L.length ∧ e = .returned (.tuple #[.slice none 0 0, .int .i64 ((k : Int) + 1)]) ∧ (∃ H, runL (L.take k) = some H) ∧ runL (L.take (k + 1)) = none)
theorem txE_app (c : List TxnV) (t : TxnV) : (c ++ [t]).map txE = c.map txE ++ [txE t] := by simp
theorem lit4 (w : World) (x y z u : Value) (t : TypeId) : ∀ j v, [x, y, z, u][j]? = some v → (w.alloc (.cells #[x, y, z, u] t)).cell? ((⟨w.heap.size, 0, none⟩ : Addr).add j) = some v := fun j v hv => by
 obtain ⟨c0, c1, c2, c3⟩ := txnBlock w x y z u t
 match j, hv with
 | 0, hv => simp at hv; subst hv; exact c0
 | 1, hv => simp at hv; subst hv; exact c1
 | 2, hv => simp at hv; subst hv; exact c2
 | 3, hv => simp at hv; subst hv; exact c3
 | j + 4, hv => simp at hv
theorem slines_any (va : Value) (L : List ByteArray) (w : World) (he : EnvM w) (ha : Strs w va L) (hs : ∀ s ∈ L, s.size ≤ 100000) (hL : L.length ≤ 2000000) :
  Calls Tryz.prog 100 #[va] w fun e w' => LinesRes L w.heap.size w' e ∧ Below w.heap.size w w' := by
 obtain ⟨i0, hi, hz0, hz1, hz2⟩ := info_parts infoTxn
 obtain ⟨i1, hj, hy0, hy1, hy2⟩ := info_parts infoOp
 obtain ⟨ao, cap, rfl, ⟨hal, hcl⟩, _⟩ := ha.form
 have HE := hid (fun wx (hx : Below w.heap.size w wx) => he.below hx)
 have HS := hid hs
 clear he hs
 go_enter Tryz.func100, Tryz.ntmps100
 go_wp2_with fail
 go_loopw [4, 14] (fun hv i wr => ∃ (k : Nat) (c : List TxnV), k ≤ L.length ∧ i = .int .i64 k ∧ runL (L.take k) = some (c.map txE) ∧ Made wr w.heap.size hv c ∧ c.length ≤ k ∧ (∀ t ∈ c, t.l.length ≤ k) ∧ Below w.heap.size w wr) (fun _ i _ => L.length - (intOf i).toNat)
 case atStart => exact ⟨0, [], by omega, rfl, rfl, Made.nil _ _, Nat.le_refl _, by simp, Below.refl _ _⟩
 case round =>
  obtain ⟨k, c, hk, rfl, hrun, hM, hc1, hc2, hb⟩ := hrel
  by_cases hlt : k < L.length
  ·have hki : (k : Int) < (L.length : Int) := by omega
   obtain ⟨g, o, hao, c0⟩ := (ha.below hb).at hlt
   cases hao
   have HA := hid (runL_at hlt hrun)
   have hsl := HS.out _ (List.getElem_mem hlt)
   have CB := hid (begun_any L[k] wr (HE.out _ hb) hsl)
   have CP := hid (fun wx (hx : Below w.heap.size w wx) => parse_any L[k] wx (HE.out _ hx) hsl)
   have HNO : Hid (∀ r, begR L[k] = (false, r) → c = [] → runL (L.take (k + 1)) = none) := hid (fun r h1 h2 => by rw [HA.out, h2]; exact stepL_nil h1)
   have HNO2 : Hid (∀ r o, begR L[k] = (false, r) → parseR L[k] = (false, o) → runL (L.take (k + 1)) = none) := hid (fun r o h1 h2 => by rw [HA.out]; exact stepL_no h1 h2)
   have HBG : Hid (∀ a b d, begR L[k] = (true, a, b, d) → runL (L.take (k + 1)) = some ((c ++ [TxnV.mk a b d (.slice none 0 0) []]).map txE)) := hid (fun a b d h1 => by rw [HA.out, stepL_beg h1, txE_app]; rfl)
   have HOP : Hid (∀ r o D t v', begR L[k] = (false, r) → parseR L[k] = (true, o) → c = D ++ [t] → runL (L.take (k + 1)) = some ((D ++ [TxnV.mk t.s t.b t.c v' (t.l ++ [o])]).map txE)) := hid (fun r o D t v' h1 h2 h3 => by rw [HA.out, h3, txE_app, stepL_op h1 h2, txE_app]; rfl)
   have HRUN := hid hrun
   generalize L[k] = s at *
   generalize begR s = R at *
   generalize parseR s = Q at *
   obtain ⟨rb, ra, rc, rd⟩ := R
   obtain ⟨qb, qo⟩ := Q
   obtain ⟨qw, qk, qv⟩ := qo
   unfold begV at CB
   simp only at CB CP
   clear HA hrun hsl
   go_wp2_with fail
   refine (CB.out).mono ?_
   rintro e w1 ⟨rfl, hb1⟩
   have hM1 := hM.below hb1
   have hb1' := hb.trans (hb1.mono hb.size)
   cases rb
   ·have hM2 := hM1.below (box_below w1 (.cells #[.int .i64 ra, .int .i64 rc, .int .i64 rd, .slice none 0 0] 83))
    have hb2 := hb1'.alloc hb1'.size (.cells #[.int .i64 ra, .int .i64 rc, .int .i64 rd, .slice none 0 0] 83)
    have CP2 := hid (CP.out _ hb2)
    clear HBG CP CB c0 hM1
    go_wp2_with fail
    refine (CP2.out).mono ?_
    rintro e w3 ⟨rfl, hb3⟩
    have hM3 := hM2.below hb3
    have hb3' := hb2.trans (hb3.mono hb2.size)
    have hb4 := hb3'.alloc hb3'.size (.cells #[.bool qw, .int .i64 qk, .int .i64 qv] 79)
    have hM4 := hM3.below (box_below w3 (.cells #[.bool qw, .int .i64 qk, .int .i64 qv] 79))
    clear hM hM2 hM3 CP2 hb2 hb3 hb1 hb1'
    cases qb
    ·have HR : Hid (LinesRes L w.heap.size (w3.alloc (.cells #[.bool qw, .int .i64 qk, .int .i64 qv] 79)) (.returned (.tuple #[.slice none 0 0, .int .i64 ((k : Int) + 1)]))) := hid (.inr ⟨k, hlt, rfl, ⟨_, HRUN.out⟩, HNO2.out _ _ rfl rfl⟩)
     have hw1 : wrap64 ((k : Int) + 1) = (k : Int) + 1 := wrap64_small (by omega) (by omega)
     clear hM4 HOP HNO HNO2 hc2
     go_wp2_with fail
     go_ret2
     exact ⟨HR.out, hb4⟩
    ·obtain ⟨av, cv, rfl⟩ : ∃ a cp, u4 = .slice a c.length cp := by
      rcases hM4.1.split with ⟨rfl, rfl⟩ | ⟨g, cp, rfl, _⟩
      ·exact ⟨none, 0, rfl⟩
      ·exact ⟨_, _, rfl⟩
     by_cases hcn : c = []
     ·have HR : Hid (LinesRes L w.heap.size (w3.alloc (.cells #[.bool qw, .int .i64 qk, .int .i64 qv] 79)) (.returned (.tuple #[.slice none 0 0, .int .i64 ((k : Int) + 1)]))) := hid (.inr ⟨k, hlt, rfl, ⟨_, HRUN.out⟩, HNO.out _ rfl hcn⟩)
      have hw1 : wrap64 ((k : Int) + 1) = (k : Int) + 1 := wrap64_small (by omega) (by omega)
      subst hcn
      have hl0 : (([] : List TxnV).length : Int) = 0 := rfl
      clear hM4 HOP HNO HNO2 hc2
      go_wp2_with fail
      go_ret2
      exact ⟨HR.out, hb4⟩
     ·obtain ⟨D, t, rfl⟩ : ∃ D t, c = D ++ [t] := ⟨c.dropLast, c.getLast hcn, (List.dropLast_concat_getLast hcn).symm⟩
      have hlD : (D ++ [t]).length = D.length + 1 := by simp
      have HN := hid (fun v' => HOP.out _ _ D t v' rfl rfl rfl)
      have HTL := hid (hc2 t (by simp))
      rw [hlD] at hM4 hc1 ⊢
      obtain ⟨g2, rfl⟩ : ∃ g2, av = some ⟨g2, 0, none⟩ := by
       rcases hM4.1.split with ⟨e, _⟩ | ⟨g, cp, e, _⟩
       ·have := (Value.slice.inj e).2.1; omega
       ·exact ⟨g, (Value.slice.inj e).1⟩
      have hO4 : OwnT (w3.alloc (.cells #[.bool qw, .int .i64 qk, .int .i64 qv] 79)) w.heap.size (.slice (some ⟨g2, 0, none⟩) (D ++ [t]).length cv) (D ++ [t]) := by rw [hlD]; exact hM4.1
      have a3 := (hO4.at (j := D.length * 4 + 3) (by omega)).1
      have f3 := (hO4.at (j := D.length * 4 + 3) (by omega)).2
      rw [txV_app, ← txV_len D, List.getElem?_append_right (by omega), Nat.add_sub_cancel_left, txV_len D] at a3
      change _ = some t.v at a3
      have hT := hM4.2.1 t (by simp)
      have HL : Hid (∀ v', ∀ u ∈ (D ++ [TxnV.mk t.s t.b t.c v' (t.l ++ [⟨qw, qk, qv⟩])]), u.l.length ≤ k + 1) := hid (fun v' u hu => by
       rcases List.mem_append.1 hu with hu | hu
       ·exact Nat.le_succ_of_le (hc2 u (by simp [hu]))
       ·obtain rfl := List.mem_singleton.1 hu
        have := hc2 t (by simp)
        simp; omega)
      have HLL : Hid (∀ v', (D ++ [TxnV.mk t.s t.b t.c v' (t.l ++ [⟨qw, qk, qv⟩])]).length ≤ k + 1) := hid (fun v' => by simp; omega)
      have HM4 := hid hM4
      clear hM4 hc2 HOP HNO HNO2 hO4 hcn HRUN
      obtain ⟨ts, tb, tc, tv, tl⟩ := t
      dsimp only at a3 hT HTL HN HL HLL
      obtain ⟨at', ct, rfl, _⟩ := hT.ops.form
      obtain ⟨b0, b1, b2⟩ := opBlock w3 (.bool qw) (.int .i64 qk) (.int .i64 qv) 79
      go_wp2_with fail
      generalize w3.alloc (.cells #[.bool qw, .int .i64 qk, .int .i64 qv] 79) = w4 at *
      generalize w3.heap.size = p at *
      have n1 : w4.heap.size ≠ g2 := Nat.ne_of_gt (block_lt a3)
      have n2 : w4.heap.size ≠ p := Nat.ne_of_gt (block_lt b0)
      have hgl : Hid (g2 < w4.heap.size) := hid (block_lt a3)
      have hsX : (w4.alloc (.cells #[.bool qw, .int .i64 qk, .int .i64 qv] 79)).heap.size = w4.heap.size + 1 := by simp
      have hbX := box_below w4 (.cells #[.bool qw, .int .i64 qk, .int .i64 qv] 79)
      have HMX := hid (HM4.out.below hbX)
      have hTX := hid (hT.below hbX)
      have hgr : Hid (some g2 ≠ (Value.slice at' tl.length ct).ownBlock) := hid (fun e => by
       rcases own_apart HM4.out.1 hT with q | q
       ·rw [q] at e; cases e
       ·exact q (by rw [← e]; rfl))
      have hA := hid ((hbX.cell (p := ⟨g2, D.length * 4 + 3, none⟩) hgl.out).trans a3)
      have hF := hid ((hbX.frozen (p := ⟨g2, D.length * 4 + 3, none⟩) hgl.out).trans f3)
      have hgX : Hid (g2 < (w4.alloc (.cells #[.bool qw, .int .i64 qk, .int .i64 qv] 79)).heap.size) := hid (by rw [hsX]; have := hgl.out; omega)
      have hb5 := hid (hb4.alloc hb4.size (.cells #[.bool qw, .int .i64 qk, .int .i64 qv] 79))
      have hbs : Hid (w.heap.size ≤ (w4.alloc (.cells #[.bool qw, .int .i64 qk, .int .i64 qv] 79)).heap.size) := hid hb5.out.size
      have u2 := hid (opV_one [⟨qw, qk, qv⟩])
      have m1 : Hid (tl.length + 1 ≤ maxLen) := hid (by have := HTL.out; unfold maxLen; omega)
      have m2 : Hid ((tl.length + 1) * 24 ≤ 140737488355328) := hid (by have := HTL.out; omega)
      have HS4 := hid hsX
      have HRG : Hid (∀ j, (Value.slice at' tl.length ct).ownBlock = some j → w.heap.size ≤ j) := hid (fun j hj => (World.ownsRow.lt hT j hj).1)
      have hA1 := hA.out
      have hA2 : (w4.alloc (.cells #[.bool qw, .int .i64 qk, .int .i64 qv] 79)).drew.cell? ⟨g2, D.length * 4 + 3, none⟩ = some (.slice at' tl.length ct) := hA.out
      have HFIN : Hid (∀ g9 c9 w9, World.ownsRow w9 w.heap.size 79 3 (.slice (some ⟨g9, 0, none⟩) (tl.length + 1) c9) (tl.length + 1) (opV tl ++ [.bool qw, .int .i64 qk, .int .i64 qv]) → (w4.alloc (.cells #[.bool qw, .int .i64 qk, .int .i64 qv] 79)).drew.grownBy w9 (Value.slice at' tl.length ct).ownBlock → ((Value.slice at' tl.length ct).ownBlock = some g9 ∨ g9 = w4.heap.size + 1) →
        Made (w9.setCell ⟨g2, D.length * 4 + 3, none⟩ (.slice (some ⟨g9, 0, none⟩) (tl.length + 1) c9)) w.heap.size (.slice (some ⟨g2, 0, none⟩) (D.length + 1) cv) (D ++ [TxnV.mk ts tb tc (.slice (some ⟨g9, 0, none⟩) (tl.length + 1) c9) (tl ++ [⟨qw, qk, qv⟩])]) ∧ Below w.heap.size w (w9.setCell ⟨g2, D.length * 4 + 3, none⟩ (.slice (some ⟨g9, 0, none⟩) (tl.length + 1) c9))) := hid (fun g9 c9 w9 h1 h2 h3 => by
       have hM := HMX.out.below (Below.refl _ _).drew
       have hO9 : Own w9 w.heap.size (.slice (some ⟨g9, 0, none⟩) (tl.length + 1) c9) (tl ++ [⟨qw, qk, qv⟩]) := by
        unfold Own
        rw [List.length_append, opV_app]
        exact h1
       have hM9 := Made.op hM h2 hO9 (fun b hb => by
        have : g9 = b := by simpa [Value.ownBlock] using hb
        subst this
        rcases h3 with q | q
        ·exact .inl q
        ·refine .inr ?_
         have e : (w4.alloc (.cells #[.bool qw, .int .i64 qk, .int .i64 qv] 79)).drew.heap.size = w4.heap.size + 1 := hsX
         rw [e, q]
         exact Nat.le_refl _)
       have h5 := (hb5.out.drew).grown h2 hb5.out.size HRG.out
       exact ⟨hM9, h5.setCell (p := ⟨g2, D.length * 4 + 3, none⟩) ((World.ownsRow.lt HM4.out.1 g2 rfl).1) _⟩)
      clear hsX hbX hT HM4
      go_region_law (first
       | (refine step_append_lies _ rfl (.tmp 52) (.tmp 54) 81 rfl w.heap.size 79 i1 (.agg #[.bool false, .int .i64 0, .int .i64 0]) 3 24 Tryz.underlying81 hj hy0 hy1 hy2 rfl (by decide) (.slice at' tl.length ct) tl.length (opV tl) (by simp [Act.eval]) (by first | exact hTX.out | exact drew_own hTX.out) ⟨_, 0, none⟩ 1 1 [.bool qw, .int .i64 qk, .int .i64 qv] (by rfl) rfl (by exact lit_new _ _ _ _ _) u2.out (by decide) m1.out m2.out hbs.out (w4.heap.size + 1) HS4.out ?_; intro g9 c9 w9 hown9 hg9 hor9 hlt9; have a9 := (World.grownBy.cell_far hg9 ⟨g2, D.length * 4 + 3, none⟩ hgX.out hgr.out).trans hA.out; have f9 := (World.grownBy.frozen_far hg9 ⟨g2, D.length * 4 + 3, none⟩ hgX.out hgr.out).trans hF.out))
      all_goals
       obtain ⟨hMf, hbf⟩ := HFIN.out _ _ _ hown9 hg9 hor9
       clear hown9 hg9 hor9 HFIN HMX hb5 hTX
       try go_simp
       go_wp2_with fail
       go_roundw
       case rel => exact ⟨k + 1, _, by omega, by go_num, HN.out _, hMf, HLL.out _, HL.out _, hbf⟩
       case measure => simp [intOf]; omega
   ·have HN := hid (HBG.out _ _ _ rfl)
    clear HNO HNO2 HOP HBG CP CB c0
    obtain ⟨av, cv, rfl⟩ : ∃ a cp, u4 = .slice a c.length cp := by
     rcases hM1.1.split with ⟨rfl, rfl⟩ | ⟨g, cp, rfl, _⟩
     ·exact ⟨none, 0, rfl⟩
     ·exact ⟨_, _, rfl⟩
    have hM2 := hM1.below (box_below w1 (.cells #[.int .i64 ra, .int .i64 rc, .int .i64 rd, .slice none 0 0] 83))
    have hM3 := hM2.below (box_below _ (.cells #[.int .i64 ra, .int .i64 rc, .int .i64 rd, .slice none 0 0] 83))
    have hsz := hb1'.size
    go_wp2_with (first | (at_builtin; refine wpList_append_own _ rfl _ _ 22 rfl w.heap.size 83 i0 (.agg #[.int .i64 0, .int .i64 0, .int .i64 0, .slice none 0 0]) 4 48 Tryz.underlying22 hi hz0 hz1 hz2 rfl (by decide) _ _ _ rfl hM3.1 ⟨_, 0, none⟩ 1 1 [.int .i64 ra, .int .i64 rc, .int .i64 rd, .slice none 0 0] rfl rfl ?c1 ?c2 ?c3 ?c4 ?c5 ?_) | go_in)
    case c1 =>
     have h := lit4 (w1.alloc (.cells #[.int .i64 ra, .int .i64 rc, .int .i64 rd, .slice none 0 0] 83)) (.int .i64 ra) (.int .i64 rc) (.int .i64 rd) (.slice none 0 0) 83
     rw [show (w1.alloc (.cells #[.int .i64 ra, .int .i64 rc, .int .i64 rd, .slice none 0 0] 83)).heap.size = w1.heap.size + 1 from by simp] at h
     exact h
    case c2 =>
     intro u hu
     simp at hu
     rcases hu with rfl | rfl | rfl | rfl <;> rfl
    case c3 => unfold maxLen; omega
    case c4 => omega
    case c5 => simp; omega
    intro v7 w7 hown7 hg7 _
    have hO7 : OwnT w7 w.heap.size v7 (c ++ [TxnV.mk ra rc rd (.slice none 0 0) []]) := by
     unfold OwnT
     rw [List.length_append, txV_app]
     exact hown7
    have hM7 := Made.beg hM3 hO7 hg7
    have hb7 := ((hb1'.alloc hb1'.size (.cells #[.int .i64 ra, .int .i64 rc, .int .i64 rd, .slice none 0 0] 83)).alloc (by simp; omega) (.cells #[.int .i64 ra, .int .i64 rc, .int .i64 rd, .slice none 0 0] 83)).grown hg7 (by simp; omega) (fun j hj => (World.ownsRow.lt hM3.1 j hj).1)
    have HL : Hid (∀ t ∈ (c ++ [TxnV.mk ra rc rd (.slice none 0 0) []]), t.l.length ≤ k + 1) := hid (fun t ht => by
     rcases List.mem_append.1 ht with ht | ht
     ·exact Nat.le_succ_of_le (hc2 t ht)
     ·obtain rfl := List.mem_singleton.1 ht
      exact Nat.zero_le _)
    have HLL : Hid ((c ++ [TxnV.mk ra rc rd (.slice none 0 0) []]).length ≤ k + 1) := hid (by simp; omega)
    clear hown7 hg7 hM hM1 hM2 hM3 hO7 hc2 hb1 hb1' hb
    go_wp2_with fail
    go_roundw
    case rel => exact ⟨k + 1, _, by omega, by go_num, HN.out, hM7, HLL.out, HL.out, hb7⟩
    case measure => simp [intOf]; omega
  ·have hkl : k = L.length := by omega
   subst hkl
   rw [List.take_length] at hrun
   have HR : Hid (LinesRes L w.heap.size wr (.returned (.tuple #[u4, .int .i64 0]))) := hid (.inl ⟨_, c, rfl, hrun, hM, hc1, hc2⟩)
   clear hrun hM hc2
   go_wp2_with fail
   go_ret2
   exact ⟨HR.out, hb⟩
end

section
open Go.RowKit
def okE (t : Int × Int × Int × List OpV) : Prop := (IntOk t.1 ∧ IntOk t.2.1 ∧ IntOk t.2.2.1) ∧ ∀ o ∈ t.2.2.2, o.ok
theorem intOk_small {n : Int} (h : 0 ≤ n ∧ n ≤ 2147483647) : IntOk n := by unfold IntOk; omega
theorem begR_ok {s : ByteArray} {a b c : Int} (h : begR s = (true, a, b, c)) : (0 ≤ a ∧ a ≤ 2147483647) ∧ (0 ≤ b ∧ b ≤ 2147483647) ∧ (0 ≤ c ∧ c ≤ 2147483647) := by
 unfold begR at h
 split at h
 ·rename_i hw
  simp only [Bool.and_eq_true] at hw
  obtain ⟨a', b', c', e, h1, h2, h3⟩ := nums_three hw.1
  rw [e] at h
  simp at h
  obtain ⟨rfl, rfl, rfl⟩ := h
  exact ⟨h1, h2, h3⟩
 ·simp at h
theorem parseR_mayO {s : ByteArray} {o : OpV} (h : parseR s = (true, o)) : mayO o = true := by
 unfold parseR at h
 split at h
 ·split at h
  ·split at h
   ·rename_i hm
    simp only [Bool.and_eq_true] at hm
    simp at h
    rw [← h]; exact hm.2
   ·simp at h
  ·simp at h
 ·simp at h
theorem mayO_ok {o : OpV} (h : mayO o = true) : o.ok := by
 obtain ⟨h1, h2, _⟩ := (mayO_iff o).1 h
 exact ⟨by unfold IntOk; omega, by unfold IntOk; omega⟩
theorem stepL_ok {H H' : List (Int × Int × Int × List OpV)} {s : ByteArray} (hH : ∀ t ∈ H, okE t) (h : stepL H s = some H') : ∀ t ∈ H', okE t := by
 unfold stepL at h
 cases hb : begR s with
 | mk rb r =>
  obtain ⟨a, b, c⟩ := r
  rw [hb] at h
  cases rb
  ·simp only [Bool.false_eq_true, if_false] at h
   cases hl : H.getLast? with
   | none => rw [hl] at h; cases h
   | some t =>
    rw [hl] at h
    cases hp : parseR s with
    | mk qb o =>
     rw [hp] at h
     cases qb
     ·cases h
     ·simp only [if_true] at h
      obtain rfl := Option.some.inj h
      intro u hu
      rcases List.mem_append.1 hu with hu | hu
      ·exact hH u ((List.dropLast_sublist H).subset hu)
      ·obtain rfl := List.mem_singleton.1 hu
       have ht := hH t (List.mem_of_getLast? hl)
       refine ⟨ht.1, fun x hx => ?_⟩
       rcases List.mem_append.1 hx with hx | hx
       ·exact ht.2 x hx
       ·obtain rfl := List.mem_singleton.1 hx
        exact mayO_ok (parseR_mayO hp)
  ·simp only [if_true] at h
   obtain rfl := Option.some.inj h
   obtain ⟨h1, h2, h3⟩ := begR_ok hb
   intro u hu
   rcases List.mem_append.1 hu with hu | hu
   ·exact hH u hu
   ·obtain rfl := List.mem_singleton.1 hu
    exact ⟨⟨intOk_small h1, intOk_small h2, intOk_small h3⟩, by simp⟩
theorem runL_ok (L : List ByteArray) : ∀ (k : Nat) (H : List (Int × Int × Int × List OpV)), k ≤ L.length → runL (L.take k) = some H → ∀ t ∈ H, okE t
 | 0, H, _, h => by
  have : H = [] := by
   unfold runL at h; simp at h; exact h
  rw [this]; simp
 | k + 1, H, hk, h => by
  rw [List.take_succ_eq_append_getElem (by omega), runL_snoc] at h
  cases h2 : runL (L.take k) with
  | none => rw [h2] at h; cases h
  | some H2 =>
   rw [h2] at h
   exact stepL_ok (runL_ok L k H2 (by omega) h2) h
theorem okE_txn {c : List TxnV} (h : ∀ t ∈ c.map txE, okE t) : ∀ t ∈ c, t.ok := fun t ht => h (txE t) (List.mem_map.2 ⟨t, ht, rfl⟩)
def ParseRes (s : ByteArray) (base : Nat) (w : World) (e : Ending) : Prop :=
 (∃ k, k < (linesB s).length ∧ (∃ H, runL ((linesB s).take k) = some H) ∧ runL ((linesB s).take (k + 1)) = none ∧ e = .returned (.tuple #[.slice none 0 0, .int .i64 ((k : Int) + 1), .int .i64 1])) ∨
 (∃ c : List TxnV, runL (linesB s) = some (c.map txE) ∧
  ((endedB s = false ∧ e = .returned (.tuple #[.slice none 0 0, .int .i64 (((linesB s).length : Int) + 1), .int .i64 1])) ∨
   (endedB s = true ∧ checkI c ≠ 0 ∧ e = .returned (.tuple #[.slice none 0 0, .int .i64 0, .int .i64 (checkI c)])) ∨
   (endedB s = true ∧ checkI c = 0 ∧ ∃ v, e = .returned (.tuple #[v, .int .i64 0, .int .i64 0]) ∧ Made w base v c)))
theorem linesB_le (s : ByteArray) : (linesB s).length ≤ s.size := by
 have := cut_len_le 10 s
 unfold linesB; rw [List.length_dropLast]; omega
theorem piece_le (c : UInt8) : ∀ (l p : List UInt8), p ∈ cutL c l → p.length ≤ l.length
 | [], p, hp => by simp [cutL] at hp; subst hp; simp
 | b :: l, p, hp => by
  unfold cutL at hp
  split at hp
  ·rcases List.mem_cons.1 hp with rfl | hp
   ·simp
   ·have := piece_le c l p hp; simp; omega
  ·rcases List.mem_cons.1 hp with rfl | hp
   ·have := cutL_ne c l
    cases hc : cutL c l with
    | nil => exact absurd hc this
    | cons a r =>
     have := piece_le c l a (by rw [hc]; exact List.mem_cons_self)
     simp; omega
   ·have := piece_le c l p (List.mem_of_mem_tail hp); simp; omega
theorem linesB_size (s : ByteArray) (hs : s.size ≤ 100000) : ∀ t ∈ linesB s, t.size ≤ 100000 := fun t ht => by
 have ht2 : t ∈ cutB 10 s := (List.dropLast_sublist _).subset ht
 obtain ⟨p, hp, rfl⟩ := List.mem_map.1 ht2
 have := piece_le _ _ _ hp
 have e : (⟨p.toArray⟩ : ByteArray).size = p.length := by simp [ByteArray.size]
 rw [Lib.size_eq] at hs
 rw [e]; omega
theorem sparse_any (s : ByteArray) (w : World) (he : EnvM w) (hs : s.size ≤ 100000) :
  Calls Tryz.prog 49 #[.string s] w fun e w' => ParseRes s w.heap.size w' e ∧ Below w.heap.size w w' := by
 have HE := hid (fun wx (hx : Below w.heap.size w wx) => he.below hx)
 have CL := hid (lines_any s w he hs)
 have hll := linesB_le s
 have hls := hid (linesB_size s hs)
 have hsz : ¬ (1048576 : Int) < (s.size : Int) := by omega
 have HP : Hid (∀ w e, ParseRes s w.heap.size w e ↔ ParseRes s w.heap.size w e) := hid (fun _ _ => Iff.rfl)
 clear he HP
 go_enter Tryz.func49, Tryz.ntmps49
 go_wp2_with fail
 refine (CL.out).mono ?_
 rintro e w1 ⟨v, rfl, hS, hb1⟩
 clear CL
 obtain ⟨av, cv, rfl, _⟩ := hS.form
 go_wp2_with fail
 refine (slines_any _ (linesB s) w1 (HE.out _ hb1) hS hls.out (by omega)).mono ?_
 rintro e w2 ⟨hR, hb2⟩
 have hb2' := hb1.trans (hb2.mono hb1.size)
 rcases hR with ⟨v2, c, rfl, hrun, hM, hc1, hc2⟩ | ⟨k, hk, rfl, hH, hrun⟩
 ·have HOK := hid (okE_txn (c := c) (fun t ht => runL_ok (linesB s) (linesB s).length _ (Nat.le_refl _) (by rw [List.take_length]; exact hrun) t ht))
  have HSH : Hid (Short c) := hid (fun t ht => by have := hc2 t ht; omega)
  have HM := hid hM
  have HRN := hid hrun
  obtain ⟨a2, c2, rfl, _⟩ := hM.txns.form
  have hl0 : wrap64 (((linesB s).length : Int) + 1) = ((linesB s).length : Int) + 1 := wrap64_small (by omega) (by omega)
  have hl1 : ¬ ((linesB s).length : Int) + 1 = 0 := by omega
  clear hM hrun hc2 hS hls
  cases hen : endedB s
  ·have HRES : Hid (ParseRes s w.heap.size w2 (.returned (.tuple #[.slice none 0 0, .int .i64 (((linesB s).length : Int) + 1), .int .i64 1]))) := hid (.inr ⟨c, HRN.out, .inl ⟨hen, rfl⟩⟩)
   clear HM
   go_wp2_with fail
   go_ret3
   exact ⟨HRES.out, hb2'⟩
  ·have CK := hid (hcheck_any _ c w2 HM.out.txns HOK.out HSH.out)
   have HK : Hid (checkI c ≠ 0 → ∀ wx, ParseRes s w.heap.size wx (.returned (.tuple #[.slice none 0 0, .int .i64 0, .int .i64 (checkI c)]))) := hid (fun hne wx => .inr ⟨c, HRN.out, .inr (.inl ⟨hen, hne, rfl⟩)⟩)
   have HK0 : Hid (checkI c = 0 → ∀ wx, Below w2.heap.size w2 wx → ParseRes s w.heap.size wx (.returned (.tuple #[.slice a2 c.length c2, .int .i64 0, .int .i64 0]))) := hid (fun he wx hx => .inr ⟨c, HRN.out, .inr (.inr ⟨hen, he, _, rfl, by
    have := HM.out.below hx
    exact ⟨⟨this.1.1, by
     rcases this.1.2 with q | ⟨g, cap, cur, q1, q2, q3⟩
     ·exact .inl q
     ·exact .inr ⟨g, cap, cur, q1, Nat.le_trans hb1.size q2, q3⟩⟩, fun t ht => (this.2.1 t ht).base hb1.size, this.2.2⟩⟩)⟩)
   generalize checkI c = E at *
   clear HM
   go_wp2_with fail
   refine (CK.out).mono ?_
   rintro e w3 ⟨rfl, hb3⟩
   have hb3' := hb2'.trans (hb3.mono hb2'.size)
   by_cases hE : E = 0
   ·subst hE
    have HRES := hid (HK0.out rfl _ hb3)
    clear HK HK0
    go_wp2_with fail
    go_ret3
    exact ⟨HRES.out, hb3'⟩
   ·have HRES := hid (HK.out hE w3)
    clear HK HK0
    go_wp2_with fail
    go_ret3
    exact ⟨HRES.out, hb3'⟩
 ·have HRES : Hid (ParseRes s w.heap.size w2 (.returned (.tuple #[.slice none 0 0, .int .i64 ((k : Int) + 1), .int .i64 1]))) := hid (.inl ⟨k, hk, hH, hrun, rfl⟩)
  have hk1 : ¬ ((k : Int) + 1 = 0) := by omega
  clear hrun hH hS hls
  go_wp2_with fail
  go_ret3
  exact ⟨HRES.out, hb2'⟩
end

section
open Go.RowKit
def opsTxt (l : List OpV) : List UInt8 := l.flatMap fun o => (textB o.wr o.key o.val).data.toList ++ [10]
def headTxt (s b c : Int) : List UInt8 := joinTo [116, 120, 110] [s, b, c] ++ [10]
def txnTxt (s b c : Int) (l : List OpV) : ByteArray := ⟨(headTxt s b c ++ opsTxt l).toArray⟩
theorem opsTxt_succ (l : List OpV) (k : Nat) (hk : k < l.length) : opsTxt (l.take (k + 1)) = opsTxt (l.take k) ++ (textB l[k].wr l[k].key l[k].val).data.toList ++ [10] := by
 unfold opsTxt; rw [take_snoc l k hk, List.flatMap_append]; simp
theorem textB_size (o : OpV) (h : o.ok) : (textB o.wr o.key o.val).size ≤ 45 := by
 have hl := joinTo_len (if o.wr then (⟨#[119]⟩ : ByteArray) else ⟨#[114]⟩).data.toList [o.key, o.val] (by intro n hn; simp at hn; rcases hn with rfl | rfl; exact h.1; exact h.2)
 have e : (if o.wr then (⟨#[119]⟩ : ByteArray) else ⟨#[114]⟩).data.toList.length = 1 := by cases o.wr <;> rfl
 rw [e] at hl
 unfold textB joinB
 simp only [ByteArray.size, List.size_toArray]
 simpa using hl
theorem opsTxt_len : ∀ (l : List OpV), (∀ o ∈ l, o.ok) → (opsTxt l).length ≤ 46 * l.length
 | [], _ => by simp [opsTxt]
 | a :: l, h => by
  have h1 := opsTxt_len l (fun o ho => h o (List.mem_cons_of_mem _ ho))
  have h2 := textB_size a (h a List.mem_cons_self)
  rw [Lib.size_eq] at h2
  unfold opsTxt at *
  simp only [List.flatMap_cons, List.length_append, List.length_cons, List.length_nil] at *
  omega
theorem headTxt_len (s b c : Int) (hs : IntOk s) (hb : IntOk b) (hc : IntOk c) : (headTxt s b c).length ≤ 80 := by
 have := joinTo_len [116, 120, 110] [s, b, c] (by intro n hn; simp at hn; rcases hn with rfl | rfl | rfl <;> assumption)
 unfold headTxt; simp at *; omega
theorem ttext_any (s b c : Int) (va : Value) (l : List OpV) (w : World) (he : Ten w) (ha : Ops w va l) (hok : ∀ o ∈ l, o.ok) (hs : IntOk s) (hb : IntOk b) (hc : IntOk c) (hlen : l.length ≤ 100000) :
  Calls Tryz.prog 69 #[.agg #[.int .i64 s, .int .i64 b, .int .i64 c, va]] w fun e w' => e = .returned (.string (txnTxt s b c l)) ∧ Below w.heap.size w w' := by
 obtain ⟨ao, cap, rfl, hal⟩ := ha.form
 have HOK := hid hok
 have HEN : Hid (∀ wx, Below w.heap.size w wx → Ten wx) := hid (fun wx h => he.below h)
 have hhl := headTxt_len s b c hs hb hc
 have HL : Hid (∀ k, k ≤ l.length → (opsTxt (l.take k)).length ≤ 46 * k) := hid (fun k hk => by
  have := opsTxt_len (l.take k) (fun o ho => hok o (List.mem_of_mem_take ho))
  rw [List.length_take, Nat.min_eq_left hk] at this; exact this)
 have hw1 := (Below.refl w.heap.size w).alloc (Nat.le_refl _) (.cells #[.int .i64 s, .int .i64 b, .int .i64 c, .slice ao l.length cap] 83)
 have hB1 := bld_new (w.alloc (.cells #[.int .i64 s, .int .i64 b, .int .i64 c, .slice ao l.length cap] 83))
 obtain ⟨t0, t1, t2, t3⟩ := txnBlock w (.int .i64 s) (.int .i64 b) (.int .i64 c) (.slice ao l.length cap) 83
 rw [show (w.alloc (.cells #[.int .i64 s, .int .i64 b, .int .i64 c, .slice ao l.length cap] 83)).heap.size = w.heap.size + 1 from by simp] at hB1
 have hw2 := hw1.alloc hw1.size (.cells #[.pointer none, .slice none 0 0] 130)
 have HI : Hid (∀ wx : World, Ints (wx.alloc (.cells #[.int .i64 s, .int .i64 b, .int .i64 c] 3)) (.slice (some ⟨wx.heap.size, 0, none⟩) 3 3) [s, b, c]) := hid (fun wx => ints_lit wx [s, b, c] #[.int .i64 s, .int .i64 b, .int .i64 c] 3 rfl rfl (by decide))
 have HIO : Hid (∀ n ∈ [s, b, c], IntOk n) := hid (by intro n hn; simp at hn; rcases hn with rfl | rfl | rfl <;> assumption)
 clear hok he hs hb hc
 go_enter Tryz.func69, Tryz.ntmps69
 go_wp2_with fail
 have HSZ : Hid (((w.alloc (.cells #[.int .i64 s, .int .i64 b, .int .i64 c, .slice ao l.length cap] 83)).alloc (.cells #[.pointer none, .slice none 0 0] 130)).heap.size = w.heap.size + 1 + 1) := hid (by simp)
 have t3' := ((box_below (w.alloc (.cells #[.int .i64 s, .int .i64 b, .int .i64 c, .slice ao l.length cap] 83)) (.cells #[.pointer none, .slice none 0 0] 130)).cell (p := ⟨w.heap.size, 3, none⟩) (block_lt t3)).trans t3
 clear t0 t1 t2 t3 hw1
 generalize (w.alloc (.cells #[.int .i64 s, .int .i64 b, .int .i64 c, .slice ao l.length cap] 83)).alloc (.cells #[.pointer none, .slice none 0 0] 130) = w2 at *
 rw [← HSZ.out]
 have hw3 := hw2.alloc hw2.size (.cells #[.int .i64 s, .int .i64 b, .int .i64 c] 3)
 refine (join_ten ⟨#[116, 120, 110]⟩ _ [s, b, c] _ (HEN.out _ hw3) (HI.out w2) HIO.out (by simp [ByteArray.size])).mono ?_
 rintro e w4 ⟨rfl, hb4⟩
 have hw4 := below_then hw3 hb4
 have hbb4 := below_then ((Below.refl w2.heap.size w2).alloc (Nat.le_refl _) (.cells #[.int .i64 s, .int .i64 b, .int .i64 c] 3)) hb4
 have hB4 := hB1.grown hbb4
 have t4 := (hbb4.cell (p := ⟨w.heap.size, 3, none⟩) (block_lt t3')).trans t3'
 have CW := hid (write_any (w.heap.size + 1) (w.heap.size + 1) [] (joinB ⟨#[116, 120, 110]⟩ [s, b, c]) w4 hB4 (by
  have := headTxt_len s b c (HIO.out s (by simp)) (HIO.out b (by simp)) (HIO.out c (by simp))
  have h2 : (headTxt s b c).length = (joinB ⟨#[116, 120, 110]⟩ [s, b, c]).size + 1 := by unfold headTxt joinB; simp [ByteArray.size]
  rw [List.length_nil]; omega))
 have HJ : Hid ((joinB ⟨#[116, 120, 110]⟩ [s, b, c]).data.toList ++ [10] = headTxt s b c) := hid (by unfold headTxt joinB; simp)
 clear hB1 hB4 hw2 hw3 hb4 hbb4 t3' HI HIO HSZ
 generalize joinB ⟨#[116, 120, 110]⟩ [s, b, c] = J at *
 go_wp2_with fail
 refine (CW.out).mono ?_
 rintro e w5 ⟨rfl, hB5, hb5⟩
 have hw5 := hw4.trans (hb5.mono (by omega))
 have t5 := (hb5.cell (p := ⟨w.heap.size, 3, none⟩) (by show w.heap.size < w.heap.size + 1; omega)).trans t4
 rw [List.nil_append] at hB5
 have hjl : Hid (J.data.toList.length + 1 = (headTxt s b c).length) := hid (by rw [← HJ.out]; simp)
 have CW2 := hid (write_any (w.heap.size + 1) (w.heap.size + 1) J.data.toList ⟨#[10]⟩ w5 hB5 (by have : (⟨#[10]⟩ : ByteArray).size = 1 := rfl; have := hjl.out; omega))
 clear CW hB5 hb5 hw4 t4
 go_wp2_with fail
 refine (CW2.out).mono ?_
 rintro e w6 ⟨rfl, hB6, hb6⟩
 have hw6 := hw5.trans (hb6.mono (by omega))
 have t6 := (hb6.cell (p := ⟨w.heap.size, 3, none⟩) (by show w.heap.size < w.heap.size + 1; omega)).trans t5
 rw [show J.data.toList ++ (⟨#[10]⟩ : ByteArray).data.toList = headTxt s b c from HJ.out] at hB6
 clear CW2 hb6 hw5 t5 HJ hjl
 have HT : Hid (txnTxt s b c l = ⟨(headTxt s b c ++ opsTxt l).toArray⟩) := hid rfl
 generalize headTxt s b c = T at *
 go_wp2_with fail
 go_loopw [19] (fun i wr => ∃ k : Nat, k ≤ l.length ∧ i = .int .i64 k ∧ Bld (w.heap.size + 1) (w.heap.size + 1) (T ++ opsTxt (l.take k)) wr ∧ Below w.heap.size w wr) (fun i _ => l.length - (intOf i).toNat)
 case atStart => exact ⟨0, by omega, rfl, by simpa [opsTxt] using hB6, hw6⟩
 case round =>
  obtain ⟨k, hk, rfl, hB, hbw⟩ := hrel
  clear hB6 hw6 t6
  by_cases hlt : k < l.length
  ·have hki : (k : Int) < (l.length : Int) := by omega
   obtain ⟨g, o, hao, c0, c1, c2⟩ := (ha.below hbw).at hlt
   cases hao
   have HS := hid (opsTxt_succ l k hlt)
   have hlk := HL.out k hk
   have hox := HOK.out l[k] (List.getElem_mem hlt)
   have hts := textB_size l[k] hox
   generalize opsTxt (l.take k) = O at *
   generalize l[k] = x at *
   obtain ⟨xw, xk, xv⟩ := x
   try simp only at c0 c1 c2
   have hbx := hbw.alloc hbw.size (.cells #[.bool xw, .int .i64 xk, .int .i64 xv] 79)
   have CT := hid (text_ten xw xk xv _ (HEN.out _ hbx) hox.1 hox.2)
   have hBx := hB.grown ((Below.refl wr.heap.size wr).alloc (Nat.le_refl _) (.cells #[.bool xw, .int .i64 xk, .int .i64 xv] 79))
   generalize textB xw xk xv = t at *
   have htl := Lib.size_eq t
   clear hox hB hbw
   go_wp2_with fail
   refine (CT.out).mono ?_
   rintro e w7 ⟨rfl, hb7⟩
   have hw7 := below_then hbx hb7
   have hB7 := hBx.grown hb7
   have CW := hid (write_any (w.heap.size + 1) (w.heap.size + 1) (T ++ O) t w7 hB7 (by simp; omega))
   clear CT hBx hb7 hB7 hbx
   go_wp2_with fail
   refine (CW.out).mono ?_
   rintro e w8 ⟨rfl, hB8, hb8⟩
   have hw8 := hw7.trans (hb8.mono (by omega))
   have CW2 := hid (write_any (w.heap.size + 1) (w.heap.size + 1) (T ++ O ++ t.data.toList) ⟨#[10]⟩ w8 hB8 (by have : (⟨#[10]⟩ : ByteArray).size = 1 := rfl; simp; omega))
   clear CW hb8 hw7 hB8
   go_wp2_with fail
   refine (CW2.out).mono ?_
   rintro e w9 ⟨rfl, hB9, hb9⟩
   have hw9 := hw8.trans (hb9.mono (by omega))
   clear CW2 hb9 hw8
   go_wp2_with fail
   go_roundw
   case rel => exact ⟨k + 1, by omega, by go_num, by rw [HS.out]; simpa [List.append_assoc] using hB9, hw9⟩
   case measure => simp [intOf]; omega
  ·have hkl : k = l.length := by omega
   subst hkl
   rw [List.take_length] at hB
   have CS := hid (bld_string (w.heap.size + 1) (w.heap.size + 1) _ wr hB)
   have HZ : Hid (txnTxt s b c l = ⟨(T ++ opsTxt l).toArray⟩) := hid HT.out
   clear hB
   go_wp2_with fail
   refine (CS.out).mono ?_
   rintro e w' ⟨rfl, hbs⟩
   rw [← HZ.out]
   go_wp2_with fail
   go_ret
   exact ⟨rfl, hbw.trans (hbs.mono (by omega))⟩
end

section
open Go.RowKit
def prTxt (h : List TxnV) : List UInt8 := h.flatMap fun t => headTxt t.s t.b t.c ++ opsTxt t.l
theorem prTxt_succ (h : List TxnV) (k : Nat) (hk : k < h.length) : prTxt (h.take (k + 1)) = prTxt (h.take k) ++ (txnTxt h[k].s h[k].b h[k].c h[k].l).data.toList := by
 unfold prTxt; rw [List.take_succ_eq_append_getElem hk, List.flatMap_append]; simp [txnTxt]
theorem prTxt_len : ∀ (h : List TxnV), (∀ t ∈ h, t.ok ∧ t.l.length ≤ 100000) → (prTxt h).length ≤ 4600080 * h.length
 | [], _ => by simp [prTxt]
 | t :: h, hh => by
  have ih := prTxt_len h (fun u hu => hh u (List.mem_cons_of_mem _ hu))
  obtain ⟨⟨⟨h1, h2, h3⟩, h4⟩, h5⟩ := hh t List.mem_cons_self
  have a1 := headTxt_len t.s t.b t.c h1 h2 h3
  have a2 := opsTxt_len t.l h4
  unfold prTxt at *
  rw [List.flatMap_cons, List.length_append, List.length_append, List.length_cons]
  omega
theorem print_any (va : Value) (h : List TxnV) (w : World) (he : Ten w) (hT : Txns w va h) (hh : ∀ t ∈ h, t.ok ∧ t.l.length ≤ 100000) (hl : h.length ≤ 100000) :
  Calls Tryz.prog 28 #[va] w fun e w' => e = .returned (.string ⟨(prTxt h).toArray⟩) ∧ Below w.heap.size w w' := by
 obtain ⟨ao, cap, rfl, hal⟩ := hT.form
 have HT := hid (fun wx (hx : Below w.heap.size w wx) => hT.below hx)
 have HE := hid (fun wx (hx : Below w.heap.size w wx) => he.below hx)
 have HH := hid hh
 have HL : Hid (∀ k, k ≤ h.length → (prTxt (h.take k)).length ≤ 4600080 * k) := hid (fun k hk => by
  have := prTxt_len (h.take k) (fun t ht => hh t (List.mem_of_mem_take ht))
  rw [List.length_take, Nat.min_eq_left hk] at this; exact this)
 have hB0 := bld_new w
 have hb0 := box_below w (.cells #[.pointer none, .slice none 0 0] 130)
 clear he hT hh
 go_enter Tryz.func28, Tryz.ntmps28
 go_wp2_with fail
 go_loopw [8] (fun i wr => ∃ k : Nat, k ≤ h.length ∧ i = .int .i64 k ∧ Bld w.heap.size w.heap.size (prTxt (h.take k)) wr ∧ Below w.heap.size w wr) (fun i _ => h.length - (intOf i).toNat)
 case atStart => exact ⟨0, by omega, rfl, hB0, hb0⟩
 case round =>
  obtain ⟨k, hk, rfl, hB, hb⟩ := hrel
  clear hB0 hb0
  by_cases hlt : k < h.length
  ·have hki : (k : Int) < (h.length : Int) := by omega
   obtain ⟨g, o, hao, c0, c1, c2, c3⟩ := (HT.out _ hb).at hlt
   cases hao
   have HS := hid (prTxt_succ h k hlt)
   have hll := HL.out k hk
   have HL1 := hid (HL.out (k + 1) hlt)
   have hOps := fun wx (hx : Below w.heap.size w wx) => (HT.out wx hx).ops hlt
   obtain ⟨⟨⟨i1, i2, i3⟩, i4⟩, i5⟩ := HH.out h[k] (List.getElem_mem hlt)
   generalize h[k] = t at *
   obtain ⟨s, b, cc, v, l⟩ := t
   simp only at c0 c1 c2 c3 hOps HS i1 i2 i3 i4 i5
   obtain ⟨ai, capi, rfl, _⟩ := (hOps wr hb).form
   have hbx := box_below wr (.cells #[.int .i64 s, .int .i64 b, .int .i64 cc, .slice ai l.length capi] 83)
   have hbb := hb.trans (hbx.mono hb.size)
   have hB1 := hB.grown hbx
   have CT := hid (ttext_any s b cc _ l _ (HE.out _ hbb) (hOps _ hbb) i4 i1 i2 i3 i5)
   have hts : (prTxt (h.take k)).length + (txnTxt s b cc l).size ≤ 140737488355328 := by
    have := HL1.out
    rw [HS.out, List.length_append] at this
    rw [Lib.size_eq]; omega
   clear hOps i1 i2 i3 i4 i5 hB
   generalize txnTxt s b cc l = T at *
   generalize prTxt (h.take k) = P at *
   go_wp2_with fail
   refine (CT.out).mono ?_
   rintro e w2 ⟨rfl, hb2⟩
   have hB2 := hB1.grown hb2
   have hb3 := hbb.trans (hb2.mono hbb.size)
   clear hB1 hb2 hbx hbb CT
   go_wp2_with fail
   refine (write_any _ _ P T w2 hB2 hts).mono ?_
   rintro e w3 ⟨rfl, hB3, hb4⟩
   have hb5 := hb3.trans hb4
   clear hB2 hb3 hb4
   go_wp2_with fail
   go_roundw
   case rel => exact ⟨k + 1, by omega, by go_num, by rw [HS.out]; exact hB3, hb5⟩
   case measure => simp [intOf]; omega
  ·have hkl : k = h.length := by omega
   subst hkl
   rw [List.take_length] at hB
   go_wp2_with fail
   refine (bld_string _ _ _ _ hB).mono ?_
   rintro e w3 ⟨rfl, hb4⟩
   have hb5 := hb.trans hb4
   go_wp2_with fail
   go_ret
   exact ⟨rfl, hb5⟩
end

section
open Go.RowKit
def zT (t : TxnV) : TxnV := ⟨t.s, t.b, t.c, .slice none 0 0, t.l⟩
theorem zT_of {c h : List TxnV} (e : c.map txE = h.map txE) : c.map zT = h.map zT := by
 have k : ∀ l : List TxnV, l.map zT = (l.map txE).map fun q => (⟨q.1, q.2.1, q.2.2.1, .slice none 0 0, q.2.2.2⟩ : TxnV) := fun l => by rw [List.map_map]; rfl
 rw [k, k, e]
theorem opsN_z (h : List TxnV) : opsN (h.map zT) = opsN h := by unfold opsN; rw [List.map_map]; rfl
theorem partsB_z (h : List TxnV) : partsB (h.map zT) = partsB h := by unfold partsB; rw [List.all_map]; rfl
theorem wvH_z (h : List TxnV) : wvH (h.map zT) = wvH h := by unfold wvH; rw [List.flatMap_map]; rfl
theorem opsAt_z (h : List TxnV) (k : Nat) : opsAt (h.map zT) k = opsAt h k := by unfold opsAt; rw [List.getElem?_map]; cases h[k]? <;> rfl
theorem wrTo_z (h : List TxnV) (k : Nat) : wrTo (h.map zT) k = wrTo h k := by
 unfold wrTo
 congr 1
 funext F j
 rw [opsAt_z]
theorem valuesB_z (h : List TxnV) : valuesB (h.map zT) = valuesB h := by
 unfold valuesB okW
 rw [wvH_z, List.all_map, List.length_map, wrTo_z]; rfl
theorem stampsB_z (h : List TxnV) : stampsB (h.map zT) = stampsB h := by
 have : stL (h.map zT) = stL h := by unfold stL; rw [List.flatMap_map]; rfl
 unfold stampsB; rw [this]
theorem endF_z (h : List TxnV) : endF (h.map zT) = endF h := by
 funext x
 unfold endF
 rw [List.filter_map, List.getLast?_map, Option.map_map]; rfl
theorem sesOk_z (h : List TxnV) (k : Nat) : sesOk (h.map zT) k = sesOk h k := by
 unfold sesOk
 rw [List.getElem?_map, ← List.map_take, endF_z]
 cases h[k]? <;> rfl
theorem sesB_z (h : List TxnV) : sesB (h.map zT) = sesB h := by
 unfold sesB
 rw [List.length_map]
 congr 1
 funext k
 exact sesOk_z h k
theorem checkI_z (h : List TxnV) : checkI (h.map zT) = checkI h := by
 unfold checkI rightB
 rw [List.length_map, opsN_z, partsB_z, valuesB_z, stampsB_z, sesB_z]
theorem checkI_txE {c h : List TxnV} (e : c.map txE = h.map txE) : checkI c = checkI h := by
 rw [← checkI_z c, ← checkI_z h, zT_of e]
theorem checkI_right {h : List TxnV} (e : checkI h = 0) : h.length ≤ 64 ∧ opsN h ≤ 1024 ∧ ∀ t ∈ h, mayT t.s t.b t.c t.l = true := by
 unfold checkI at e
 split at e
 ·cases e
 ·split at e
  ·rename_i h1 h2
   refine ⟨by omega, by omega, ?_⟩
   unfold rightB at h2
   simp only [Bool.and_eq_true] at h2
   exact List.all_eq_true.1 h2.1
  ·cases e
end

section
open Go.RowKit
theorem mayO_inR (o : OpV) (h : mayO o = true) : inRk o.key = true ∧ inRk o.val = true := by
 obtain ⟨h1, h2, _⟩ := (mayO_iff o).1 h
 unfold inRk
 simp; omega
theorem parse_text (wr : Bool) (key val : Int) : parseR (textB wr key val) = if mayO ⟨wr, key, val⟩ then (true, ⟨wr, key, val⟩) else (false, opZ) := by
 have hc : ∀ x ∈ (if wr then (⟨#[119]⟩ : ByteArray) else ⟨#[114]⟩).data.toList, x ≠ 32 := by cases wr <;> decide
 obtain ⟨e1, e2, e3⟩ := words_join (if wr then ⟨#[119]⟩ else ⟨#[114]⟩) [key, val] hc
 change wordsOK (textB wr key val) 2 = _ at e1
 change headB (textB wr key val) = _ at e2
 change _ → numsOf (textB wr key val) = _ at e3
 cases ha : allR [key, val]
 ·rw [ha] at e1
  rw [parseR_no e1]
  have hm : mayO ⟨wr, key, val⟩ = false := by
   cases hm : mayO ⟨wr, key, val⟩
   ·rfl
   ·obtain ⟨h1, h2⟩ := mayO_inR _ hm
    have : allR [key, val] = true := by unfold allR; simp at h1 h2; simp [h1, h2]
    rw [this] at ha; cases ha
  rw [hm]; rfl
 ·rw [ha] at e1
  rw [parseR_at e1 (e3 ha)]
  have i1 : isW (textB wr key val) = wr := by unfold isW; rw [e2]; cases wr <;> rfl
  have i2 : (isW (textB wr key val) || isRd (textB wr key val)) = true := by unfold isW isRd; rw [e2]; cases wr <;> rfl
  rw [i2, i1, Bool.true_and]
end

section
open Go.RowKit
def textO (o : OpV) : ByteArray := textB o.wr o.key o.val
theorem dec_ten (u : Nat) : ∀ x ∈ Lib.decDigits u, x ≠ 10 := by
 intro x hx e
 have := (decm_all u).1 x hx
 subst e
 exact absurd this (by decide)
theorem itoa_no10 (n : Int) : ∀ x ∈ Lib.itoa n, x ≠ 10 := by
 intro x hx
 unfold Lib.itoa at hx
 split at hx
 ·rcases List.mem_cons.1 hx with rfl | hx
  ·decide
  ·exact dec_ten _ x hx
 ·exact dec_ten _ x hx
theorem textO_ten (o : OpV) : ∀ x ∈ (textO o).data.toList, x ≠ 10 := by
 intro x hx
 unfold textO textB joinB joinTo at hx
 simp only [List.flatMap_cons, List.flatMap_nil, List.append_nil, List.mem_append, List.mem_cons] at hx
 rcases hx with hx | (rfl | hx) | (rfl | hx)
 ·cases hw : o.wr
  ·rw [hw] at hx; simp at hx; subst hx; decide
  ·rw [hw] at hx; simp at hx; subst hx; decide
 ·decide
 ·exact itoa_no10 _ x hx
 ·decide
 ·exact itoa_no10 _ x hx
theorem parse_textO (o : OpV) (h : mayO o = true) : parseR (textO o) = (true, o) := by
 unfold textO
 rw [parse_text, h]; rfl
end

section
open Go.RowKit
def headT (a b c : Int) : ByteArray := joinB ⟨#[116, 120, 110]⟩ [a, b, c]
def txnLines (t : TxnV) : List ByteArray := headT t.s t.b t.c :: t.l.map textO
def allLines (h : List TxnV) : List ByteArray := h.flatMap txnLines
theorem headT_ten (a b c : Int) : ∀ x ∈ (headT a b c).data.toList, x ≠ 10 := by
 intro x hx
 unfold headT joinB joinTo at hx
 simp only [List.flatMap_cons, List.flatMap_nil, List.append_nil, List.mem_append, List.mem_cons] at hx
 rcases hx with hx | (rfl | hx) | (rfl | hx) | (rfl | hx)
 ·simp at hx; rcases hx with rfl | rfl | rfl <;> decide
 ·decide
 ·exact itoa_no10 _ x hx
 ·decide
 ·exact itoa_no10 _ x hx
 ·decide
 ·exact itoa_no10 _ x hx
theorem allLines_ten (h : List TxnV) : ∀ s ∈ allLines h, ∀ x ∈ s.data.toList, x ≠ 10 := by
 intro s hs
 unfold allLines txnLines at hs
 obtain ⟨t, _, hs⟩ := List.mem_flatMap.1 hs
 rcases List.mem_cons.1 hs with rfl | hs
 ·exact headT_ten _ _ _
 ·obtain ⟨o, _, rfl⟩ := List.mem_map.1 hs
  exact textO_ten o
theorem cut_lines : ∀ (L : List ByteArray), (∀ s ∈ L, ∀ x ∈ s.data.toList, x ≠ 10) → cutL 10 (L.flatMap fun s => s.data.toList ++ [10]) = L.map (fun s => s.data.toList) ++ [[]]
 | [], _ => rfl
 | s :: L, h => by
  rw [List.flatMap_cons, List.append_assoc, List.singleton_append, cutL_app _ (h s List.mem_cons_self), cut_lines L (fun u hu => h u (List.mem_cons_of_mem _ hu))]; rfl
theorem lines_of (L : List ByteArray) (h : ∀ s ∈ L, ∀ x ∈ s.data.toList, x ≠ 10) : linesB ⟨(L.flatMap fun s => s.data.toList ++ [10]).toArray⟩ = L ∧ endedB ⟨(L.flatMap fun s => s.data.toList ++ [10]).toArray⟩ = true := by
 have e : cutB 10 ⟨(L.flatMap fun s => s.data.toList ++ [10]).toArray⟩ = L ++ [⟨#[]⟩] := by
  unfold cutB
  have e : (⟨(L.flatMap fun s => s.data.toList ++ [10]).toArray⟩ : ByteArray).data.toList = L.flatMap fun s => s.data.toList ++ [10] := by simp
  rw [e, cut_lines L h, List.map_append, List.map_map]
  congr 1
  conv => rhs; rw [← List.map_id L]
  rfl
 unfold linesB endedB
 rw [e]
 refine ⟨by simp, ?_⟩
 rw [List.getLastD_eq_getLast?]
 simp [ByteArray.toList_eq]
theorem prTxt_lines (h : List TxnV) : prTxt h = (allLines h).flatMap fun s => s.data.toList ++ [10] := by
 unfold prTxt allLines
 rw [List.flatMap_assoc]
 congr 1
 funext t
 unfold txnLines
 rw [List.flatMap_cons, List.flatMap_map]
 rfl
theorem pr_lines (h : List TxnV) : linesB ⟨(prTxt h).toArray⟩ = allLines h ∧ endedB ⟨(prTxt h).toArray⟩ = true := by
 rw [prTxt_lines]; exact lines_of _ (allLines_ten h)
theorem begR_head {a b c : Int} (h : allR [a, b, c] = true) : begR (headT a b c) = (true, a, b, c) := by
 obtain ⟨e1, e2, e3⟩ := words_join ⟨#[116, 120, 110]⟩ [a, b, c] (by decide)
 refine begR_at ?_ (e3 h)
 unfold headT isT
 rw [e2]
 have e1' : wordsOK (joinB ⟨#[116, 120, 110]⟩ [a, b, c]) 3 = allR [a, b, c] := e1
 rw [e1', h]; rfl
theorem begR_textO (o : OpV) : begR (textO o) = (false, 0, 0, 0) := by
 have hc : ∀ x ∈ (if o.wr then (⟨#[119]⟩ : ByteArray) else ⟨#[114]⟩).data.toList, x ≠ 32 := by cases o.wr <;> decide
 obtain ⟨_, e2, _⟩ := words_join (if o.wr then ⟨#[119]⟩ else ⟨#[114]⟩) [o.key, o.val] hc
 refine begR_no ?_
 have : isT (textO o) = false := by
  unfold isT textO textB
  rw [e2]
  cases o.wr <;> rfl
 rw [this, Bool.and_false]
def runF (H : List (Int × Int × Int × List OpV)) (L : List ByteArray) : Option (List (Int × Int × Int × List OpV)) := L.foldl (fun o s => o.bind fun H => stepL H s) (some H)
theorem runF_cons {H H' : List (Int × Int × Int × List OpV)} {s : ByteArray} {L : List ByteArray} (h : stepL H s = some H') : runF H (s :: L) = runF H' L := by
 unfold runF; rw [List.foldl_cons]; simp only [Option.bind_some]; rw [h]
theorem runF_app {H H' : List (Int × Int × Int × List OpV)} {L M : List ByteArray} (h : runF H L = some H') : runF H (L ++ M) = runF H' M := by
 unfold runF at *; rw [List.foldl_append, h]
theorem runF_ops (H : List (Int × Int × Int × List OpV)) (a b c : Int) : ∀ (l m : List OpV), (∀ o ∈ m, mayO o = true) → runF (H ++ [(a, b, c, l)]) (m.map textO) = some (H ++ [(a, b, c, l ++ m)])
 | l, [], _ => by simp [runF]
 | l, o :: m, h => by
  rw [List.map_cons, runF_cons (stepL_op (begR_textO o) (parse_textO o (h o List.mem_cons_self)) _)]
  rw [runF_ops H a b c (l ++ [o]) m (fun x hx => h x (List.mem_cons_of_mem _ hx))]
  simp
theorem runF_txn (H : List (Int × Int × Int × List OpV)) (t : TxnV) (h : mayT t.s t.b t.c t.l = true) : runF H (txnLines t) = some (H ++ [txE t]) := by
 unfold mayT at h
 simp only [Bool.and_eq_true, decide_eq_true_eq] at h
 obtain ⟨⟨h1, h2, h3, h4, h5, _, _⟩, h6⟩ := h
 have hr : allR [t.s, t.b, t.c] = true := by
  unfold allR inRk
  simp; omega
 unfold txnLines
 rw [runF_cons (stepL_beg (begR_head hr)), runF_ops H t.s t.b t.c [] t.l (fun o ho => List.all_eq_true.1 h6 o ho)]
 rfl
theorem runF_all : ∀ (h : List TxnV) (H : List (Int × Int × Int × List OpV)), (∀ t ∈ h, mayT t.s t.b t.c t.l = true) → runF H (allLines h) = some (H ++ h.map txE)
 | [], H, _ => by simp [runF, allLines]
 | t :: h, H, hh => by
  unfold allLines
  rw [List.flatMap_cons, runF_app (runF_txn H t (hh t List.mem_cons_self))]
  have := runF_all h (H ++ [txE t]) (fun u hu => hh u (List.mem_cons_of_mem _ hu))
  unfold allLines at this
  rw [this]; simp
theorem runL_pr {h : List TxnV} (hh : ∀ t ∈ h, mayT t.s t.b t.c t.l = true) : runL (linesB ⟨(prTxt h).toArray⟩) = some (h.map txE) := by
 rw [(pr_lines h).1]
 have := runF_all h [] hh
 simpa [runF, runL] using this
end

section
open Go.RowKit
theorem runL_stop {L : List ByteArray} {k : Nat} (h : runL (L.take k) = none) : runL L = none := by
 have : L = L.take k ++ L.drop k := (List.take_append_drop k L).symm
 rw [this]
 unfold runL at *
 rw [List.foldl_append, h]
 generalize L.drop k = M
 induction M with
 | nil => rfl
 | cons s M ih => rw [List.foldl_cons]; exact ih
theorem prTxt_len2 : ∀ (h : List TxnV), (∀ t ∈ h, t.ok) → (prTxt h).length ≤ 80 * h.length + 46 * opsN h
 | [], _ => by simp [prTxt]
 | t :: h, hh => by
  have ih := prTxt_len2 h (fun u hu => hh u (List.mem_cons_of_mem _ hu))
  obtain ⟨⟨h1, h2, h3⟩, h4⟩ := hh t List.mem_cons_self
  have a1 := headTxt_len t.s t.b t.c h1 h2 h3
  have a2 := opsTxt_len t.l h4
  have a3 : opsN (t :: h) = t.l.length + opsN h := by unfold opsN; simp
  rw [a3]
  unfold prTxt at *
  rw [List.flatMap_cons, List.length_append, List.length_append, List.length_cons]
  omega
end

section
open Go.RowKit
theorem sAt_z (h : List TxnV) (k : Nat) : sAt (h.map zT) k = sAt h k := by unfold sAt; rw [List.getElem?_map]; cases h[k]? <;> rfl
theorem bAt_z (h : List TxnV) (k : Nat) : bAt (h.map zT) k = bAt h k := by unfold bAt; rw [List.getElem?_map]; cases h[k]? <;> rfl
theorem cAt_z (h : List TxnV) (k : Nat) : cAt (h.map zT) k = cAt h k := by unfold cAt; rw [List.getElem?_map]; cases h[k]? <;> rfl
theorem sesM_z (h : List TxnV) : sesM (h.map zT) = sesM h := by
 have : sesP (h.map zT) = sesP h := by funext a b; unfold sesP; rw [sAt_z, sAt_z]
 unfold sesM; rw [this, List.length_map]
theorem timM_z (h : List TxnV) : timM (h.map zT) = timM h := by
 have : timP (h.map zT) = timP h := by funext a b; unfold timP; rw [cAt_z, bAt_z]
 unfold timM; rw [this, List.length_map]
theorem readsOf_z (h : List TxnV) (i : Nat) : readsOf (h.map zT) i = readsOf h i := by unfold readsOf; rw [wrTo_z, opsAt_z, List.length_map]
theorem froM_z (h : List TxnV) : froM (h.map zT) = froM h := by
 have : froP (h.map zT) = froP h := by funext a b; unfold froP; rw [readsOf_z]
 unfold froM; rw [this, List.length_map]
theorem soundTo_z (h : List TxnV) (k : Nat) : soundTo (h.map zT) k = soundTo h k := by
 have : soundOf (h.map zT) = soundOf h := by funext i; unfold soundOf; rw [wrTo_z, opsAt_z, List.length_map]
 unfold soundTo; rw [this]
theorem rivN_z (h : List TxnV) (i : Nat) : rivN (h.map zT) i = rivN h i := by
 have : rivB (h.map zT) i = rivB h i := by
  funext k
  unfold rivB rivR wrsR
  rw [opsAt_z, opsAt_z, List.length_map]
 unfold rivN; rw [this]
theorem txE_len {c h : List TxnV} (e : c.map txE = h.map txE) : c.length = h.length := by simpa using congrArg List.length e
end

section
open Go.RowKit
theorem wrtN_z (h : List TxnV) (y : Int) : wrtN (h.map zT) y = wrtN h y := by
 unfold wrtN; congr 1; funext j; rw [opsAt_z, List.length_map]
theorem wAllN_z (h : List TxnV) : wAllN (h.map zT) = wAllN h := by
 unfold wAllN; congr 1; funext j; rw [opsAt_z, List.length_map]
theorem baseN_z (h : List TxnV) (C i : Nat) : baseN (h.map zT) C i = baseN h C i := by
 unfold baseN baseM baseQ; rw [sesM_z, timM_z, froM_z]
theorem plSee_z (h : List TxnV) (C : Nat) : ∀ (r : List Nat) (k : Nat), plSee (h.map zT) C r k = plSee h C r k
 | [], _ => rfl
 | i :: r, k => by
  have ih : plSee (h.map zT) C r = plSee h C r := funext fun k => plSee_z h C r k
  unfold plSee; rw [baseN_z, rivN_z, ih]
theorem nextN_z (h : List TxnV) (C : Nat) (r : List Nat) (i : Nat) : nextN (h.map zT) C r i = nextN h C r i := by
 have ih : plSee (h.map zT) C r = plSee h C r := funext fun k => plSee_z h C r k
 unfold nextN; rw [baseN_z, rivN_z, ih]
theorem readsP_z (h : List TxnV) (aF : Nat → Nat) (seen i : Nat) : readsP (h.map zT) aF seen i = readsP h aF seen i := by
 have : readP (h.map zT) aF seen = readP h aF seen := by funext r; unfold readP readW; rw [wrtN_z]
 unfold readsP; rw [readsOf_z, this]
theorem tryP_z (h : List TxnV) (C : Nat) (r : List Nat) (i : Nat) : tryP (h.map zT) C r i = tryP h C r i := by
 unfold tryP; rw [List.length_map, baseN_z, readsP_z, nextN_z]
theorem wrOf_z (h : List TxnV) (r : List Nat) : wrOf (h.map zT) r = wrOf h r := by unfold wrOf; rw [wAllN_z]
theorem aheadC_z (h : List TxnV) : ∀ (r : List Nat) (k : Nat), aheadC (h.map zT) r k = aheadC h r k
 | [], _ => rfl
 | i :: r, k => by unfold aheadC; rw [wrOf_z, aheadC_z h r k]
theorem keyB_z (h : List TxnV) (C : Nat) (r : List Nat) : keyB (h.map zT) C r = keyB h C r := by
 have : aheadC (h.map zT) r = aheadC h r := funext fun k => aheadC_z h r k
 unfold keyB keyL; rw [wrOf_z, wAllN_z, this]
theorem srch_z (h : List TxnV) (C n : Nat) : ∀ (k : Nat), srch (h.map zT) C n k = srch h C n k
 | 0 => rfl
 | k + 1 => by
  funext r M
  have ih := srch_z h C n k
  have st : srchStep (srch (h.map zT) C n k) (h.map zT) C r = srchStep (srch h C n k) h C r := by
   funext q j; unfold srchStep; rw [ih, tryP_z]
  unfold srch
  rw [keyB_z]
  unfold srchEnd srchTo
  rw [st, keyB_z]
theorem decN_z (h : List TxnV) (lv : Int) : decN (h.map zT) lv = decN h lv := by
 unfold decN; rw [soundTo_z, srch_z, List.length_map]
theorem decW_z (h : List TxnV) (lv : Int) : decW (h.map zT) lv = decW h lv := by
 have : ∀ C r, seesR (h.map zT) C r = seesR h C r := fun C r => by funext j k; unfold seesR; rw [plSee_z]
 unfold decW; rw [decN_z]; simp only [this, List.length_map]
section
variable {c h : List TxnV}
theorem dec_txE (e : c.map txE = h.map txE) : decN c = decN h := funext fun lv => by rw [← decN_z c, ← decN_z h, zT_of e]
theorem decW_txE (e : c.map txE = h.map txE) : decW c = decW h := funext fun lv => by rw [← decW_z c, ← decW_z h, zT_of e]
theorem acc_txE (e : c.map txE = h.map txE) : accV c = accV h := by unfold accV; rw [decW_txE e]
end
end

section
open Go.RowKit
abbrev ETx := Int × Int × Int × List OpV
end

end Go.Proofs.YtnhkjehfmbfmmaaGreatDoor
