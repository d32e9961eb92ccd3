/- Walks and plain facts that the proof of the statement CheckFuel uses, joined: LatA LatB LatC TblN LatD LatE LatH FueD ChkC ChkD VecI ChkE. Conditions: each theorem's own. -/
import Derived.Deep.CutRange
import Derived.Deep.AppendLies
import Derived.Deep.RegionHeld
import Derived.Test.YtnhkjehfmbfmmaaGreatDoorPCheckFuel0
import Derived.Test.YtnhkjehfmbfmmaaGreatDoorPCheckFuel2
import Derived.Test.YtnhkjehfmbfmmaaGreatDoorPCheckFuel3
import Derived.Test.YtnhkjehfmbfmmaaGreatDoorPCheckFuel5
import Derived.Test.YtnhkjehfmbfmmaaGreatDoorPCheckFuel7
import Derived.Test.YtnhkjehfmbfmmaaGreatDoorPCheckFuel8
namespace Go.Proofs.YtnhkjehfmbfmmaaGreatDoor
set_option maxHeartbeats 32000000
set_option maxRecDepth 100000
set_option linter.unusedSimpArgs false
set_option linter.unusedVariables false
open Lib (hid)
section
open Go.RowKit
def bydTo (r : Nat → Bool) (b : Int) (k : Nat) : Bool := (List.range k).any fun a => !r a && (decide (b ≠ (a : Int)) && impB b (a : Int))
def byd (r : Nat → Bool) (b : Int) : Bool := bydTo r b 12
theorem bydTo_succ (r : Nat → Bool) (b : Int) (k : Nat) : bydTo r b (k + 1) = (bydTo r b k || (!r k && (decide (b ≠ (k : Int)) && impB b (k : Int)))) := by
 unfold bydTo; rw [List.range_succ, List.any_append]; simp
theorem bydTo_hit {r : Nat → Bool} {b : Int} {k : Nat} (hk : k < 12) (h : (!r k && (decide (b ≠ (k : Int)) && impB b (k : Int))) = true) : byd r b = true := List.any_eq_true.2 ⟨k, List.mem_range.2 hk, h⟩
theorem lbeyond_any (r : Nat → Bool) (b : Int) (w : World) (hK : Kinds w) : Calls Tryz.prog 120 #[.agg (rowB r), .int .i64 b] w fun e w' => e = .returned (.bool (byd r b)) ∧ Below w.heap.size w w' := by
 have HK := hid (fun wx (hb : Below w.heap.size w wx) => hK.below hb)
 clear hK
 go_enter Tryz.func120, Tryz.ntmps120
 go_wp2_with fail
 go_loopw [6] (fun i wr => ∃ k : Nat, k ≤ 12 ∧ i = .int .i64 k ∧ bydTo r b k = false ∧ BRow wr w.heap.size r ∧ Below w.heap.size w wr) (fun i _ => 12 - (intOf i).toNat)
 case atStart => exact ⟨0, by omega, rfl, rfl, BRow.made w r rfl rfl, (Below.refl w.heap.size w).alloc (Nat.le_refl _) _⟩
 case round =>
  obtain ⟨k, hk, rfl, hno, h0, hb⟩ := hrel
  have HNO := hid hno
  clear hno
  by_cases hlt : k < 12
  ·have hki : (k : Int) < 12 := by omega
   have hc := h0.cell hlt
   have HS := hid (bydTo_succ r b k)
   have HH := hid (fun h => bydTo_hit (r := r) (b := b) hlt h)
   have CI := hid (limp_any b (k : Int) wr (HK.out _ hb))
   rw [HNO.out] at HS
   cases hr : r k
   rotate_left
   ·rw [hr] at hc HS
    clear hr HH CI
    have HM : Hid (bydTo r b (k + 1) = false) := hid (by rw [HS.out]; rfl)
    go_wp2_with fail
    go_roundw
    case rel => exact ⟨k + 1, by omega, by go_num, HM.out, h0, hb⟩
    case measure => simp [intOf]; omega
   ·rw [hr] at hc HS HH
    clear hr
    by_cases hkb : b = (k : Int)
    ·have HM : Hid (bydTo r b (k + 1) = false) := hid (by rw [HS.out, decide_eq_false (by simpa using hkb)]; rfl)
     clear HH CI HS HNO
     subst hkb
     go_wp2_with fail
     go_roundw
     case rel => exact ⟨k + 1, by omega, by go_num, HM.out, h0, hb⟩
     case measure => simp [intOf]; omega
    ·rw [decide_eq_true (show b ≠ (k : Int) from hkb)] at HS HH
     cases hm : impB b (k : Int)
     ·rw [hm] at CI HS
      have HM : Hid (bydTo r b (k + 1) = false) := hid (by rw [HS.out]; rfl)
      clear hm HH HS
      go_wp2_with (go_at_call 117; refine (CI.out).mono ?_; rintro e w' ⟨rfl, rfl⟩)
      go_roundw
      case rel => exact ⟨k + 1, by omega, by go_num, HM.out, h0, hb⟩
      case measure => simp [intOf]; omega
     ·rw [hm] at CI HH
      have HM : Hid (true = byd r b) := hid (HH.out rfl).symm
      clear hm HH HS
      go_wp2_with (go_at_call 117; refine (CI.out).mono ?_; rintro e w' ⟨rfl, rfl⟩)
      go_ret
      exact ⟨lret_b HM.out, hb⟩
  ·have hkn : k = 12 := by omega
   subst hkn
   have HM : Hid (false = byd r b) := hid HNO.out.symm
   go_wp2_with fail
   go_ret
   exact ⟨lret_b HM.out, hb⟩
def wkTo (r : Nat → Bool) (k : Nat) : List Nat := (List.range k).filter fun b => !r b && !byd r (b : Int)
theorem wkTo_succ (r : Nat → Bool) (k : Nat) : wkTo r (k + 1) = wkTo r k ++ (if !r k && !byd r (k : Int) then [k] else []) := by
 unfold wkTo
 rw [List.range_succ, List.filter_append]
 congr 1
 cases h : !r k && !byd r (k : Int) <;> simp [h]
theorem wkTo_len (r : Nat → Bool) (k : Nat) : (wkTo r k).length ≤ k := by
 unfold wkTo
 have := List.length_filter_le (fun b => !r b && !byd r (b : Int)) (List.range k)
 simpa using this
theorem lweakest_any (r : Nat → Bool) (w : World) (hK : Kinds w) : Calls Tryz.prog 74 #[.agg (rowB r)] w fun e w' => ∃ v, e = .returned v ∧ w'.ownsRow w.heap.size 74 1 v (wkTo r 12).length (natV (wkTo r 12)) ∧ Below w.heap.size w w' := by
 obtain ⟨i0, hi, hz0, hz1, hz2⟩ := info_parts infoLv
 have HK := hid (fun wx (hb : Below w.heap.size w wx) => hK.below hb)
 clear hK
 go_enter Tryz.func74, Tryz.ntmps74
 go_wp2_with fail
 go_loopw [3, 5] (fun v i wr => ∃ k : Nat, k ≤ 12 ∧ i = .int .i64 k ∧ wr.ownsRow (w.heap.size + 1) 74 1 v (wkTo r k).length (natV (wkTo r k)) ∧ BRow wr w.heap.size r ∧ Below w.heap.size w wr) (fun _ i _ => 12 - (intOf i).toNat)
 case atStart => exact ⟨0, by omega, rfl, World.ownsRow_nil _ _ _ _, BRow.made w r rfl rfl, (Below.refl w.heap.size w).alloc (Nat.le_refl _) _⟩
 case round =>
  obtain ⟨k, hk, rfl, hown, h0, hb⟩ := hrel
  have hll := wkTo_len r k
  by_cases hlt : k < 12
  ·have hki : (k : Int) < 12 := by omega
   have hc := h0.cell hlt
   have HS := hid (wkTo_succ r k)
   have CI := hid (lbeyond_any r (k : Int) wr (HK.out _ hb))
   have H2 := hid (fun wx (hx : Below wr.heap.size wr wx) => h0.below hx h0.lt)
   have HB := hid (fun wx (hx : Below wr.heap.size wr wx) => hb.trans (hx.mono hb.size))
   have HO := hid (fun wx (hx : Below wr.heap.size wr wx) => owns_below hown hx)
   have hsz := h0.lt
   cases hr : r k
   rotate_left
   ·rw [hr] at hc HS
    have HM : Hid (wkTo r (k + 1) = wkTo r k) := hid (by rw [HS.out]; simp)
    clear hr HS CI
    go_wp2_with fail
    go_roundw
    case rel => exact ⟨k + 1, by omega, by go_num, by rw [HM.out]; exact hown, h0, hb⟩
    case measure => simp [intOf]; omega
   ·rw [hr] at hc HS
    clear hr
    cases hm : byd r (k : Int)
    ·rw [hm] at CI HS
     have HM : Hid (wkTo r (k + 1) = wkTo r k ++ [k]) := hid (by rw [HS.out]; simp)
     clear hm HS
     go_wp2_with (with_reducible refine wpList_load_rowB_g h0 _ rfl (by kernel_rfl) rfl ?_)
     refine (CI.out).mono ?_
     rintro e w6 ⟨rfl, hb6⟩
     have h6 := H2.out _ hb6
     have hbw := HB.out _ hb6
     have hown6 := HO.out _ hb6
     have hs6 := h6.lt
     clear CI hown h0 hb hb6 hsz H2 HB HO
     go_wp2_with (at_builtin; refine wpList_append_own _ rfl _ _ 54 rfl (w.heap.size + 1) 74 i0 (.int .i64 0) 1 8 Tryz.underlying54 hi hz0 hz1 hz2 rfl (by decide) _ _ _ rfl (hown6.alloc _) ⟨_, 0, none⟩ 1 1 [.int .i64 (k : Int)] rfl rfl ?c1 ?c2 ?c3 ?c4 ?c5 ?_)
     case c1 => exact cell_one_new _ _ _
     case c2 => intro u hu; simp at hu; subst hu; rfl
     case c3 => unfold maxLen; omega
     case c4 => omega
     case c5 => simp; omega
     ·intro v' w7 hown' hgrow _
      have hb' := below_app0 hbw (Nat.le_refl _) hown6 (by omega) hgrow
      have h7 := (h6.alloc _).kept hgrow (fun e => by have := (hown6.lt _ e.symm).1; omega)
      clear hown6 h6 hbw hgrow
      go_wp2_with fail
      go_roundw
      case rel =>
       refine ⟨k + 1, by omega, by go_num, ?_, h7, hb'⟩
       rw [HM.out, natV_snoc, List.length_append]
       exact hown'
      case measure => simp [intOf]; omega
    ·rw [hm] at CI HS
     have HM : Hid (wkTo r (k + 1) = wkTo r k) := hid (by rw [HS.out]; simp)
     clear hm HS
     go_wp2_with (first
      | (with_reducible refine wpList_load_rowB_g h0 _ rfl (by kernel_rfl) rfl ?_)
      | (go_at_call 120; refine (CI.out).mono ?_; rintro e w' ⟨rfl, hbb⟩))
     go_roundw
     case rel => exact ⟨k + 1, by omega, by go_num, by rw [HM.out]; exact HO.out _ hbb, H2.out _ hbb, HB.out _ hbb⟩
     case measure => simp [intOf]; omega
  ·have hkn : k = 12 := by omega
   subst hkn
   go_wp2_with fail
   go_ret
   exact ⟨_, rfl, own_base0 hown (by omega), hb⟩
end

section
open Go.RowKit
theorem yields_load_rowB {ops : Array Oper} {S : World → Prop} {o : Oper} {a : Act} {g : Nat} {r : Nat → Bool} (hw : Region.wanted o (yielded ops a.tmps) = true) (x : Operand) (ho : o.op = .load 38 x)
  (hx : a.eval x = .pointer (some ⟨g, 0, none⟩)) (hS : ∀ w, S w → BRow w g r) : YieldsIf Tryz.prog ops S o (.agg (rowB r)) a :=
 .inl ⟨hw, fun w hw' => by
  unfold execOp
  simp only [ho, hx, Instr.loadAt, Instr.sureAddr, Sem.run_bind, Sem.run_pure, Result.andThen_ok, run_loadVar_row w g _ _ _ _ _ (hS w hw') Tryz.underlying38 rfl (infoRow' _)]⟩
theorem takeR {P : Program} {ops : Array Oper} {Q : Exit → Act → World → Prop} {md : Region.Mode} {S : World → Prop} (d : Option Tmp) {i : Nat} {oi : Oper} {v : Value} {fuel : Nat} {listed : Array Bool} {a : Act} {w : World} (hi : ops[i]? = some oi) (hd : oi.dst = d)
  (hs : Region.noSelect ops = true) (hf : Region.free md ops listed i = true) (hr : (Region.ready md ops listed).contains i = true)
  (hQ : ∀ c a w, Q (.panic c) (a.put oi.dst v) w → Q (.panic c) a w) (hy : YieldsIf P ops S oi v a) (hS : S w)
  (h : wpAnyH P md ops Q S fuel (listed.setIfInBounds i true) (a.put d v) w) : wpAnyH P md ops Q S (fuel + 1) listed a w := by
 subst hd; exact wpAnyH_take hi hs hf hr hQ hy hS h
end

section
open Go.RowKit
theorem infoPos {v1 v2 : Value} : (Tryz.prog.info? 56).map (·.size) = some (#[v1, v2] : Array Value).size := (show (Tryz.prog.info? 56).map (·.size) = some 2 by kernel_rfl)
theorem own_one {w : World} {b e s n : Nat} {v : Value} {xs : List Value} (h : w.ownsRow b e s v n xs) : v.oneCell' = true := by
 rcases h.2 with ⟨rfl, _⟩ | ⟨g, cap, cur, rfl, _⟩ <;> rfl
theorem pos_form {w : World} {b e s n : Nat} {v : Value} {xs : List Value} (h : w.ownsRow b e s v n xs) : ∃ ao m c, v = .slice ao m c := by
 rcases h.2 with ⟨rfl, _⟩ | ⟨g, cap, cur, rfl, _⟩
 ·exact ⟨_, _, _, rfl⟩
 ·exact ⟨_, _, _, rfl⟩
theorem pos_one {w w' : World} {b e s n b' e' s' n' : Nat} {v1 v2 : Value} {xs ys : List Value} (h1 : w.ownsRow b e s v1 n xs) (h2 : w'.ownsRow b' e' s' v2 n' ys) : (#[v1, v2] : Array Value).all (·.oneCell') = true := by
 simp [own_one h1, own_one h2]
theorem owns_setRow {w : World} {g base e s n : Nat} {v : Value} {xs : List Value} (h : w.ownsRow base e s v n xs) (hg : g < base) (cs : Array Value) : (w.setRow g cs).ownsRow base e s v n xs := by
 obtain ⟨h1, h2⟩ := h
 refine ⟨h1, ?_⟩
 rcases h2 with h2 | ⟨g', cap, cur, e1, e2, hb, r⟩
 ·exact .inl h2
 ·exact .inr ⟨g', cap, cur, e1, e2, by rw [setRow_other _ _ _ _ (by omega)]; exact hb, r⟩
theorem BRow.otherRow {w : World} {g g' : Nat} {r : Nat → Bool} (h : BRow w g r) (hg : g ≠ g') (cs : Array Value) : BRow (w.setRow g' cs) g r := by
 unfold BRow at *; rw [setRow_other _ _ _ _ hg]; exact h
structure PosO (w : World) (b : Nat) (v1 v2 : Value) (l m : List Nat) : Prop where
 o1 : w.ownsRow b 74 1 v1 l.length (natV l)
 o2 : w.ownsRow b 74 1 v2 m.length (natV m)
theorem latof_any (r : Nat → Bool) (w : World) (hK : Kinds w) : Calls Tryz.prog 31 #[.agg (rowB r)] w fun e w' => ∃ v1 v2, e = .returned (.agg #[v1, v2]) ∧ PosO w' w.heap.size v1 v2 (strTo r 12) (wkTo r 12) ∧ Below w.heap.size w w' := by
 have hR := (BRow.made w r rfl rfl).alloc (.cells #[.slice none 0 0, .slice none 0 0] 56)
 have hP := heap_alloc_new (w.alloc (.cells (rowB r) 38)) (.cells #[.slice none 0 0, .slice none 0 0] 56)
 have hb := ((Below.refl w.heap.size w).alloc (Nat.le_refl _) (.cells (rowB r) 38)).alloc (by simp) (.cells #[.slice none 0 0, .slice none 0 0] 56)
 have hsz : (w.alloc (.cells (rowB r) 38)).heap.size = w.heap.size + 1 := by simp
 rw [hsz] at hP
 have hs2 : ((w.alloc (.cells (rowB r) 38)).alloc (.cells #[.slice none 0 0, .slice none 0 0] 56)).heap.size = w.heap.size + 2 := by simp
 have HK := hid (fun wx (hx : Below w.heap.size w wx) => hK.below hx)
 clear hK hsz
 go_enter Tryz.func31, Tryz.ntmps31
 go_upto_region 1 with fail
 generalize (w.alloc (.cells (rowB r) 38)).alloc (.cells #[.slice none 0 0, .slice none 0 0] 56) = w1 at *
 have kd := (Below.refl w1.heap.size w1).drew
 have HP := hid (fun wx (hx : Below w1.heap.size w1 wx) => (hx.block (w.heap.size + 1) (by omega)).trans hP)
 have HW := hid (fun wx (hx : Below w1.heap.size w1 wx) => hb.trans (hx.mono hb.size))
 have hR := hR.below kd hR.lt
 have C1 := hid (fun wx (hx : Below w1.heap.size w1 wx) => strongest_any r wx (HK.out _ (HW.out _ hx)))
 have C2 := hid (fun wx (hx : Below w1.heap.size w1 wx) => lweakest_any r wx (HK.out _ (HW.out _ hx)))
 have HKD0 := hid kd
 have hdz := kd.size
 clear hP hb kd HK
 refine wp_region_held_drew (S := fun wx => BRow wx w.heap.size r) (by kernel_rfl) hR (fun hS0 => ?_)
 generalize w1.drew = wd at *
 refine takeR (some 3) (i := 0) (v := _) rfl rfl (by kernel_rfl) (by kernel_rfl) (by kernel_rfl) (fun _ _ _ h => h) (yields_load_rowB (by rfl) _ rfl rfl (fun _ hw => hw)) hS0 ?_
 try simp only [Act.put, zA, zB, zC]
 refine takeR (some 5) (i := 2) (v := _) rfl rfl (by kernel_rfl) (by kernel_rfl) (by kernel_rfl) (fun _ _ _ h => h) (yields_load_rowB (by rfl) _ rfl rfl (fun _ hw => hw)) hS0 ?_
 try simp only [Act.put, zA, zB, zC]
 refine rD 1 rfl (fun K hK => ?_)
 go_simp
 refine (C1.out _ HKD0.out).mono ?_
 rintro e w2 ⟨v1, rfl, hO1, h2⟩
 obtain ⟨a1, n1, k1, rfl⟩ := pos_form hO1
 have HKD := hid (below_then HKD0.out h2)
 have sB := hS0.below h2 hS0.lt
 show K _ _
 refine hK.out _ _ sB (fun _ => ?_)
 clear hK K
 refine rD 3 rfl (fun K hK => ?_)
 go_simp
 refine (C2.out _ HKD.out).mono ?_
 rintro e w3 ⟨v2, rfl, hO2, h3⟩
 obtain ⟨a2, n2, k2, rfl⟩ := pos_form hO2
 have HKE := hid (below_then HKD.out h3)
 have sC := sB.below h3 sB.lt
 show K _ _
 refine hK.out _ _ sC (fun _ => ?_)
 clear hK K
 refine takeR (some 7) (i := 4) (v := ?vla4x5) rfl rfl (by kernel_rfl) (by kernel_rfl) (by kernel_rfl) (fun _ _ _ h => h) (Or.inl ⟨by rfl, ?hla4x5⟩) sC ?rla4x5
 case hla4x5 => (intro w _; go_simp; try (with_reducible rfl))
 try simp only [Act.put, zA, zB, zC]
 refine rD 5 rfl (fun K hK => ?_)
 rw [if_pos (by rfl)]
 have hp3 := HP.out _ HKE.out
 have HP3 := hid hp3
 have HO1 := hid (owns_setRow (owns_below hO1 h3) (g := w.heap.size + 1) (by omega) #[.slice a1 n1 k1, .slice a2 n2 k2])
 have HO2 := hid (owns_setRow hO2 (g := w.heap.size + 1) (by have := h2.size; omega) #[.slice a1 n1 k1, .slice a2 n2 k2])
 have HB := hid (HW.out _ HKE.out)
 have h2s := h2.size
 refine wp_store_row 56 _ _ rfl (w.heap.size + 1) #[.slice a1 n1 k1, .slice a2 n2 k2] rfl rfl _ _ hp3 infoPos rfl (pos_one hO1 hO2) ?_
 refine hK.out _ _ (sC.otherRow (by omega) _) (fun _ => ?_)
 clear hK K
 refine wpAnyH_done (by kernel_rfl) ?_ _
 go_wp2_with fail
 have hb9 := below_setRow HB.out (show w.heap.size ≤ w.heap.size + 1 by omega) #[.slice a1 n1 k1, .slice a2 n2 k2]
 refine bodyPost_ret (v := .agg #[.slice a1 n1 k1, .slice a2 n2 k2]) (results_cell_row rfl _ _ (w.heap.size + 1) _ #[.slice a1 n1 k1, .slice a2 n2 k2] _ _ rfl (setRow_heap _ _ _ _ _ _ HP3.out) Tryz.underlying56 rfl infoPos) rfl ⟨_, _, rfl, ⟨own_base0 HO1.out (by omega), own_base0 HO2.out (by omega)⟩, hb9⟩
end

section
open Go.RowKit
theorem results_pos2 {fn : Func} {p u : Tmp} (h : fn.results = #[.cell p 56, .tmp u]) (tmps : Array Value) (w : World) (g : Nat) (a1 a2 : Option Addr) (n1 k1 n2 k2 : Nat)
  (hp : tmps.getD p undef = .pointer (some ⟨g, 0, none⟩)) (hg : w.heap[g]? = some (.cells #[.slice a1 n1 k1, .slice a2 n2 k2] 56 (0, 0))) : (results fn tmps).run Tryz.prog w = .ok (.tuple #[.agg #[.slice a1 n1 k1, .slice a2 n2 k2], tmps.getD u undef]) w := by
 have hp' : tmps[p]?.getD undef = .pointer (some ⟨g, 0, none⟩) := by simpa using hp
 simp [results, h, hp', asAddr, run_loadVar_row w g _ 56 #[.slice a1 n1 k1, .slice a2 n2 k2] _ _ hg Tryz.underlying56 rfl infoPos]
end

section
open Go.RowKit
def enoughN (t o : Int) : Nat := if t < 0 ∨ 64 < t ∨ o < 0 then 4611686018427387904 else timesN (levZ t) 12
theorem enough_any (t o : Int) (w : World) : Calls Tryz.prog 23 #[.int .i64 t, .int .i64 o] w fun e w' => e = .returned (.int .i64 ((enoughN t o : Nat) : Int)) ∧ w = w' := by
 have CA := hid (fall_any t w)
 by_cases h1 : t < 0
 ·have HE : Hid (((enoughN t o : Nat) : Int) = 4611686018427387904) := hid (by unfold enoughN; rw [if_pos (.inl h1)]; rfl)
  go_enter Tryz.func23, Tryz.ntmps23
  go_wp2_with fail
  go_ret
  exact ⟨by rw [HE.out]; rfl, rfl⟩
 by_cases h2 : 64 < t
 ·have HE : Hid (((enoughN t o : Nat) : Int) = 4611686018427387904) := hid (by unfold enoughN; rw [if_pos (.inr (.inl h2))]; rfl)
  go_enter Tryz.func23, Tryz.ntmps23
  go_wp2_with fail
  go_ret
  exact ⟨by rw [HE.out]; rfl, rfl⟩
 by_cases h3 : o < 0
 ·have HE : Hid (((enoughN t o : Nat) : Int) = 4611686018427387904) := hid (by unfold enoughN; rw [if_pos (.inr (.inr h3))]; rfl)
  go_enter Tryz.func23, Tryz.ntmps23
  go_wp2_with fail
  go_ret
  exact ⟨by rw [HE.out]; rfl, rfl⟩
 have HE : Hid (((enoughN t o : Nat) : Int) = ((timesN (levZ t) 12 : Nat) : Int)) := hid (by unfold enoughN; rw [if_neg (by omega)])
 go_enter Tryz.func23, Tryz.ntmps23
 go_wp2_with fail
 refine CA.out.mono ?_
 rintro e w1 ⟨rfl, rfl⟩
 go_wp2_with fail
 go_ret
 exact ⟨by rw [HE.out]; rfl, rfl⟩
theorem OutAt.made (w : World) (t : TypeId) (k n : Int) (r : Nat → Bool) (ws : Nat → Value × Value) : OutAt (w.alloc (.cells (outL k n r ws).toArray t)) w.heap.size k n r ws := fun i u hu => by
 have hn := heap_alloc_new w (.cells (outL k n r ws).toArray t)
 refine ⟨?_, frozen_of_row _ _ _ _ _ hn⟩
 rw [cell_of_row _ _ _ _ _ _ hn]
 simpa using hu
section
variable {w : World} {g : Nat} {k n : Int} {r : Nat → Bool} {ws : Nat → Value × Value}
theorem OutAt.kind (h : OutAt w g k n r ws) : w.cell? ⟨g, 0, none⟩ = some (.int .i64 k) := (h 0 _ rfl).1
theorem OutAt.line (h : OutAt w g k n r ws) : w.cell? ⟨g, 1, none⟩ = some (.int .i64 n) := (h 1 _ rfl).1
theorem outL_vec (k n : Int) (r : Nat → Bool) (ws : Nat → Value × Value) {i : Nat} (hi : i < 36) : (outL k n r ws)[2 + i]? = some (vecF r ws i) := by
 unfold outL
 rw [show 2 + i = i + 1 + 1 by omega, List.getElem?_cons_succ, List.getElem?_cons_succ, vecL_at r ws hi]
theorem OutAt.row (h : OutAt w g k n r ws) : w.rangeAt g 2 (rowB r).toList := fun j v hv => by
 have hj : j < 12 := by
  have := (List.getElem?_eq_some_iff.1 hv).1
  simpa [rowB] using this
 rw [(h (2 + j) _ (outL_vec k n r ws (by omega))).1, ← hv]
 unfold vecF
 rw [if_pos hj]
 simp [rowB, hj]
theorem OutAt.vec (h : OutAt w g k n r ws) : w.rangeAt g 2 (vecL r ws) := fun j v hv => by
 have hj : j < 36 := by
  have := (List.getElem?_eq_some_iff.1 hv).1
  rwa [vecL_len] at this
 rw [(h (2 + j) _ (outL_vec k n r ws hj)).1, ← hv, vecL_at r ws hj]
theorem OutAt.bit (h : OutAt w g k n r ws) {l : Nat} (hl : l < 12) : w.cell? ⟨g, 2 + l, none⟩ = some (.bool (r l)) := by
 rw [(h (2 + l) _ (outL_vec k n r ws (by omega))).1]
 unfold vecF
 rw [if_pos hl]
end
theorem cpos_yes (n : Int) (r : Nat → Bool) (ws : Nat → Value × Value) (w : World) (hK : Kinds w) :
  Calls Tryz.prog 20 #[.agg (outL 4 n r ws).toArray] w fun e w' => (∃ v1 v2, e = .returned (.tuple #[.agg #[v1, v2], .bool true]) ∧ PosO w' w.heap.size v1 v2 (strTo r 12) (wkTo r 12)) ∧ Below w.heap.size w w' := by
 have O1 := OutAt.made w 52 4 n r ws
 have hb1 := box_below w (.cells (outL 4 n r ws).toArray 52)
 have hs1 : (w.alloc (.cells (outL 4 n r ws).toArray 52)).heap.size = w.heap.size + 1 := by simp
 have HK := hid (fun wx (hx : Below w.heap.size w wx) => hK.below hx)
 clear hK
 go_enter Tryz.func20, Tryz.ntmps20
 go_upto_region 1 with fail
 generalize w.alloc (.cells (outL 4 n r ws).toArray 52) = w1 at *
 have hP := heap_alloc_new w1 (.cells #[.slice none 0 0, .slice none 0 0] 56)
 have hb2 := box_below w1 (.cells #[.slice none 0 0, .slice none 0 0] 56)
 have hlt : w1.heap.size < (w1.alloc (.cells #[.slice none 0 0, .slice none 0 0] 56)).heap.size := by simp
 have O2 := O1.below hb2 O1.lt
 have hb3 := below_then hb1 hb2
 have n0 := O2.kind
 have hrow := O2.row
 have hgw : w.heap.size < w1.heap.size := by omega
 generalize w1.heap.size = q1 at *
 subst hs1
 generalize w1.alloc (.cells #[.slice none 0 0, .slice none 0 0] 56) = w2 at *
 have CL := hid (latof_any r w2 (HK.out _ hb3))
 clear O1 O2 hb1 hb2
 go_wp2_with (with_reducible refine wpList_load_mid rfl 38 _ rfl w.heap.size 2 rfl (rowB r).toList _ hrow Tryz.underlying38 rfl (by kernel_rfl) ?_)
 refine CL.out.mono ?_
 rintro e w5 ⟨v1, v2, rfl, hO, h5⟩
 obtain ⟨a1, n1, k1, rfl⟩ := pos_form hO.1
 obtain ⟨a2, n2, k2, rfl⟩ := pos_form hO.2
 have hP2 := (h5.block _ hlt).trans hP
 have hb5 := below_then hb3 h5
 have hO9 : PosO (w5.setRow (w.heap.size + 1) #[.slice a1 n1 k1, .slice a2 n2 k2]) w.heap.size (.slice a1 n1 k1) (.slice a2 n2 k2) (strTo r 12) (wkTo r 12) := ⟨own_base0 (owns_setRow hO.1 (by omega) _) (by omega), own_base0 (owns_setRow hO.2 (by omega) _) (by omega)⟩
 have HO9 := hid hO9
 have hone : (#[Value.slice a1 n1 k1, Value.slice a2 n2 k2] : Array Value).all (·.oneCell') = true := by simp [Value.oneCell']
 have hb9 := below_setRow hb5 (show w.heap.size ≤ (w.heap.size + 1) by omega) #[.slice a1 n1 k1, .slice a2 n2 k2]
 clear CL hO h5 hb3 hrow hO9 n0 hP hlt hb5
 go_wp2_with (with_reducible refine wpList_store_row rfl 56 _ _ rfl (w.heap.size + 1) #[.slice a1 n1 k1, .slice a2 n2 k2] rfl rfl _ _ hP2 infoPos rfl hone ?_)
 exact bodyPost_ret (results_pos2 rfl _ _ (w.heap.size + 1) _ _ _ _ _ _ rfl (setRow_heap _ _ _ _ _ _ hP2)) rfl ⟨⟨_, _, rfl, HO9.out⟩, hb9⟩
theorem empty_run : runL (linesB ⟨#[]⟩) = some [] ∧ endedB ⟨#[]⟩ = true := by decide +kernel
theorem empty_acc : ∀ l : Fin 12, accV [] l.val = true := by decide +kernel
theorem vec_none : ∀ j, j ≤ 12 → (vecTo [] j).2 = 0 := by decide +kernel
theorem str_all {r : Nat → Bool} (h : ∀ l, l < 12 → r l = true) : strTo r 12 = [11] := by
 have e : strTo r 12 = strTo (fun _ => true) 12 := by
  unfold strTo abv abvTo
  refine List.filter_congr fun b hb => ?_
  have hb := List.mem_range.1 hb
  rw [h b hb]
  congr 2
  refine any_alike _ fun a ha => ?_
  rw [h a (List.mem_range.1 ha)]
 rw [e]
 decide +kernel
theorem bad_line : ¬ ∃ E, runL (linesB ⟨#[116, 120, 110, 32, 48, 32, 49, 10]⟩) = some E := by
 rw [show runL (linesB ⟨#[116, 120, 110, 32, 48, 32, 49, 10]⟩) = none from by decide +kernel]
 rintro ⟨E, h⟩
 cases h
end

section
open Go.RowKit
theorem OutAt.cells {w : World} {g : Nat} {k n : Int} {r : Nat → Bool} {ws : Nat → Value × Value} (h : OutAt w g k n r ws) {g' : Nat} (hne : g ≠ g') (o : Nat) (vs : List Value) : OutAt (w.setCells g' o vs) g k n r ws := fun i u hu => by
 obtain ⟨h1, h2⟩ := h i u hu
 rw [World.frozen?_setCells]
 refine ⟨?_, h2⟩
 rw [cell_put (p := ⟨g, i, none⟩) hne]
 exact h1
theorem out_put (w : World) (k n : Int) (r : Nat → Bool) (ws : Nat → Value × Value) : OutAt ((w.alloc (.cells #[.int .i64 0, .int .i64 0, .bool false, .bool false, .bool false, .bool false, .bool false, .bool false, .bool false, .bool false, .bool false, .bool false, .bool false, .bool false, .slice none 0 0, .slice none 0 0, .slice none 0 0, .slice none 0 0, .slice none 0 0, .slice none 0 0, .slice none 0 0, .slice none 0 0, .slice none 0 0, .slice none 0 0, .slice none 0 0, .slice none 0 0, .slice none 0 0, .slice none 0 0, .slice none 0 0, .slice none 0 0, .slice none 0 0, .slice none 0 0, .slice none 0 0, .slice none 0 0, .slice none 0 0, .slice none 0 0, .slice none 0 0, .slice none 0 0] 52)).setCells w.heap.size 0 (outL k n r ws)) w.heap.size k n r ws ∧ Below w.heap.size w ((w.alloc (.cells #[.int .i64 0, .int .i64 0, .bool false, .bool false, .bool false, .bool false, .bool false, .bool false, .bool false, .bool false, .bool false, .bool false, .bool false, .bool false, .slice none 0 0, .slice none 0 0, .slice none 0 0, .slice none 0 0, .slice none 0 0, .slice none 0 0, .slice none 0 0, .slice none 0 0, .slice none 0 0, .slice none 0 0, .slice none 0 0, .slice none 0 0, .slice none 0 0, .slice none 0 0, .slice none 0 0, .slice none 0 0, .slice none 0 0, .slice none 0 0, .slice none 0 0, .slice none 0 0, .slice none 0 0, .slice none 0 0, .slice none 0 0, .slice none 0 0] 52)).setCells w.heap.size 0 (outL k n r ws)) ∧ (w.alloc (.cells #[.int .i64 0, .int .i64 0, .bool false, .bool false, .bool false, .bool false, .bool false, .bool false, .bool false, .bool false, .bool false, .bool false, .bool false, .bool false, .slice none 0 0, .slice none 0 0, .slice none 0 0, .slice none 0 0, .slice none 0 0, .slice none 0 0, .slice none 0 0, .slice none 0 0, .slice none 0 0, .slice none 0 0, .slice none 0 0, .slice none 0 0, .slice none 0 0, .slice none 0 0, .slice none 0 0, .slice none 0 0, .slice none 0 0, .slice none 0 0, .slice none 0 0, .slice none 0 0, .slice none 0 0, .slice none 0 0, .slice none 0 0, .slice none 0 0] 52)).there w.heap.size 0 (outL k n r ws).toArray.size :=
 ⟨(OutAt.zero w).put k n r ws, below_putC (Nat.le_refl _) _ _ _ (box_below w _), by rw [show (outL k n r ws).toArray.size = 38 from outL_len _ _ _ _]; exact (OutAt.zero w).there (by omega)⟩
theorem parse_fails {s : ByteArray} {b : Nat} {w : World} {v : Value} {n x : Int} {c : List TxnV} (h : ParseRes s b w (.returned (.tuple #[v, .int .i64 n, .int .i64 x]))) (hx : x ≠ 0) (hr : runL (linesB s) = some (c.map txE)) (he : endedB s = true) (hc : checkI c = 0) : False := by
 rcases h with ⟨k, hk, _, hno, _⟩ | ⟨d, hd, hR⟩
 ·rw [runL_stop hno] at hr; cases hr
 ·rw [hr] at hd
  have hce := Option.some.inj hd
  rcases hR with ⟨q, _⟩ | ⟨_, q, _⟩ | ⟨_, _, v', e, _⟩
  ·rw [he] at q; cases q
  ·exact q ((checkI_txE hce).symm.trans hc)
  ·simp at e
   exact hx e.2.2
theorem check_empty (w : World) (he : EnvM w) (ht : Tab w) (hK : Kinds w) : Calls Tryz.prog 19 #[.string ⟨#[]⟩, .int .i64 0] w fun e w' => (∃ ws, e = .returned (.agg (outL 4 0 (accV []) ws).toArray) ∧ WitsIn [] ws w.heap.size w') ∧ Below w.heap.size w w' := by
 refine (ccheck_any ⟨#[]⟩ 0 w he (by decide) ht hK (fun c hr _ _ => by
  rw [empty_run.1] at hr
  have := congrArg List.length (Option.some.inj hr)
  simp at this
  omega)).mono ?_
 rintro e w' ⟨hq, hb⟩
 refine ⟨?_, hb⟩
 rcases hq with ⟨n, x, b, w0, hx, hP, _⟩ | ⟨c, hr, _, _, hq⟩
 ·exact (parse_fails (c := []) hP hx empty_run.1 empty_run.2 rfl).elim
 ·rw [empty_run.1] at hr
  have hc0 : c = [] := by
   have := congrArg List.length (Option.some.inj hr)
   simpa using this.symm
  subst hc0
  rcases hq with ⟨_, ws, e1, e2⟩ | ⟨hn, _⟩
  ·exact ⟨ws, e1, e2⟩
  ·exfalso
   apply hn
   right
   rw [vec_none 12 (Nat.le_refl _)]
   exact Nat.zero_le _
theorem check_bad (w : World) (he : EnvM w) (ht : Tab w) (hK : Kinds w) : Calls Tryz.prog 19 #[.string ⟨#[116, 120, 110, 32, 48, 32, 49, 10]⟩, .int .i64 0] w fun e w' => e = .returned (.agg (outL 1 1 noB wZ0).toArray) ∧ Below w.heap.size w w' := by
 refine (ccheck_any ⟨#[116, 120, 110, 32, 48, 32, 49, 10]⟩ 0 w he (by decide) ht hK (fun c hr _ _ => (bad_line ⟨_, hr⟩).elim)).mono ?_
 rintro e w' ⟨hq, hb⟩
 refine ⟨?_, hb⟩
 rcases hq with ⟨n, x, b, w0, hx, hP, rfl⟩ | ⟨c, hr, _⟩
 ·rcases hP with ⟨k, hk, _, _, e⟩ | ⟨d, hd, _⟩
  ·have hl : (linesB ⟨#[116, 120, 110, 32, 48, 32, 49, 10]⟩).length = 1 := by decide +kernel
   have hk0 : k = 0 := by omega
   subst hk0
   simp at e
   obtain ⟨rfl, rfl⟩ := e
   rfl
  ·exact (bad_line ⟨_, hd⟩).elim
 ·exact (bad_line ⟨_, hr⟩).elim
theorem speaks25_any (w : World) (he : EnvM w) (ht : Tab w) (hK : Kinds w) :
  Calls Tryz.prog 17 #[] w fun e w' => e = .returned (.bool true) ∧ Below w.heap.size w w' := by
 have hg := ht.pos
 have HT : Hid (∀ wx, Below w.heap.size w wx → EnvM wx ∧ Tab wx ∧ Kinds wx) := hid (fun wx hb => ⟨he.below hb, ht.below hb hg, hK.below hb⟩)
 have C1 := hid (check_empty w he ht hK)
 clear he ht hK hg
 go_enter Tryz.func17, Tryz.ntmps17
 go_wp2_with fail
 refine C1.out.mono ?_
 rintro e wa ⟨⟨ws, rfl, hW⟩, ha⟩
 have q := HT.out _ ha
 have C2 := hid (check_bad wa q.1 q.2.1 q.2.2)
 clear C1 q
 go_wp2_with fail
 refine C2.out.mono ?_
 rintro e w2 ⟨rfl, h2⟩
 have hb2 := below_then ha h2
 have hW2 := hW.below h2
 have hoA := outL_oneW (k := 4) (n := 0) hW2 (accV [])
 have hoB := outL_one (k := 1) (n := 1) (wZ0_one noB)
 have hiA := info_outA 4 0 (accV []) ws
 have hiB := info_outA 1 1 noB wZ0
 have hA0 := OutAt.zero w2
 have hx1 := box_below w2 (.cells #[.int .i64 0, .int .i64 0, .bool false, .bool false, .bool false, .bool false, .bool false, .bool false, .bool false, .bool false, .bool false, .bool false, .bool false, .bool false, .slice none 0 0, .slice none 0 0, .slice none 0 0, .slice none 0 0, .slice none 0 0, .slice none 0 0, .slice none 0 0, .slice none 0 0, .slice none 0 0, .slice none 0 0, .slice none 0 0, .slice none 0 0, .slice none 0 0, .slice none 0 0, .slice none 0 0, .slice none 0 0, .slice none 0 0, .slice none 0 0, .slice none 0 0, .slice none 0 0, .slice none 0 0, .slice none 0 0, .slice none 0 0, .slice none 0 0] 52)
 have hx2 := box_below (w2.alloc (.cells #[.int .i64 0, .int .i64 0, .bool false, .bool false, .bool false, .bool false, .bool false, .bool false, .bool false, .bool false, .bool false, .bool false, .bool false, .bool false, .slice none 0 0, .slice none 0 0, .slice none 0 0, .slice none 0 0, .slice none 0 0, .slice none 0 0, .slice none 0 0, .slice none 0 0, .slice none 0 0, .slice none 0 0, .slice none 0 0, .slice none 0 0, .slice none 0 0, .slice none 0 0, .slice none 0 0, .slice none 0 0, .slice none 0 0, .slice none 0 0, .slice none 0 0, .slice none 0 0, .slice none 0 0, .slice none 0 0, .slice none 0 0, .slice none 0 0] 52)) (.cells #[.int .i64 0, .int .i64 0, .bool false, .bool false, .bool false, .bool false, .bool false, .bool false, .bool false, .bool false, .bool false, .bool false, .bool false, .bool false, .slice none 0 0, .slice none 0 0, .slice none 0 0, .slice none 0 0, .slice none 0 0, .slice none 0 0, .slice none 0 0, .slice none 0 0, .slice none 0 0, .slice none 0 0, .slice none 0 0, .slice none 0 0, .slice none 0 0, .slice none 0 0, .slice none 0 0, .slice none 0 0, .slice none 0 0, .slice none 0 0, .slice none 0 0, .slice none 0 0, .slice none 0 0, .slice none 0 0, .slice none 0 0, .slice none 0 0] 52)
 have hs1 : (w2.alloc (.cells #[.int .i64 0, .int .i64 0, .bool false, .bool false, .bool false, .bool false, .bool false, .bool false, .bool false, .bool false, .bool false, .bool false, .bool false, .bool false, .slice none 0 0, .slice none 0 0, .slice none 0 0, .slice none 0 0, .slice none 0 0, .slice none 0 0, .slice none 0 0, .slice none 0 0, .slice none 0 0, .slice none 0 0, .slice none 0 0, .slice none 0 0, .slice none 0 0, .slice none 0 0, .slice none 0 0, .slice none 0 0, .slice none 0 0, .slice none 0 0, .slice none 0 0, .slice none 0 0, .slice none 0 0, .slice none 0 0, .slice none 0 0, .slice none 0 0] 52)).heap.size = w2.heap.size + 1 := by simp
 have hA1 := hA0.below hx2 hA0.lt
 have hB1 := OutAt.zero (w2.alloc (.cells #[.int .i64 0, .int .i64 0, .bool false, .bool false, .bool false, .bool false, .bool false, .bool false, .bool false, .bool false, .bool false, .bool false, .bool false, .bool false, .slice none 0 0, .slice none 0 0, .slice none 0 0, .slice none 0 0, .slice none 0 0, .slice none 0 0, .slice none 0 0, .slice none 0 0, .slice none 0 0, .slice none 0 0, .slice none 0 0, .slice none 0 0, .slice none 0 0, .slice none 0 0, .slice none 0 0, .slice none 0 0, .slice none 0 0, .slice none 0 0, .slice none 0 0, .slice none 0 0, .slice none 0 0, .slice none 0 0, .slice none 0 0, .slice none 0 0] 52))
 rw [hs1] at hB1
 have hthA := hA1.there (o := 0) (m := (outL 4 0 (accV []) ws).toArray.size) (by rw [show (outL 4 0 (accV []) ws).toArray.size = 38 from outL_len _ _ _ _]; omega)
 have hA2 := hA1.put 4 0 (accV []) ws
 have hB2 := hB1.cells (g' := w2.heap.size) (by omega) 0 (outL 4 0 (accV []) ws)
 have hthB := hB2.there (o := 0) (m := (outL 1 1 noB wZ0).toArray.size) (by rw [show (outL 1 1 noB wZ0).toArray.size = 38 from outL_len _ _ _ _]; omega)
 have hB3 := hB2.put 1 1 noB wZ0
 have hA3 := hA2.cells (g' := w2.heap.size + 1) (by omega) 0 (outL 1 1 noB wZ0)
 have hb3 := below_then hb2 (below_putC (show w2.heap.size ≤ w2.heap.size + 1 by omega) (outL 1 1 noB wZ0) 0 _ (below_putC (Nat.le_refl w2.heap.size) (outL 4 0 (accV []) ws) 0 _ (below_then hx1 hx2)))
 clear C2 h2 hb2 hW2 hA0 hx1 hx2 hs1 hA1 hB1 hA2 hB2 hW ha
 go_upto_region 2 with (first | (with_reducible refine wpList_store_mid rfl 52 _ _ rfl w2.heap.size 0 (outL 4 0 (accV []) ws).toArray rfl rfl hthA hiA hoA ?_) | (with_reducible refine wpList_store_mid rfl 52 _ _ rfl (w2.heap.size + 1) 0 (outL 1 1 noB wZ0).toArray rfl rfl hthB hiB hoB ?_))
 generalize (((w2.alloc (.cells #[.int .i64 0, .int .i64 0, .bool false, .bool false, .bool false, .bool false, .bool false, .bool false, .bool false, .bool false, .bool false, .bool false, .bool false, .bool false, .slice none 0 0, .slice none 0 0, .slice none 0 0, .slice none 0 0, .slice none 0 0, .slice none 0 0, .slice none 0 0, .slice none 0 0, .slice none 0 0, .slice none 0 0, .slice none 0 0, .slice none 0 0, .slice none 0 0, .slice none 0 0, .slice none 0 0, .slice none 0 0, .slice none 0 0, .slice none 0 0, .slice none 0 0, .slice none 0 0, .slice none 0 0, .slice none 0 0, .slice none 0 0, .slice none 0 0] 52)).alloc (.cells #[.int .i64 0, .int .i64 0, .bool false, .bool false, .bool false, .bool false, .bool false, .bool false, .bool false, .bool false, .bool false, .bool false, .bool false, .bool false, .slice none 0 0, .slice none 0 0, .slice none 0 0, .slice none 0 0, .slice none 0 0, .slice none 0 0, .slice none 0 0, .slice none 0 0, .slice none 0 0, .slice none 0 0, .slice none 0 0, .slice none 0 0, .slice none 0 0, .slice none 0 0, .slice none 0 0, .slice none 0 0, .slice none 0 0, .slice none 0 0, .slice none 0 0, .slice none 0 0, .slice none 0 0, .slice none 0 0, .slice none 0 0, .slice none 0 0] 52)).setCells w2.heap.size 0 (outL 4 0 (accV []) ws)).setCells (w2.heap.size + 1) 0 (outL 1 1 noB wZ0) = w3 at *
 generalize w2.heap.size = g1 at *
 have CP := hid (cpos_yes 0 (accV []) ws w3 (HT.out _ hb3).2.2)
 have hall := hA3.all
 have hio := info_out 4 0 (accV []) ws
 have HA3 := hid hA3
 have HB3 := hid hB3
 clear hthA hthB hoA hoB hiA hiB hA3 hB3
 go_wp2_with (with_reducible refine wpList_load_mid rfl 52 _ rfl g1 0 rfl (outL 4 0 (accV []) ws) _ hall Tryz.underlying52 rfl hio ?_)
 refine CP.out.mono ?_
 rintro e w4 ⟨⟨v1, v2, rfl, hO⟩, h4⟩
 obtain ⟨a1, n1, k1, rfl⟩ := pos_form hO.1
 obtain ⟨a2, n2, k2, rfl⟩ := pos_form hO.2
 have hn1 : n1 = 1 := by
  have h1 := hO.1
  rw [str_all (fun l hl => empty_acc ⟨l, hl⟩)] at h1
  rcases h1.2 with q | ⟨_, _, _, q, _⟩
  ·exact absurd q.2 (by decide)
  ·simp at q; exact q.2.1
 subst hn1
 have hb4 := below_then hb3 h4
 have hx5 := box_below w4 (.cells #[.slice a1 1 k1, .slice a2 n2 k2] 56)
 have hP := heap_alloc_new w4 (.cells #[.slice a1 1 k1, .slice a2 n2 k2] 56)
 have c0 : (w4.alloc (.cells #[.slice a1 1 k1, .slice a2 n2 k2] 56)).cell? ⟨w4.heap.size, 0, none⟩ = some (.slice a1 1 k1) := by simp only [World.cell?, hP]; rfl
 have A5 := (HA3.out.below h4 HA3.out.lt)
 have A5 := A5.below hx5 A5.lt
 have B5 := (HB3.out.below h4 HB3.out.lt)
 have B5 := B5.below hx5 B5.lt
 have hb5 := below_then hb4 hx5
 have nA := A5.kind
 have nR := A5.bit (l := 11) (by omega)
 rw [empty_acc ⟨11, by decide⟩] at nR
 have nB := B5.kind
 have nL := B5.line
 have CE := hid (fun wx => enough_any 3 5 wx)
 rw [show ((enoughN 3 5 : Nat) : Int) = 216 from by decide +kernel] at CE
 clear CP hall hio HA3 HB3 hO h4 hb4 hx5 hP A5 B5 hb3
 go_upto_region 3 with fail
 generalize w4.alloc (.cells #[.slice a1 1 k1, .slice a2 n2 k2] 56) = w5 at *
 go_wp2_with fail
 refine (CE.out _).mono ?_
 rintro e w6 ⟨rfl, rfl⟩
 go_wp2_with fail
 go_ret
 exact ⟨rfl, hb5⟩
theorem seven_lev : ∀ k, k ≤ 7 → timesN (levN k) 12 = levN k * 12 ∧ trN k ≤ levN k := by decide +kernel
theorem lasts_enough {h : List TxnV} (hn : h.length ≤ 7) (o : Nat) : Lasts (fuelN ((enoughN (h.length : Int) (o : Int) : Nat) : Int)) 0 (vecTo h 12).2 := by
 have e : enoughN (h.length : Int) (o : Int) = timesN (levN h.length) 12 := by
  unfold enoughN levZ
  rw [if_neg (by omega), Int.toNat_natCast]
 rw [e]
 obtain ⟨h1, h2⟩ := seven_lev _ hn
 have hv := vec_bound (h := h) (levN h.length) (fun l _ => Nat.le_trans (dec_tries h (l : Int)) h2) 12 (Nat.le_refl _)
 have h3 := times_le (levN h.length) 12
 right
 unfold fuelN
 rw [h1] at h3 ⊢
 omega
theorem check_run {s : ByteArray} {h : List TxnV} (hrun : runL (linesB s) = some (h.map txE)) (hend : endedB s = true) (hc : checkI h = 0) (hs : s.size ≤ 100000) (hn : h.length ≤ 7) (much : Int) (w : World) (he : EnvM w) (ht : Tab w) (hK : Kinds w) :
  Calls Tryz.prog 19 #[.string s, .int .i64 much] w fun e w' => ((Lasts (fuelN much) 0 (vecTo h 12).2 ∧ ∃ ws, e = .returned (.agg (outL 4 0 (accV h) ws).toArray) ∧ WitsIn h ws w.heap.size w') ∨ (¬ Lasts (fuelN much) 0 (vecTo h 12).2 ∧ e = .returned (.agg (outL 3 0 noB wZ0).toArray))) ∧ Below w.heap.size w w' := by
 refine (ccheck_any _ much w he hs ht hK (fun c hr _ _ => by
  rw [hrun] at hr
  rw [← txE_len (Option.some.inj hr)]
  exact hn)).mono ?_
 rintro e w' ⟨hq, hb⟩
 refine ⟨?_, hb⟩
 rcases hq with ⟨n, x, b, w0, hx, hP, _⟩ | ⟨c, hr, _, _, hq⟩
 ·exact (parse_fails hP hx hrun hend hc).elim
 ·rw [hrun] at hr
  have hce := (Option.some.inj hr).symm
  have e1 : accV c = accV h := acc_txE hce
  have e2 : vecTo c = vecTo h := by
   have : vecStep c = vecStep h := by unfold vecStep; rw [dec_txE hce, decW_txE hce]
   unfold vecTo
   rw [this]
  rw [e1, e2] at hq
  refine hq.imp (fun ⟨q, ws, e3, e4⟩ => ⟨q, ws, e3, ?_⟩) id
  intro i hi
  have := e4 i hi
  rw [decW_txE hce] at this
  exact this
theorem check_pr {h : List TxnV} (hok : ∀ t ∈ h, t.ok) (hc : checkI h = 0) (hn : h.length ≤ 7) (much : Int) (w : World) (he : EnvM w) (ht : Tab w) (hK : Kinds w) :
  Calls Tryz.prog 19 #[.string ⟨(prTxt h).toArray⟩, .int .i64 much] w fun e w' => ((Lasts (fuelN much) 0 (vecTo h 12).2 ∧ ∃ ws, e = .returned (.agg (outL 4 0 (accV h) ws).toArray) ∧ WitsIn h ws w.heap.size w') ∨ (¬ Lasts (fuelN much) 0 (vecTo h 12).2 ∧ e = .returned (.agg (outL 3 0 noB wZ0).toArray))) ∧ Below w.heap.size w w' := by
 obtain ⟨h1, h2, h3⟩ := checkI_right hc
 have hl := prTxt_len2 h hok
 have hs : (⟨(prTxt h).toArray⟩ : ByteArray).size ≤ 100000 := by
  have e : (⟨(prTxt h).toArray⟩ : ByteArray).size = (prTxt h).length := by simp [ByteArray.size]
  rw [e]; omega
 exact check_run (runL_pr h3) (pr_lines h).2 hc hs hn much w he ht hK
end

section
open Go.RowKit
def vRow (h : List TxnV) (ok : Bool) : Nat → Bool := if ok then accV h else noB
end

section
open Go.RowKit
def kindI (ok : Bool) : Int := if ok then 4 else 3
theorem check_both {h : List TxnV} (hok : ∀ t ∈ h, t.ok) (hc : checkI h = 0) (hn : h.length ≤ 7) (ok : Bool) (much : Int) (w : World) (he : EnvM w) (ht : Tab w) (hK : Kinds w) (hl : ok = true ↔ Lasts (fuelN much) 0 (vecTo h 12).2) :
  Calls Tryz.prog 19 #[.string ⟨(prTxt h).toArray⟩, .int .i64 much] w fun e w' => (∃ ws, e = .returned (.agg (outL (kindI ok) 0 (vRow h ok) ws).toArray) ∧ (outL (kindI ok) 0 (vRow h ok) ws).toArray.all (·.oneCell') = true) ∧ Below w.heap.size w w' := by
 refine (check_pr hok hc hn much w he ht hK).mono ?_
 rintro e w' ⟨⟨hq, ws, rfl, hW⟩ | ⟨hq, rfl⟩, hb⟩
 ·have : ok = true := hl.2 hq
  subst this
  exact ⟨⟨ws, rfl, outL_oneW hW _⟩, hb⟩
 ·have : ok = false := by cases ok with | false => rfl | true => exact (hq (hl.1 rfl)).elim
  subst this
  exact ⟨⟨wZ0, rfl, outL_one (wZ0_one noB)⟩, hb⟩
theorem fuel_mono {a b : Int} (h : a ≤ b) {U c : Nat} (q : Lasts (fuelN a) U c) : Lasts (fuelN b) U c := by
 unfold Lasts fuelN at *
 omega
theorem cfuel25_walk (va : Value) (h : List TxnV) (a b : Nat) (w : World) (ha : a < 65536) (hbb : b < 65536) (he : Env w) (ht : Tab w) (hK : Kinds w) (hT : Txns w va h) (hok : ∀ t ∈ h, t.ok) (hsh : Short h) :
  Calls Tryz.prog 5 #[va, .int .u16 a, .int .u16 b] w fun e w' => e = .returned (.bool true) ∧ Below w.heap.size w w' := by
 have hg := ht.pos
 have HT : Hid (∀ wx, Below w.heap.size w wx → Env wx ∧ Tab wx ∧ Kinds wx) := hid (fun wx hb => ⟨he.below hb, ht.below hb hg, hK.below hb⟩)
 have HH := hid (fun wx (hx : Below w.heap.size w wx) => hT.below hx)
 obtain ⟨ao, cap, rfl, hal⟩ := hT.form
 have HOK := hid hok
 have HSH := hid hsh
 have CE := hid (fun (t o : Int) wx => enough_any t o wx)
 have C0 := hid (speaks25_any w he ht hK)
 clear he ht hK hT hok hg
 go_enter Tryz.func5, Tryz.ntmps5
 go_wp2_with fail
 refine C0.out.mono ?_
 rintro e w1 ⟨rfl, hb1⟩
 clear C0
 by_cases h6 : 6 < h.length
 ·have h6i : (6 : Int) < (h.length : Int) := by omega
  clear hsh
  go_wp2_with fail
  go_ret
  exact ⟨rfl, hb1⟩
 have h6i : ¬ (6 : Int) < (h.length : Int) := by omega
 have CC := hid (rcheck_any _ h w1 (HH.out _ hb1) hsh)
 rw [← check_ref] at CC
 by_cases hc : checkI h = 0
 rotate_left
 ·have hcn : ¬ checkI h = 0 := hc
  generalize checkI h = c at *
  have hcb : (c != 0) = true := by rw [bne_iff_ne]; exact hcn
  clear hsh hc
  go_wp2_with fail
  refine CC.out.mono ?_
  rintro e w2 ⟨rfl, hb2⟩
  have hb2 := below_then hb1 hb2
  go_wp2_with fail
  go_ret
  exact ⟨rfl, hb2⟩
 rw [hc] at CC
 go_wp2_with fail
 refine CC.out.mono ?_
 rintro e w2 ⟨rfl, hb2⟩
 have hb2 := below_then hb1 hb2
 have hq := HT.out _ hb2
 have HC := hid hc
 have H7 : Hid (h.length ≤ 7) := hid (by omega)
 have CPR := hid (print_any _ h w2 hq.1.1 (HH.out _ hb2) (fun t ht => ⟨HOK.out t ht, by have := (may_at (check_rightB HC.out).1 ht).1; omega⟩) (by have := H7.out; omega))
 have CN := hid (fun wx (hx : Below w.heap.size w wx) => count_any _ h wx (HH.out _ hx) (by have := (check_zero HC.out).2.1; omega))
 have HLE := hid (lasts_enough H7.out (opsN h))
 have CKB := hid (fun (ok : Bool) (much : Int) wx (hx : Below w.heap.size w wx) hl => check_both HOK.out HC.out H7.out ok much wx (HT.out _ hx).1 (HT.out _ hx).2.1 (HT.out _ hx).2.2 hl)
 clear CC hc hsh hq hb1
 go_wp2_with fail
 refine CPR.out.mono ?_
 rintro e w3 ⟨rfl, h3⟩
 have hb3 := below_then hb2 h3
 have CKB2 : True := trivial
 clear CPR h3 hb2
 by_cases hp : Lasts (fuelN (a : Int)) 0 (vecTo h 12).2
 ·have HPA : Hid (true = true ↔ Lasts (fuelN (a : Int)) 0 (vecTo h 12).2) := hid ⟨fun _ => hp, fun _ => rfl⟩
  have HPB : Hid (true = true ↔ Lasts (fuelN ((a : Int) + (b : Int))) 0 (vecTo h 12).2) := hid ⟨fun _ => fuel_mono (by omega) hp, fun _ => rfl⟩
  clear hp
  have CX := CKB.out true (a : Int) w3 hb3 (by simpa using HPA.out)
  rw [show kindI true = 4 from rfl, show vRow h true = accV h from rfl] at CX
  clear CKB2
  go_wp2_with fail
  refine CX.mono ?_
  rintro e w4 ⟨⟨ws, rfl, ho1⟩, h4⟩
  have hb4 := below_then hb3 h4
  have CY := CKB.out true ((a : Int) + (b : Int)) w4 hb4 (by simpa using HPB.out)
  rw [show kindI true = 4 from rfl, show vRow h true = accV h from rfl] at CY
  clear CX h4 hb3
  go_wp2_with fail
  refine CY.mono ?_
  rintro e w5 ⟨⟨us, rfl, ho2⟩, h5⟩
  have hb5 := below_then hb4 h5
  have hiX := info_outA 4 0 (accV h) ws
  have hiY := info_outA 4 0 (accV h) us
  have hA0 := OutAt.zero w5
  have hx1 := box_below w5 (.cells #[.int .i64 0, .int .i64 0, .bool false, .bool false, .bool false, .bool false, .bool false, .bool false, .bool false, .bool false, .bool false, .bool false, .bool false, .bool false, .slice none 0 0, .slice none 0 0, .slice none 0 0, .slice none 0 0, .slice none 0 0, .slice none 0 0, .slice none 0 0, .slice none 0 0, .slice none 0 0, .slice none 0 0, .slice none 0 0, .slice none 0 0, .slice none 0 0, .slice none 0 0, .slice none 0 0, .slice none 0 0, .slice none 0 0, .slice none 0 0, .slice none 0 0, .slice none 0 0, .slice none 0 0, .slice none 0 0, .slice none 0 0, .slice none 0 0] 52)
  have hx2 := box_below (w5.alloc (.cells #[.int .i64 0, .int .i64 0, .bool false, .bool false, .bool false, .bool false, .bool false, .bool false, .bool false, .bool false, .bool false, .bool false, .bool false, .bool false, .slice none 0 0, .slice none 0 0, .slice none 0 0, .slice none 0 0, .slice none 0 0, .slice none 0 0, .slice none 0 0, .slice none 0 0, .slice none 0 0, .slice none 0 0, .slice none 0 0, .slice none 0 0, .slice none 0 0, .slice none 0 0, .slice none 0 0, .slice none 0 0, .slice none 0 0, .slice none 0 0, .slice none 0 0, .slice none 0 0, .slice none 0 0, .slice none 0 0, .slice none 0 0, .slice none 0 0] 52)) (.cells #[.int .i64 0, .int .i64 0, .bool false, .bool false, .bool false, .bool false, .bool false, .bool false, .bool false, .bool false, .bool false, .bool false, .bool false, .bool false, .slice none 0 0, .slice none 0 0, .slice none 0 0, .slice none 0 0, .slice none 0 0, .slice none 0 0, .slice none 0 0, .slice none 0 0, .slice none 0 0, .slice none 0 0, .slice none 0 0, .slice none 0 0, .slice none 0 0, .slice none 0 0, .slice none 0 0, .slice none 0 0, .slice none 0 0, .slice none 0 0, .slice none 0 0, .slice none 0 0, .slice none 0 0, .slice none 0 0, .slice none 0 0, .slice none 0 0] 52)
  have hs1 : (w5.alloc (.cells #[.int .i64 0, .int .i64 0, .bool false, .bool false, .bool false, .bool false, .bool false, .bool false, .bool false, .bool false, .bool false, .bool false, .bool false, .bool false, .slice none 0 0, .slice none 0 0, .slice none 0 0, .slice none 0 0, .slice none 0 0, .slice none 0 0, .slice none 0 0, .slice none 0 0, .slice none 0 0, .slice none 0 0, .slice none 0 0, .slice none 0 0, .slice none 0 0, .slice none 0 0, .slice none 0 0, .slice none 0 0, .slice none 0 0, .slice none 0 0, .slice none 0 0, .slice none 0 0, .slice none 0 0, .slice none 0 0, .slice none 0 0, .slice none 0 0] 52)).heap.size = w5.heap.size + 1 := by simp
  have hA1 := hA0.below hx2 hA0.lt
  have hB1 := OutAt.zero (w5.alloc (.cells #[.int .i64 0, .int .i64 0, .bool false, .bool false, .bool false, .bool false, .bool false, .bool false, .bool false, .bool false, .bool false, .bool false, .bool false, .bool false, .slice none 0 0, .slice none 0 0, .slice none 0 0, .slice none 0 0, .slice none 0 0, .slice none 0 0, .slice none 0 0, .slice none 0 0, .slice none 0 0, .slice none 0 0, .slice none 0 0, .slice none 0 0, .slice none 0 0, .slice none 0 0, .slice none 0 0, .slice none 0 0, .slice none 0 0, .slice none 0 0, .slice none 0 0, .slice none 0 0, .slice none 0 0, .slice none 0 0, .slice none 0 0, .slice none 0 0] 52))
  rw [hs1] at hB1
  have hthA := hA1.there (o := 0) (m := (outL 4 0 (accV h) ws).toArray.size) (by rw [show (outL 4 0 (accV h) ws).toArray.size = 38 from outL_len _ _ _ _]; omega)
  have hA2 := hA1.put 4 0 (accV h) ws
  have hB2 := hB1.cells (g' := w5.heap.size) (by omega) 0 (outL 4 0 (accV h) ws)
  have hthB := hB2.there (o := 0) (m := (outL 4 0 (accV h) us).toArray.size) (by rw [show (outL 4 0 (accV h) us).toArray.size = 38 from outL_len _ _ _ _]; omega)
  have hB3 := hB2.put 4 0 (accV h) us
  have hA3 := hA2.cells (g' := w5.heap.size + 1) (by omega) 0 (outL 4 0 (accV h) us)
  have hb6 := below_then hb5 (below_putC (show w5.heap.size ≤ w5.heap.size + 1 by omega) (outL 4 0 (accV h) us) 0 _ (below_putC (Nat.le_refl w5.heap.size) (outL 4 0 (accV h) ws) 0 _ (below_then hx1 hx2)))
  clear CY h5 hb4 hb5 hA0 hx1 hx2 hs1 hA1 hB1 hA2 hB2
  go_upto_region 7 with (first | (with_reducible refine wpList_store_mid rfl 52 _ _ rfl w5.heap.size 0 (outL 4 0 (accV h) ws).toArray rfl rfl hthA hiX ho1 ?_) | (with_reducible refine wpList_store_mid rfl 52 _ _ rfl (w5.heap.size + 1) 0 (outL 4 0 (accV h) us).toArray rfl rfl hthB hiY ho2 ?_))
  generalize (((w5.alloc (.cells #[.int .i64 0, .int .i64 0, .bool false, .bool false, .bool false, .bool false, .bool false, .bool false, .bool false, .bool false, .bool false, .bool false, .bool false, .bool false, .slice none 0 0, .slice none 0 0, .slice none 0 0, .slice none 0 0, .slice none 0 0, .slice none 0 0, .slice none 0 0, .slice none 0 0, .slice none 0 0, .slice none 0 0, .slice none 0 0, .slice none 0 0, .slice none 0 0, .slice none 0 0, .slice none 0 0, .slice none 0 0, .slice none 0 0, .slice none 0 0, .slice none 0 0, .slice none 0 0, .slice none 0 0, .slice none 0 0, .slice none 0 0, .slice none 0 0] 52)).alloc (.cells #[.int .i64 0, .int .i64 0, .bool false, .bool false, .bool false, .bool false, .bool false, .bool false, .bool false, .bool false, .bool false, .bool false, .bool false, .bool false, .slice none 0 0, .slice none 0 0, .slice none 0 0, .slice none 0 0, .slice none 0 0, .slice none 0 0, .slice none 0 0, .slice none 0 0, .slice none 0 0, .slice none 0 0, .slice none 0 0, .slice none 0 0, .slice none 0 0, .slice none 0 0, .slice none 0 0, .slice none 0 0, .slice none 0 0, .slice none 0 0, .slice none 0 0, .slice none 0 0, .slice none 0 0, .slice none 0 0, .slice none 0 0, .slice none 0 0] 52)).setCells w5.heap.size 0 (outL 4 0 (accV h) ws)).setCells (w5.heap.size + 1) 0 (outL 4 0 (accV h) us) = w6 at *
  generalize w5.heap.size = g1 at *
  have CN6 := hid (CN.out _ hb6)
  have HA3 := hid hA3
  have HB3 := hid hB3
  clear hthA hthB hiX hiY ho1 ho2 hA3 hB3
  go_wp2_with fail
  refine CN6.out.mono ?_
  rintro e w7 ⟨rfl, h7⟩
  have hb7 := below_then hb6 h7
  have HA3 := hid (HA3.out.below h7 HA3.out.lt)
  have HB3 := hid (HB3.out.below h7 HB3.out.lt)
  have CC1 := hid (CE.out (h.length : Int) (opsN h : Int) w7)
  have CZ := CKB.out true ((enoughN (h.length : Int) (opsN h : Int) : Nat) : Int) w7 hb7 ⟨fun _ => HLE.out, fun _ => rfl⟩
  rw [show kindI true = 4 from rfl, show vRow h true = accV h from rfl] at CZ
  clear CN6 h7 hb6
  go_wp2_with fail
  refine CC1.out.mono ?_
  rintro e w8 ⟨rfl, rfl⟩
  clear CC1
  go_wp2_with fail
  refine CZ.mono ?_
  rintro e w8 ⟨⟨ts, rfl, ho3⟩, h8⟩
  have hb8 := below_then hb7 h8
  have hA4 := HA3.out.below h8 HA3.out.lt
  have hB4 := HB3.out.below h8 HB3.out.lt
  obtain ⟨hC5, hx9, hth⟩ := out_put w8 4 0 (accV h) ts
  have hA5 := hA4.below hx9 hA4.lt
  have hB5 := hB4.below hx9 hB4.lt
  have hiZ := info_outA 4 0 (accV h) ts
  have hb9 := below_then hb8 hx9
  clear CZ h8 hb7 hb8 hA4 hB4 hx9 HA3 HB3
  go_upto_region 8 with (with_reducible refine wpList_store_mid rfl 52 _ _ rfl w8.heap.size 0 (outL 4 0 (accV h) ts).toArray rfl rfl hth hiZ ho3 ?_)
  generalize (w8.alloc (.cells #[.int .i64 0, .int .i64 0, .bool false, .bool false, .bool false, .bool false, .bool false, .bool false, .bool false, .bool false, .bool false, .bool false, .bool false, .bool false, .slice none 0 0, .slice none 0 0, .slice none 0 0, .slice none 0 0, .slice none 0 0, .slice none 0 0, .slice none 0 0, .slice none 0 0, .slice none 0 0, .slice none 0 0, .slice none 0 0, .slice none 0 0, .slice none 0 0, .slice none 0 0, .slice none 0 0, .slice none 0 0, .slice none 0 0, .slice none 0 0, .slice none 0 0, .slice none 0 0, .slice none 0 0, .slice none 0 0, .slice none 0 0, .slice none 0 0] 52)).setCells w8.heap.size 0 (outL 4 0 (accV h) ts) = w9 at *
  generalize w8.heap.size = g9 at *
  have nX := hA5.kind
  have nY := hB5.kind
  have nZ := hC5.kind
  have vX := hA5.vec
  have vY := hB5.vec
  have vZ := hC5.vec
  have iX := info_vec (accV h) ws
  have iY := info_vec (accV h) us
  have iZ := info_vec (accV h) ts
  have HB9 := hid (fun wx (hx : Below w9.heap.size w9 wx) => And.intro (hB5.below hx hB5.lt) (hC5.below hx hC5.lt))
  clear hA5 hB5 hC5 hth hiZ ho3
  have CS := hid (vsame_any (accV h) (accV h) ws ts w9)
  rw [eqlB_one (fun _ _ => rfl)] at CS
  go_wp2_with (first | (with_reducible refine wpList_load_midG 44 _ rfl (by kernel_rfl) g1 2 rfl (vecL (accV h) ws) _ vX Tryz.underlying44 rfl iX ?_) | (with_reducible refine wpList_load_midG 44 _ rfl (by kernel_rfl) (g1 + 1) 2 rfl (vecL (accV h) us) _ vY Tryz.underlying44 rfl iY ?_) | (with_reducible refine wpList_load_midG 44 _ rfl (by kernel_rfl) g9 2 rfl (vecL (accV h) ts) _ vZ Tryz.underlying44 rfl iZ ?_))
  refine CS.out.mono ?_
  rintro e wA ⟨rfl, hA⟩
  have hbA := below_then hb9 hA
  have qB := (HB9.out _ hA).1
  have qC := (HB9.out _ hA).2
  have nY := qB.kind
  have vY := qB.vec
  have vZ := qC.vec
  clear CS hA hb9 nX nZ vX qB qC
  have CS := hid (vsame_any (accV h) (accV h) us ts wA)
  rw [eqlB_one (fun _ _ => rfl)] at CS
  go_wp2_with (first | (with_reducible refine wpList_load_midG 44 _ rfl (by kernel_rfl) (g1 + 1) 2 rfl (vecL (accV h) us) _ vY Tryz.underlying44 rfl iY ?_) | (with_reducible refine wpList_load_midG 44 _ rfl (by kernel_rfl) g9 2 rfl (vecL (accV h) ts) _ vZ Tryz.underlying44 rfl iZ ?_))
  refine CS.out.mono ?_
  rintro e wB ⟨rfl, hB⟩
  have hz := below_then hbA hB
  clear CS hB
  go_wp2_with fail
  go_ret
  exact ⟨rfl, hz⟩
 have HPA : Hid (false = true ↔ Lasts (fuelN (a : Int)) 0 (vecTo h 12).2) := hid ⟨fun e => (by cases e), fun e => (hp e).elim⟩
 by_cases hq : Lasts (fuelN ((a : Int) + (b : Int))) 0 (vecTo h 12).2
 ·have HPB : Hid (true = true ↔ Lasts (fuelN ((a : Int) + (b : Int))) 0 (vecTo h 12).2) := hid ⟨fun _ => hq, fun _ => rfl⟩
  clear hp hq
  have CX := CKB.out false (a : Int) w3 hb3 (by simpa using HPA.out)
  rw [show kindI false = 3 from rfl, show vRow h false = noB from rfl] at CX
  clear CKB2
  go_wp2_with fail
  refine CX.mono ?_
  rintro e w4 ⟨⟨ws, rfl, ho1⟩, h4⟩
  have hb4 := below_then hb3 h4
  have CY := CKB.out true ((a : Int) + (b : Int)) w4 hb4 (by simpa using HPB.out)
  rw [show kindI true = 4 from rfl, show vRow h true = accV h from rfl] at CY
  clear CX h4 hb3
  go_wp2_with fail
  refine CY.mono ?_
  rintro e w5 ⟨⟨us, rfl, ho2⟩, h5⟩
  have hb5 := below_then hb4 h5
  have hiX := info_outA 3 0 noB ws
  have hiY := info_outA 4 0 (accV h) us
  have hA0 := OutAt.zero w5
  have hx1 := box_below w5 (.cells #[.int .i64 0, .int .i64 0, .bool false, .bool false, .bool false, .bool false, .bool false, .bool false, .bool false, .bool false, .bool false, .bool false, .bool false, .bool false, .slice none 0 0, .slice none 0 0, .slice none 0 0, .slice none 0 0, .slice none 0 0, .slice none 0 0, .slice none 0 0, .slice none 0 0, .slice none 0 0, .slice none 0 0, .slice none 0 0, .slice none 0 0, .slice none 0 0, .slice none 0 0, .slice none 0 0, .slice none 0 0, .slice none 0 0, .slice none 0 0, .slice none 0 0, .slice none 0 0, .slice none 0 0, .slice none 0 0, .slice none 0 0, .slice none 0 0] 52)
  have hx2 := box_below (w5.alloc (.cells #[.int .i64 0, .int .i64 0, .bool false, .bool false, .bool false, .bool false, .bool false, .bool false, .bool false, .bool false, .bool false, .bool false, .bool false, .bool false, .slice none 0 0, .slice none 0 0, .slice none 0 0, .slice none 0 0, .slice none 0 0, .slice none 0 0, .slice none 0 0, .slice none 0 0, .slice none 0 0, .slice none 0 0, .slice none 0 0, .slice none 0 0, .slice none 0 0, .slice none 0 0, .slice none 0 0, .slice none 0 0, .slice none 0 0, .slice none 0 0, .slice none 0 0, .slice none 0 0, .slice none 0 0, .slice none 0 0, .slice none 0 0, .slice none 0 0] 52)) (.cells #[.int .i64 0, .int .i64 0, .bool false, .bool false, .bool false, .bool false, .bool false, .bool false, .bool false, .bool false, .bool false, .bool false, .bool false, .bool false, .slice none 0 0, .slice none 0 0, .slice none 0 0, .slice none 0 0, .slice none 0 0, .slice none 0 0, .slice none 0 0, .slice none 0 0, .slice none 0 0, .slice none 0 0, .slice none 0 0, .slice none 0 0, .slice none 0 0, .slice none 0 0, .slice none 0 0, .slice none 0 0, .slice none 0 0, .slice none 0 0, .slice none 0 0, .slice none 0 0, .slice none 0 0, .slice none 0 0, .slice none 0 0, .slice none 0 0] 52)
  have hs1 : (w5.alloc (.cells #[.int .i64 0, .int .i64 0, .bool false, .bool false, .bool false, .bool false, .bool false, .bool false, .bool false, .bool false, .bool false, .bool false, .bool false, .bool false, .slice none 0 0, .slice none 0 0, .slice none 0 0, .slice none 0 0, .slice none 0 0, .slice none 0 0, .slice none 0 0, .slice none 0 0, .slice none 0 0, .slice none 0 0, .slice none 0 0, .slice none 0 0, .slice none 0 0, .slice none 0 0, .slice none 0 0, .slice none 0 0, .slice none 0 0, .slice none 0 0, .slice none 0 0, .slice none 0 0, .slice none 0 0, .slice none 0 0, .slice none 0 0, .slice none 0 0] 52)).heap.size = w5.heap.size + 1 := by simp
  have hA1 := hA0.below hx2 hA0.lt
  have hB1 := OutAt.zero (w5.alloc (.cells #[.int .i64 0, .int .i64 0, .bool false, .bool false, .bool false, .bool false, .bool false, .bool false, .bool false, .bool false, .bool false, .bool false, .bool false, .bool false, .slice none 0 0, .slice none 0 0, .slice none 0 0, .slice none 0 0, .slice none 0 0, .slice none 0 0, .slice none 0 0, .slice none 0 0, .slice none 0 0, .slice none 0 0, .slice none 0 0, .slice none 0 0, .slice none 0 0, .slice none 0 0, .slice none 0 0, .slice none 0 0, .slice none 0 0, .slice none 0 0, .slice none 0 0, .slice none 0 0, .slice none 0 0, .slice none 0 0, .slice none 0 0, .slice none 0 0] 52))
  rw [hs1] at hB1
  have hthA := hA1.there (o := 0) (m := (outL 3 0 noB ws).toArray.size) (by rw [show (outL 3 0 noB ws).toArray.size = 38 from outL_len _ _ _ _]; omega)
  have hA2 := hA1.put 3 0 noB ws
  have hB2 := hB1.cells (g' := w5.heap.size) (by omega) 0 (outL 3 0 noB ws)
  have hthB := hB2.there (o := 0) (m := (outL 4 0 (accV h) us).toArray.size) (by rw [show (outL 4 0 (accV h) us).toArray.size = 38 from outL_len _ _ _ _]; omega)
  have hB3 := hB2.put 4 0 (accV h) us
  have hA3 := hA2.cells (g' := w5.heap.size + 1) (by omega) 0 (outL 4 0 (accV h) us)
  have hb6 := below_then hb5 (below_putC (show w5.heap.size ≤ w5.heap.size + 1 by omega) (outL 4 0 (accV h) us) 0 _ (below_putC (Nat.le_refl w5.heap.size) (outL 3 0 noB ws) 0 _ (below_then hx1 hx2)))
  clear CY h5 hb4 hb5 hA0 hx1 hx2 hs1 hA1 hB1 hA2 hB2
  go_upto_region 7 with (first | (with_reducible refine wpList_store_mid rfl 52 _ _ rfl w5.heap.size 0 (outL 3 0 noB ws).toArray rfl rfl hthA hiX ho1 ?_) | (with_reducible refine wpList_store_mid rfl 52 _ _ rfl (w5.heap.size + 1) 0 (outL 4 0 (accV h) us).toArray rfl rfl hthB hiY ho2 ?_))
  generalize (((w5.alloc (.cells #[.int .i64 0, .int .i64 0, .bool false, .bool false, .bool false, .bool false, .bool false, .bool false, .bool false, .bool false, .bool false, .bool false, .bool false, .bool false, .slice none 0 0, .slice none 0 0, .slice none 0 0, .slice none 0 0, .slice none 0 0, .slice none 0 0, .slice none 0 0, .slice none 0 0, .slice none 0 0, .slice none 0 0, .slice none 0 0, .slice none 0 0, .slice none 0 0, .slice none 0 0, .slice none 0 0, .slice none 0 0, .slice none 0 0, .slice none 0 0, .slice none 0 0, .slice none 0 0, .slice none 0 0, .slice none 0 0, .slice none 0 0, .slice none 0 0] 52)).alloc (.cells #[.int .i64 0, .int .i64 0, .bool false, .bool false, .bool false, .bool false, .bool false, .bool false, .bool false, .bool false, .bool false, .bool false, .bool false, .bool false, .slice none 0 0, .slice none 0 0, .slice none 0 0, .slice none 0 0, .slice none 0 0, .slice none 0 0, .slice none 0 0, .slice none 0 0, .slice none 0 0, .slice none 0 0, .slice none 0 0, .slice none 0 0, .slice none 0 0, .slice none 0 0, .slice none 0 0, .slice none 0 0, .slice none 0 0, .slice none 0 0, .slice none 0 0, .slice none 0 0, .slice none 0 0, .slice none 0 0, .slice none 0 0, .slice none 0 0] 52)).setCells w5.heap.size 0 (outL 3 0 noB ws)).setCells (w5.heap.size + 1) 0 (outL 4 0 (accV h) us) = w6 at *
  generalize w5.heap.size = g1 at *
  have CN6 := hid (CN.out _ hb6)
  have HA3 := hid hA3
  have HB3 := hid hB3
  clear hthA hthB hiX hiY ho1 ho2 hA3 hB3
  go_wp2_with fail
  refine CN6.out.mono ?_
  rintro e w7 ⟨rfl, h7⟩
  have hb7 := below_then hb6 h7
  have HA3 := hid (HA3.out.below h7 HA3.out.lt)
  have HB3 := hid (HB3.out.below h7 HB3.out.lt)
  have CC1 := hid (CE.out (h.length : Int) (opsN h : Int) w7)
  have CZ := CKB.out true ((enoughN (h.length : Int) (opsN h : Int) : Nat) : Int) w7 hb7 ⟨fun _ => HLE.out, fun _ => rfl⟩
  rw [show kindI true = 4 from rfl, show vRow h true = accV h from rfl] at CZ
  clear CN6 h7 hb6
  go_wp2_with fail
  refine CC1.out.mono ?_
  rintro e w8 ⟨rfl, rfl⟩
  clear CC1
  go_wp2_with fail
  refine CZ.mono ?_
  rintro e w8 ⟨⟨ts, rfl, ho3⟩, h8⟩
  have hb8 := below_then hb7 h8
  have hA4 := HA3.out.below h8 HA3.out.lt
  have hB4 := HB3.out.below h8 HB3.out.lt
  obtain ⟨hC5, hx9, hth⟩ := out_put w8 4 0 (accV h) ts
  have hA5 := hA4.below hx9 hA4.lt
  have hB5 := hB4.below hx9 hB4.lt
  have hiZ := info_outA 4 0 (accV h) ts
  have hb9 := below_then hb8 hx9
  clear CZ h8 hb7 hb8 hA4 hB4 hx9 HA3 HB3
  go_upto_region 8 with (with_reducible refine wpList_store_mid rfl 52 _ _ rfl w8.heap.size 0 (outL 4 0 (accV h) ts).toArray rfl rfl hth hiZ ho3 ?_)
  generalize (w8.alloc (.cells #[.int .i64 0, .int .i64 0, .bool false, .bool false, .bool false, .bool false, .bool false, .bool false, .bool false, .bool false, .bool false, .bool false, .bool false, .bool false, .slice none 0 0, .slice none 0 0, .slice none 0 0, .slice none 0 0, .slice none 0 0, .slice none 0 0, .slice none 0 0, .slice none 0 0, .slice none 0 0, .slice none 0 0, .slice none 0 0, .slice none 0 0, .slice none 0 0, .slice none 0 0, .slice none 0 0, .slice none 0 0, .slice none 0 0, .slice none 0 0, .slice none 0 0, .slice none 0 0, .slice none 0 0, .slice none 0 0, .slice none 0 0, .slice none 0 0] 52)).setCells w8.heap.size 0 (outL 4 0 (accV h) ts) = w9 at *
  generalize w8.heap.size = g9 at *
  have nX := hA5.kind
  have nY := hB5.kind
  have nZ := hC5.kind
  have vX := hA5.vec
  have vY := hB5.vec
  have vZ := hC5.vec
  have iX := info_vec noB ws
  have iY := info_vec (accV h) us
  have iZ := info_vec (accV h) ts
  have HB9 := hid (fun wx (hx : Below w9.heap.size w9 wx) => And.intro (hB5.below hx hB5.lt) (hC5.below hx hC5.lt))
  clear hA5 hB5 hC5 hth hiZ ho3
  have CS := hid (vsame_any (accV h) (accV h) us ts w9)
  rw [eqlB_one (fun _ _ => rfl)] at CS
  go_wp2_with (first | (with_reducible refine wpList_load_midG 44 _ rfl (by kernel_rfl) g1 2 rfl (vecL noB ws) _ vX Tryz.underlying44 rfl iX ?_) | (with_reducible refine wpList_load_midG 44 _ rfl (by kernel_rfl) (g1 + 1) 2 rfl (vecL (accV h) us) _ vY Tryz.underlying44 rfl iY ?_) | (with_reducible refine wpList_load_midG 44 _ rfl (by kernel_rfl) g9 2 rfl (vecL (accV h) ts) _ vZ Tryz.underlying44 rfl iZ ?_))
  refine CS.out.mono ?_
  rintro e wB ⟨rfl, hB⟩
  have hz := below_then hb9 hB
  clear CS hB
  go_wp2_with fail
  go_ret
  exact ⟨rfl, hz⟩
 have HPB : Hid (false = true ↔ Lasts (fuelN ((a : Int) + (b : Int))) 0 (vecTo h 12).2) := hid ⟨fun e => (by cases e), fun e => (hq e).elim⟩
 clear hp hq
 have CX := CKB.out false (a : Int) w3 hb3 (by simpa using HPA.out)
 rw [show kindI false = 3 from rfl, show vRow h false = noB from rfl] at CX
 clear CKB2
 go_wp2_with fail
 refine CX.mono ?_
 rintro e w4 ⟨⟨ws, rfl, ho1⟩, h4⟩
 have hb4 := below_then hb3 h4
 have CY := CKB.out false ((a : Int) + (b : Int)) w4 hb4 (by simpa using HPB.out)
 rw [show kindI false = 3 from rfl, show vRow h false = noB from rfl] at CY
 clear CX h4 hb3
 go_wp2_with fail
 refine CY.mono ?_
 rintro e w5 ⟨⟨us, rfl, ho2⟩, h5⟩
 have hb5 := below_then hb4 h5
 have hiX := info_outA 3 0 noB ws
 have hiY := info_outA 3 0 noB us
 have hA0 := OutAt.zero w5
 have hx1 := box_below w5 (.cells #[.int .i64 0, .int .i64 0, .bool false, .bool false, .bool false, .bool false, .bool false, .bool false, .bool false, .bool false, .bool false, .bool false, .bool false, .bool false, .slice none 0 0, .slice none 0 0, .slice none 0 0, .slice none 0 0, .slice none 0 0, .slice none 0 0, .slice none 0 0, .slice none 0 0, .slice none 0 0, .slice none 0 0, .slice none 0 0, .slice none 0 0, .slice none 0 0, .slice none 0 0, .slice none 0 0, .slice none 0 0, .slice none 0 0, .slice none 0 0, .slice none 0 0, .slice none 0 0, .slice none 0 0, .slice none 0 0, .slice none 0 0, .slice none 0 0] 52)
 have hx2 := box_below (w5.alloc (.cells #[.int .i64 0, .int .i64 0, .bool false, .bool false, .bool false, .bool false, .bool false, .bool false, .bool false, .bool false, .bool false, .bool false, .bool false, .bool false, .slice none 0 0, .slice none 0 0, .slice none 0 0, .slice none 0 0, .slice none 0 0, .slice none 0 0, .slice none 0 0, .slice none 0 0, .slice none 0 0, .slice none 0 0, .slice none 0 0, .slice none 0 0, .slice none 0 0, .slice none 0 0, .slice none 0 0, .slice none 0 0, .slice none 0 0, .slice none 0 0, .slice none 0 0, .slice none 0 0, .slice none 0 0, .slice none 0 0, .slice none 0 0, .slice none 0 0] 52)) (.cells #[.int .i64 0, .int .i64 0, .bool false, .bool false, .bool false, .bool false, .bool false, .bool false, .bool false, .bool false, .bool false, .bool false, .bool false, .bool false, .slice none 0 0, .slice none 0 0, .slice none 0 0, .slice none 0 0, .slice none 0 0, .slice none 0 0, .slice none 0 0, .slice none 0 0, .slice none 0 0, .slice none 0 0, .slice none 0 0, .slice none 0 0, .slice none 0 0, .slice none 0 0, .slice none 0 0, .slice none 0 0, .slice none 0 0, .slice none 0 0, .slice none 0 0, .slice none 0 0, .slice none 0 0, .slice none 0 0, .slice none 0 0, .slice none 0 0] 52)
 have hs1 : (w5.alloc (.cells #[.int .i64 0, .int .i64 0, .bool false, .bool false, .bool false, .bool false, .bool false, .bool false, .bool false, .bool false, .bool false, .bool false, .bool false, .bool false, .slice none 0 0, .slice none 0 0, .slice none 0 0, .slice none 0 0, .slice none 0 0, .slice none 0 0, .slice none 0 0, .slice none 0 0, .slice none 0 0, .slice none 0 0, .slice none 0 0, .slice none 0 0, .slice none 0 0, .slice none 0 0, .slice none 0 0, .slice none 0 0, .slice none 0 0, .slice none 0 0, .slice none 0 0, .slice none 0 0, .slice none 0 0, .slice none 0 0, .slice none 0 0, .slice none 0 0] 52)).heap.size = w5.heap.size + 1 := by simp
 have hA1 := hA0.below hx2 hA0.lt
 have hB1 := OutAt.zero (w5.alloc (.cells #[.int .i64 0, .int .i64 0, .bool false, .bool false, .bool false, .bool false, .bool false, .bool false, .bool false, .bool false, .bool false, .bool false, .bool false, .bool false, .slice none 0 0, .slice none 0 0, .slice none 0 0, .slice none 0 0, .slice none 0 0, .slice none 0 0, .slice none 0 0, .slice none 0 0, .slice none 0 0, .slice none 0 0, .slice none 0 0, .slice none 0 0, .slice none 0 0, .slice none 0 0, .slice none 0 0, .slice none 0 0, .slice none 0 0, .slice none 0 0, .slice none 0 0, .slice none 0 0, .slice none 0 0, .slice none 0 0, .slice none 0 0, .slice none 0 0] 52))
 rw [hs1] at hB1
 have hthA := hA1.there (o := 0) (m := (outL 3 0 noB ws).toArray.size) (by rw [show (outL 3 0 noB ws).toArray.size = 38 from outL_len _ _ _ _]; omega)
 have hA2 := hA1.put 3 0 noB ws
 have hB2 := hB1.cells (g' := w5.heap.size) (by omega) 0 (outL 3 0 noB ws)
 have hthB := hB2.there (o := 0) (m := (outL 3 0 noB us).toArray.size) (by rw [show (outL 3 0 noB us).toArray.size = 38 from outL_len _ _ _ _]; omega)
 have hB3 := hB2.put 3 0 noB us
 have hA3 := hA2.cells (g' := w5.heap.size + 1) (by omega) 0 (outL 3 0 noB us)
 have hb6 := below_then hb5 (below_putC (show w5.heap.size ≤ w5.heap.size + 1 by omega) (outL 3 0 noB us) 0 _ (below_putC (Nat.le_refl w5.heap.size) (outL 3 0 noB ws) 0 _ (below_then hx1 hx2)))
 clear CY h5 hb4 hb5 hA0 hx1 hx2 hs1 hA1 hB1 hA2 hB2
 go_upto_region 7 with (first | (with_reducible refine wpList_store_mid rfl 52 _ _ rfl w5.heap.size 0 (outL 3 0 noB ws).toArray rfl rfl hthA hiX ho1 ?_) | (with_reducible refine wpList_store_mid rfl 52 _ _ rfl (w5.heap.size + 1) 0 (outL 3 0 noB us).toArray rfl rfl hthB hiY ho2 ?_))
 generalize (((w5.alloc (.cells #[.int .i64 0, .int .i64 0, .bool false, .bool false, .bool false, .bool false, .bool false, .bool false, .bool false, .bool false, .bool false, .bool false, .bool false, .bool false, .slice none 0 0, .slice none 0 0, .slice none 0 0, .slice none 0 0, .slice none 0 0, .slice none 0 0, .slice none 0 0, .slice none 0 0, .slice none 0 0, .slice none 0 0, .slice none 0 0, .slice none 0 0, .slice none 0 0, .slice none 0 0, .slice none 0 0, .slice none 0 0, .slice none 0 0, .slice none 0 0, .slice none 0 0, .slice none 0 0, .slice none 0 0, .slice none 0 0, .slice none 0 0, .slice none 0 0] 52)).alloc (.cells #[.int .i64 0, .int .i64 0, .bool false, .bool false, .bool false, .bool false, .bool false, .bool false, .bool false, .bool false, .bool false, .bool false, .bool false, .bool false, .slice none 0 0, .slice none 0 0, .slice none 0 0, .slice none 0 0, .slice none 0 0, .slice none 0 0, .slice none 0 0, .slice none 0 0, .slice none 0 0, .slice none 0 0, .slice none 0 0, .slice none 0 0, .slice none 0 0, .slice none 0 0, .slice none 0 0, .slice none 0 0, .slice none 0 0, .slice none 0 0, .slice none 0 0, .slice none 0 0, .slice none 0 0, .slice none 0 0, .slice none 0 0, .slice none 0 0] 52)).setCells w5.heap.size 0 (outL 3 0 noB ws)).setCells (w5.heap.size + 1) 0 (outL 3 0 noB us) = w6 at *
 generalize w5.heap.size = g1 at *
 have CN6 := hid (CN.out _ hb6)
 have HA3 := hid hA3
 have HB3 := hid hB3
 clear hthA hthB hiX hiY ho1 ho2 hA3 hB3
 go_wp2_with fail
 refine CN6.out.mono ?_
 rintro e w7 ⟨rfl, h7⟩
 have hb7 := below_then hb6 h7
 have HA3 := hid (HA3.out.below h7 HA3.out.lt)
 have HB3 := hid (HB3.out.below h7 HB3.out.lt)
 have CC1 := hid (CE.out (h.length : Int) (opsN h : Int) w7)
 have CZ := CKB.out true ((enoughN (h.length : Int) (opsN h : Int) : Nat) : Int) w7 hb7 ⟨fun _ => HLE.out, fun _ => rfl⟩
 rw [show kindI true = 4 from rfl, show vRow h true = accV h from rfl] at CZ
 clear CN6 h7 hb6
 go_wp2_with fail
 refine CC1.out.mono ?_
 rintro e w8 ⟨rfl, rfl⟩
 clear CC1
 go_wp2_with fail
 refine CZ.mono ?_
 rintro e w8 ⟨⟨ts, rfl, ho3⟩, h8⟩
 have hb8 := below_then hb7 h8
 have hA4 := HA3.out.below h8 HA3.out.lt
 have hB4 := HB3.out.below h8 HB3.out.lt
 obtain ⟨hC5, hx9, hth⟩ := out_put w8 4 0 (accV h) ts
 have hA5 := hA4.below hx9 hA4.lt
 have hB5 := hB4.below hx9 hB4.lt
 have hiZ := info_outA 4 0 (accV h) ts
 have hb9 := below_then hb8 hx9
 clear CZ h8 hb7 hb8 hA4 hB4 hx9 HA3 HB3
 go_upto_region 8 with (with_reducible refine wpList_store_mid rfl 52 _ _ rfl w8.heap.size 0 (outL 4 0 (accV h) ts).toArray rfl rfl hth hiZ ho3 ?_)
 generalize (w8.alloc (.cells #[.int .i64 0, .int .i64 0, .bool false, .bool false, .bool false, .bool false, .bool false, .bool false, .bool false, .bool false, .bool false, .bool false, .bool false, .bool false, .slice none 0 0, .slice none 0 0, .slice none 0 0, .slice none 0 0, .slice none 0 0, .slice none 0 0, .slice none 0 0, .slice none 0 0, .slice none 0 0, .slice none 0 0, .slice none 0 0, .slice none 0 0, .slice none 0 0, .slice none 0 0, .slice none 0 0, .slice none 0 0, .slice none 0 0, .slice none 0 0, .slice none 0 0, .slice none 0 0, .slice none 0 0, .slice none 0 0, .slice none 0 0, .slice none 0 0] 52)).setCells w8.heap.size 0 (outL 4 0 (accV h) ts) = w9 at *
 generalize w8.heap.size = g9 at *
 have nX := hA5.kind
 have nY := hB5.kind
 have nZ := hC5.kind
 have vX := hA5.vec
 have vY := hB5.vec
 have vZ := hC5.vec
 have iX := info_vec noB ws
 have iY := info_vec noB us
 have iZ := info_vec (accV h) ts
 have HB9 := hid (fun wx (hx : Below w9.heap.size w9 wx) => And.intro (hB5.below hx hB5.lt) (hC5.below hx hC5.lt))
 clear hA5 hB5 hC5 hth hiZ ho3
 go_wp2_with fail
 go_ret
 exact ⟨rfl, hb9⟩
end

end Go.Proofs.YtnhkjehfmbfmmaaGreatDoor
