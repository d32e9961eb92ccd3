/- Walks and plain facts that the proof of the statement WholeMemo uses, joined: MemF SeaF SeaP BruA BruC BruD AxhD AxhF PlaQ BruE BruF OrdL LeaI LeaJ TopA TopD SeaQ. Conditions: each theorem's own. -/
import Derived.Laws.BytesArg
import Derived.RangeFuncNested
import Derived.RangeFuncCalls
import Derived.RangeFuncLeaves
import Derived.RangeFuncBound
import Derived.Shelf.Abstract
import Derived.OwnWalkIn
import Derived.TacticsInMore
import Derived.LoopNIn
import Derived.LoopIn
import Derived.Deep.AppendLies
import Derived.ArgAppend
import Derived.OneCell
import Derived.Lib.BufferWrite
import Derived.Deep.RegionHeld
import Derived.Deep.CutRange
import Derived.Deep.MidRow
import Derived.Test.YtecpeegbfeijaaaGreatDoorPWholeMemo0
import Derived.Test.YtecpeegbfeijaaaGreatDoorPWholeMemo1
import Derived.Test.YtecpeegbfeijaaaGreatDoorPWholeMemo2
import Derived.Test.YtecpeegbfeijaaaGreatDoorPWholeMemo3
import Derived.Test.YtecpeegbfeijaaaGreatDoorPWholeMemo4
namespace Go.Proofs.YtecpeegbfeijaaaGreatDoor
set_option maxHeartbeats 32000000
set_option maxRecDepth 100000
open Lib (hid)
section
open Go.RowKit
theorem infoByte : ((Tryz.prog.info? 5).map fun i => (i.zero, i.size, i.bytes)) = some (some (.int .u8 0), 1, 1) := by kernel_rfl
def u8V (l : List Nat) : List Value := l.map fun n : Nat => Value.int .u8 (n : Int)
def ByAt (w : World) (A : Nat) (F : Nat → Nat) : Prop := ∀ i, i < 64 → w.cell? ⟨A, i, none⟩ = some (.int .u8 ((F i : Nat) : Int)) ∧ w.frozen? ⟨A, i, none⟩ = false
section
variable {w w' : World} {A : Nat} {F : Nat → Nat}
theorem ByAt.lt (h : ByAt w A F) : A < w.heap.size := block_lt (h 0 (by omega)).1
theorem ByAt.block (h : ByAt w A F) (hb : w'.heap[A]? = w.heap[A]?) : ByAt w' A F := fun i hi =>
 ⟨(World.cell?_of_block (a := ⟨A, i, none⟩) hb).trans (h i hi).1, (World.frozen?_of_block (a := ⟨A, i, none⟩) hb).trans (h i hi).2⟩
theorem ByAt.below {B : Nat} (h : ByAt w A F) (hb : Below B w w') (hB : A < B) : ByAt w' A F := h.block (hb.block A hB)
theorem ByAt.set (h : ByAt w A F) {i : Nat} (hi : i < 64) (s : Nat) : ByAt (w.setCell ⟨A, i, none⟩ (.int .u8 (s : Int))) A (updN F i s) := fun k hk => by
 refine ⟨?_, by rw [World.frozen?_setCell]; exact (h k hk).2⟩
 unfold updN
 by_cases e : k = i
 ·subst e; rw [if_pos rfl]; exact World.cell?_setCell_same _ _ _ (h k hk).1
 ·rw [if_neg e, World.cell?_setCell_other _ _ _ _ (fun q => e (by injection q with _ q2; exact q2.symm))]
  exact (h k hk).1
theorem ByAt.made (w : World) (t : TypeId) (cs : Array Value) (h : ∀ i, i < 64 → cs[i]? = some (.int .u8 0)) : ByAt (w.alloc (.cells cs t)) w.heap.size (fun _ => 0) := fun i hi => by
 have hn := heap_alloc_new w (.cells cs t)
 exact ⟨by rw [cell_of_row _ _ _ _ _ _ hn]; exact h i hi, frozen_of_row _ _ _ _ _ hn⟩
end
theorem row_bytes {w : World} {base : Nat} {v : Value} {l : List Nat} (h : w.ownsRow base 5 1 v l.length (u8V l)) : (convert 192 9 v).run Tryz.prog w = .ok (.string (byteB l)) w := by
 rcases h.2 with ⟨rfl, h0⟩ | ⟨g, cap, cur, rfl, _, hg, h1, _, h2, h3⟩
 ·obtain rfl := List.eq_nil_of_length_eq_zero h0
  exact run_convert_bytes_nil (P := Tryz.prog) w 192 5 Tryz.underlying192 Tryz.underlying5 0 0 9 Tryz.underlying9
 ·have := run_convert_bytes_arg (P := Tryz.prog) w 192 5 Tryz.underlying192 Tryz.underlying5 g 0 l.length cap (l.map Int.ofNat) (by simp) (fun i hi => by
   rw [Nat.zero_add, cell_of_row _ _ _ _ _ _ hg]
   have e : cur.toList[i]? = (u8V l)[i]? := by rw [← h3, Nat.mul_one, List.getElem?_take, if_pos hi]
   rw [← Array.getElem?_toList, e]
   unfold u8V
   simp [List.getD, hi]) 9 Tryz.underlying9
  rw [this]
  congr 2
  unfold strOfNums byteB
  rw [List.map_map]
  rfl
def lastK (r : List Nat) (k : Nat) : List Nat := (r.reverse.take k).reverse
theorem lastK_succ (r : List Nat) (k : Nat) (hk : k < r.reverse.length) : lastK r (k + 1) = r.reverse[k] :: lastK r k := by
 unfold lastK; rw [List.take_succ_eq_append_getElem hk, List.reverse_append]; rfl
theorem lastK_all (r : List Nat) (k : Nat) (hk : k = r.length) : lastK r k = r := by
 unfold lastK; rw [List.take_of_length_le (by rw [List.length_reverse]; omega), List.reverse_reverse]
theorem aheadC_upd (h : List TxnV) (i : Nat) (r : List Nat) : aheadC h (i :: r) = updN (aheadC h r) i (wrOf h r).length := by
 funext k; unfold updN; rw [aheadC]
theorem mreaches_any (C : Nat) (hC : C < 9223372036854775808) (w : World) :
  Calls Tryz.prog 147 #[.int .i64 (C : Int)] w fun e w' => e = .returned (.bool (reachB C)) ∧ w = w' := by
 obtain ⟨q16, h16⟩ : ∃ q, bits .and .i64 (C : Int) 16 = q := ⟨_, rfl⟩
 obtain ⟨q4, h4⟩ : ∃ q, bits .and .i64 (C : Int) 4 = q := ⟨_, rfl⟩
 have e16 := bit_ne C 4 hC (by omega) h16
 have e4 := bit_ne C 2 hC (by omega) h4
 have HV : Hid (reachB C = (!decide (q4 = 0) && decide (q16 = 0))) := hid (by unfold reachB; rw [e16, e4]; cases decide (q16 = 0) <;> simp)
 clear e16 e4
 rw [HV.out]
 clear HV
 go_enter Tryz.func147, Tryz.ntmps147
 by_cases z4 : q4 = 0
 ·have b4 : (q4 != 0) = false := by simp [z4]
  go_wp2_with fail
  go_ret
  exact ⟨by simp [z4], rfl⟩
 ·have b4 : (q4 != 0) = true := by simp [z4]
  go_wp2_with fail
  go_ret
  refine ⟨?_, rfl⟩
  by_cases z16 : q16 = 0 <;> simp [z4, z16]
theorem lack_set {a b : Nat} (ha : IsSet a) : IsSet (lackN a b) := isSet_of_bits fun i hi => by
 unfold lackN
 rw [Nat.testBit_xor, Nat.testBit_and, ha.high hi]; simp
theorem zero_bytes (w : World) : ByAt (w.alloc (.cells #[.int .u8 0, .int .u8 0, .int .u8 0, .int .u8 0, .int .u8 0, .int .u8 0, .int .u8 0, .int .u8 0, .int .u8 0, .int .u8 0, .int .u8 0, .int .u8 0, .int .u8 0, .int .u8 0, .int .u8 0, .int .u8 0, .int .u8 0, .int .u8 0, .int .u8 0, .int .u8 0, .int .u8 0, .int .u8 0, .int .u8 0, .int .u8 0, .int .u8 0, .int .u8 0, .int .u8 0, .int .u8 0, .int .u8 0, .int .u8 0, .int .u8 0, .int .u8 0, .int .u8 0, .int .u8 0, .int .u8 0, .int .u8 0, .int .u8 0, .int .u8 0, .int .u8 0, .int .u8 0, .int .u8 0, .int .u8 0, .int .u8 0, .int .u8 0, .int .u8 0, .int .u8 0, .int .u8 0, .int .u8 0, .int .u8 0, .int .u8 0, .int .u8 0, .int .u8 0, .int .u8 0, .int .u8 0, .int .u8 0, .int .u8 0, .int .u8 0, .int .u8 0, .int .u8 0, .int .u8 0, .int .u8 0, .int .u8 0, .int .u8 0, .int .u8 0] 193)) w.heap.size (fun _ => 0) := ByAt.made w _ _ fun i hi => by
 rw [show (#[.int .u8 0, .int .u8 0, .int .u8 0, .int .u8 0, .int .u8 0, .int .u8 0, .int .u8 0, .int .u8 0, .int .u8 0, .int .u8 0, .int .u8 0, .int .u8 0, .int .u8 0, .int .u8 0, .int .u8 0, .int .u8 0, .int .u8 0, .int .u8 0, .int .u8 0, .int .u8 0, .int .u8 0, .int .u8 0, .int .u8 0, .int .u8 0, .int .u8 0, .int .u8 0, .int .u8 0, .int .u8 0, .int .u8 0, .int .u8 0, .int .u8 0, .int .u8 0, .int .u8 0, .int .u8 0, .int .u8 0, .int .u8 0, .int .u8 0, .int .u8 0, .int .u8 0, .int .u8 0, .int .u8 0, .int .u8 0, .int .u8 0, .int .u8 0, .int .u8 0, .int .u8 0, .int .u8 0, .int .u8 0, .int .u8 0, .int .u8 0, .int .u8 0, .int .u8 0, .int .u8 0, .int .u8 0, .int .u8 0, .int .u8 0, .int .u8 0, .int .u8 0, .int .u8 0, .int .u8 0, .int .u8 0, .int .u8 0, .int .u8 0, .int .u8 0] : Array Value) = (List.replicate 64 (Value.int .u8 0)).toArray from rfl, List.getElem?_toArray, List.getElem?_replicate, if_pos hi]
theorem hasB_bit {s : Nat} {j : Nat} (hj : j < 64) : hasB s (j : Int) = s.testBit j := by
 unfold hasB
 rw [Int.toNat_natCast, show decide (0 ≤ (j : Int) ∧ (j : Int) < 64) = true by simp; omega, Bool.true_and]
theorem own_form {w : World} {base : Nat} {e : TypeId} {size n : Nat} {v : Value} {xs : List Value} (h : w.ownsRow base e size v n xs) : ∃ ao cap, v = .slice ao n cap := by
 rcases h.2 with ⟨rfl, rfl⟩ | ⟨g, cap, cur, rfl, _⟩
 ·exact ⟨_, _, rfl⟩
 ·exact ⟨_, _, rfl⟩
theorem u8V_app (l : List Nat) (n : Nat) : u8V (l ++ [n]) = u8V l ++ [.int .u8 (n : Int)] := by unfold u8V; rw [List.map_append]; rfl
theorem wrap_u8 {n : Nat} (h : n < 256) : IntKind.u8.wrap (n : Int) = (n : Int) := by
 have : IntKind.u8.wrap (n : Int) = (n : Int) % 256 := by rfl
 rw [this]; omega
structure KyAt (w : World) (g p : Nat) (s : ByteArray) : Prop where
 c0 : w.cell? ⟨g, 0, none⟩ = some (.int .u64 (p : Int))
 c1 : w.cell? ⟨g, 1, none⟩ = some (.string s)
 f0 : w.frozen? ⟨g, 0, none⟩ = false
 f1 : w.frozen? ⟨g, 1, none⟩ = false
section
variable {w w' : World} {g p : Nat} {s : ByteArray}
theorem KyAt.lt (h : KyAt w g p s) : g < w.heap.size := block_lt h.c0
theorem KyAt.block (h : KyAt w g p s) (hb : w'.heap[g]? = w.heap[g]?) : KyAt w' g p s :=
 ⟨(World.cell?_of_block (a := ⟨g, 0, none⟩) hb).trans h.c0, (World.cell?_of_block (a := ⟨g, 1, none⟩) hb).trans h.c1, (World.frozen?_of_block (a := ⟨g, 0, none⟩) hb).trans h.f0, (World.frozen?_of_block (a := ⟨g, 1, none⟩) hb).trans h.f1⟩
theorem KyAt.below (h : KyAt w g p s) (hb : Below w.heap.size w w') : KyAt w' g p s := h.block (hb.block g h.lt)
theorem KyAt.made (w : World) : KyAt (w.alloc (.cells #[.int .u64 0, .string ⟨#[]⟩] 156)) w.heap.size 0 ⟨#[]⟩ := by
 have hn := heap_alloc_new w (.cells #[.int .u64 0, .string ⟨#[]⟩] 156)
 refine ⟨?_, ?_, frozen_of_row _ _ _ _ _ hn, frozen_of_row _ _ _ _ _ hn⟩ <;> (rw [cell_of_row _ _ _ _ _ _ hn]; rfl)
theorem KyAt.set (h : KyAt w g p s) (q : Nat) (u : ByteArray) : KyAt ((w.setCell ⟨g, 0, none⟩ (.int .u64 (q : Int))).setCell ⟨g, 1, none⟩ (.string u)) g q u := by
 refine ⟨?_, ?_, ?_, ?_⟩
 ·rw [World.cell?_setCell_other _ _ _ _ (by simp)]
  exact World.cell?_setCell_same _ _ _ h.c0
 ·exact World.cell?_setCell_same _ _ _ (by rw [World.cell?_setCell_other _ _ _ _ (by simp)]; exact h.c1)
 ·simp only [World.frozen?_setCell]; exact h.f0
 ·simp only [World.frozen?_setCell]; exact h.f1
end
structure OfB (N A : Nat) (rv : Value) (bs : List Nat) (F : Nat → Nat) (w4 wr : World) : Prop where
 own : wr.ownsRow N 5 1 rv bs.length (u8V bs)
 tab : ByAt wr A F
 gr : w4.grownBy wr (some A)
 len : bs.length ≤ 128
section
variable {N A : Nat} {rv : Value} {bs : List Nat} {F : Nat → Nat} {w4 wr w6 : World}
theorem OfB.set (q : OfB N A rv bs F w4 wr) (hA : A < N) {i : Nat} (hi : i < 64) (s : Nat) : OfB N A rv bs (updN F i s) w4 (wr.setCell ⟨A, i, none⟩ (.int .u8 (s : Int))) := by
 have hs : Below 0 wr (wr.setCell ⟨A, i, none⟩ (.int .u8 (s : Int))) := (Below.refl 0 wr).setCell (Nat.zero_le _) _
 refine ⟨pl_far q.own hA _, q.tab.set hi s, ⟨hs.os.trans q.gr.os, hs.tape.trans q.gr.tape, hs.output.trans q.gr.output, Nat.le_trans q.gr.size hs.size, fun k hk hne => ?_⟩, q.len⟩
 rw [Below.heap_setCell wr ⟨A, i, none⟩ _ k (fun e => hne (by rw [e]))]
 exact q.gr.block k hk hne
theorem OfB.app (q : OfB N A rv bs F w4 wr) (hA : A < N) (hN : N = w4.heap.size) {o : Obj} {v' : Value} {n : Nat} (hl : bs.length + 1 ≤ 128) (hown : w6.ownsRow N 5 1 v' (bs.length + 1) (u8V bs ++ [.int .u8 (n : Int)])) (hg : (wr.alloc o).grownBy w6 rv.ownBlock) : OfB N A v' (bs ++ [n]) F w4 w6 := by
 have hlo := q.own.lt
 have hAr : rv.ownBlock ≠ some A := fun e => by have := (hlo A e).1; omega
 have hAl := q.tab.lt
 have hz : wr.heap.size ≤ (wr.alloc o).heap.size := by simp
 refine ⟨by rw [u8V_app, List.length_append]; exact hown, q.tab.block ((hg.block A (by omega) (fun e => hAr e.symm)).trans (Below.heap_alloc wr o A hAl)), ⟨hg.os.trans q.gr.os, hg.tape.trans q.gr.tape, hg.output.trans q.gr.output, Nat.le_trans q.gr.size (Nat.le_trans hz hg.size), fun k hk hne => ?_⟩, by rw [List.length_append]; exact hl⟩
 have hkr : k < wr.heap.size := Nat.lt_of_lt_of_le hk q.gr.size
 rw [hg.block k (by omega) (fun e => by have := (hlo k e.symm).1; omega), Below.heap_alloc wr o k hkr]
 exact q.gr.block k hk hne
theorem OfB.below (q : OfB N A rv bs F w4 wr) (hb : Below wr.heap.size wr w6) : OfB N A rv bs F w4 w6 :=
 ⟨owns_below q.own hb, q.tab.below hb q.tab.lt, ⟨hb.os.trans q.gr.os, hb.tape.trans q.gr.tape, hb.output.trans q.gr.output, Nat.le_trans q.gr.size hb.size, fun k hk hne => (hb.block k (Nat.lt_of_lt_of_le hk q.gr.size)).trans (q.gr.block k hk hne)⟩, q.len⟩
end
section
variable {W : World} {S B b : Nat} {h : List TxnV} {C : Nat} {r : List Nat} {vb vr : Value} {aF sF : Nat → Nat} {w : World}
theorem mof_any (p : PlIs W S B b h C r vb vr aF sF w) (hc : checkI h = 0) (hC : C < 9223372036854775808) :
  Calls Tryz.prog 97 #[.pointer (some ⟨B, 0, none⟩), .pointer (some ⟨S, 0, none⟩)] w fun e w' => e = .returned (kV (plS r) (keyB h C r)) ∧ Below w.heap.size w w' := by
 have h64 := (check_zero hc).1
 obtain ⟨i0, hi, hz0, hz1, hz2⟩ := info_parts infoByte
 have hrl : r.length ≤ 64 := by have := p.len; omega
 have hlt64 : ∀ k ∈ r, k < 64 := fun k hk => by have := p.lt k hk; omega
 have P := hid p
 have CP := hid (fun wx (hx : Below w.heap.size w wx) => pplaced_any (p.below hx))
 have CW := hid (fun wx (hx : Below w.heap.size w wx) => mwriters_any (p.below hx).ord hc)
 have CR := hid (fun wx (hx : Below w.heap.size w wx) => prow_at (p.below hx) h64)
 have CA := hid (fun wx (hx : Below w.heap.size w wx) => pasks_any (p.below hx))
 have CL := hid (fun wx (hx : Below w.heap.size w wx) => list_any (lackN (plS r) (wAllN h)) wx (lack_set (plS_set r)) (p.below hx).tab)
 have CH := hid (fun (n : Int) wx => has_any (wAllN h) n wx (wAll_set h))
 have CM := hid (fun wx => mreaches_any C hC wx)
 have HLT := hid hlt64
 have HLK : Hid (bits .andNot .u64 ((plS r : Nat) : Int) ((wAllN h : Nat) : Int) = ((lackN (plS r) (wAllN h) : Nat) : Int)) := hid (bits_andNot_u64_nat _ _ (plS_set r) (wAll_set h))
 have hb0 := box_below w (.cells #[.int .u64 0, .string ⟨#[]⟩] 156)
 have hky : ∀ wx, Below (w.heap.size + 1) (w.alloc (.cells #[.int .u64 0, .string ⟨#[]⟩] 156)) wx → KyAt wx w.heap.size 0 ⟨#[]⟩ := fun wx hx => by
  exact (KyAt.made w).block (hx.block w.heap.size (Nat.lt_succ_self _))
 have hs0 : (w.alloc (.cells #[.int .u64 0, .string ⟨#[]⟩] 156)).heap.size = w.heap.size + 1 := by simp
 have HKY := hid hky
 clear p hlt64 hky
 go_enter Tryz.func97, Tryz.ntmps97
 go_upto_region 1 with fail
 generalize w.alloc (.cells #[.int .u64 0, .string ⟨#[]⟩] 156) = w0 at *
 go_wp2_with fail
 refine (CP.out _ hb0).mono ?_
 rintro e wq ⟨rfl, rfl⟩
 go_wp2_with fail
 refine (CW.out _ hb0).mono ?_
 rintro e w1 ⟨rfl, hb1⟩
 have hk1 : Below (w.heap.size + 1) w0 w1 := by rw [← hs0]; exact hb1
 have hb1 := below_then hb0 hb1
 clear hb0 CP CW
 go_upto_region 4 with fail
 have z2 := zero_bytes w1
 have hb2 := hb1.alloc hb1.size (.cells #[.int .u8 0, .int .u8 0, .int .u8 0, .int .u8 0, .int .u8 0, .int .u8 0, .int .u8 0, .int .u8 0, .int .u8 0, .int .u8 0, .int .u8 0, .int .u8 0, .int .u8 0, .int .u8 0, .int .u8 0, .int .u8 0, .int .u8 0, .int .u8 0, .int .u8 0, .int .u8 0, .int .u8 0, .int .u8 0, .int .u8 0, .int .u8 0, .int .u8 0, .int .u8 0, .int .u8 0, .int .u8 0, .int .u8 0, .int .u8 0, .int .u8 0, .int .u8 0, .int .u8 0, .int .u8 0, .int .u8 0, .int .u8 0, .int .u8 0, .int .u8 0, .int .u8 0, .int .u8 0, .int .u8 0, .int .u8 0, .int .u8 0, .int .u8 0, .int .u8 0, .int .u8 0, .int .u8 0, .int .u8 0, .int .u8 0, .int .u8 0, .int .u8 0, .int .u8 0, .int .u8 0, .int .u8 0, .int .u8 0, .int .u8 0, .int .u8 0, .int .u8 0, .int .u8 0, .int .u8 0, .int .u8 0, .int .u8 0, .int .u8 0, .int .u8 0] 193)
 have hk2 := hk1.alloc (by rw [← hs0]; exact hk1.size) (.cells #[.int .u8 0, .int .u8 0, .int .u8 0, .int .u8 0, .int .u8 0, .int .u8 0, .int .u8 0, .int .u8 0, .int .u8 0, .int .u8 0, .int .u8 0, .int .u8 0, .int .u8 0, .int .u8 0, .int .u8 0, .int .u8 0, .int .u8 0, .int .u8 0, .int .u8 0, .int .u8 0, .int .u8 0, .int .u8 0, .int .u8 0, .int .u8 0, .int .u8 0, .int .u8 0, .int .u8 0, .int .u8 0, .int .u8 0, .int .u8 0, .int .u8 0, .int .u8 0, .int .u8 0, .int .u8 0, .int .u8 0, .int .u8 0, .int .u8 0, .int .u8 0, .int .u8 0, .int .u8 0, .int .u8 0, .int .u8 0, .int .u8 0, .int .u8 0, .int .u8 0, .int .u8 0, .int .u8 0, .int .u8 0, .int .u8 0, .int .u8 0, .int .u8 0, .int .u8 0, .int .u8 0, .int .u8 0, .int .u8 0, .int .u8 0, .int .u8 0, .int .u8 0, .int .u8 0, .int .u8 0, .int .u8 0, .int .u8 0, .int .u8 0, .int .u8 0] 193)
 have hs2 : (w1.alloc (.cells #[.int .u8 0, .int .u8 0, .int .u8 0, .int .u8 0, .int .u8 0, .int .u8 0, .int .u8 0, .int .u8 0, .int .u8 0, .int .u8 0, .int .u8 0, .int .u8 0, .int .u8 0, .int .u8 0, .int .u8 0, .int .u8 0, .int .u8 0, .int .u8 0, .int .u8 0, .int .u8 0, .int .u8 0, .int .u8 0, .int .u8 0, .int .u8 0, .int .u8 0, .int .u8 0, .int .u8 0, .int .u8 0, .int .u8 0, .int .u8 0, .int .u8 0, .int .u8 0, .int .u8 0, .int .u8 0, .int .u8 0, .int .u8 0, .int .u8 0, .int .u8 0, .int .u8 0, .int .u8 0, .int .u8 0, .int .u8 0, .int .u8 0, .int .u8 0, .int .u8 0, .int .u8 0, .int .u8 0, .int .u8 0, .int .u8 0, .int .u8 0, .int .u8 0, .int .u8 0, .int .u8 0, .int .u8 0, .int .u8 0, .int .u8 0, .int .u8 0, .int .u8 0, .int .u8 0, .int .u8 0, .int .u8 0, .int .u8 0, .int .u8 0, .int .u8 0] 193)).heap.size = w1.heap.size + 1 := by simp
 have hA1 : w.heap.size + 1 ≤ w1.heap.size := by have := hk1.size; omega
 clear hb1 hk1 hs0
 generalize w1.alloc (.cells #[.int .u8 0, .int .u8 0, .int .u8 0, .int .u8 0, .int .u8 0, .int .u8 0, .int .u8 0, .int .u8 0, .int .u8 0, .int .u8 0, .int .u8 0, .int .u8 0, .int .u8 0, .int .u8 0, .int .u8 0, .int .u8 0, .int .u8 0, .int .u8 0, .int .u8 0, .int .u8 0, .int .u8 0, .int .u8 0, .int .u8 0, .int .u8 0, .int .u8 0, .int .u8 0, .int .u8 0, .int .u8 0, .int .u8 0, .int .u8 0, .int .u8 0, .int .u8 0, .int .u8 0, .int .u8 0, .int .u8 0, .int .u8 0, .int .u8 0, .int .u8 0, .int .u8 0, .int .u8 0, .int .u8 0, .int .u8 0, .int .u8 0, .int .u8 0, .int .u8 0, .int .u8 0, .int .u8 0, .int .u8 0, .int .u8 0, .int .u8 0, .int .u8 0, .int .u8 0, .int .u8 0, .int .u8 0, .int .u8 0, .int .u8 0, .int .u8 0, .int .u8 0, .int .u8 0, .int .u8 0, .int .u8 0, .int .u8 0, .int .u8 0, .int .u8 0] 193) = w2 at *
 generalize w1.heap.size = A at *
 go_wp2_with fail
 refine (CR.out _ hb2).mono ?_
 rintro e w4 ⟨v, rfl, rfl, hI, hb4⟩
 have z4 := z2.below hb4 z2.lt
 have hk4 : Below (w.heap.size + 1) w0 w4 := hk2.trans (hb4.mono (by omega))
 have hb4 := below_then hb2 hb4
 rw [hs2] at hI ⊢
 have hA : A < w4.heap.size := z4.lt
 have hAw : w.heap.size ≤ A := by omega
 have hw4 : w.heap.size + 1 ≤ w4.heap.size := by omega
 have HI := hid (fun wx (hg : w4.grownBy wx (some A)) => hI.grown hg (fun b e e2 => by
  simp only [Value.ownBlock, Option.some.injEq] at e e2
  omega))
 have HG := hid (fun wx (hg : w4.grownBy wx (some A)) => hb4.grown hg hb4.size (fun j e => by injection e with e; omega))
 have HKG := hid (fun wx (hg : w4.grownBy wx (some A)) => hk4.grown hg hw4 (fun j e => by injection e with e; omega))
 have q0 : OfB w4.heap.size A (.slice none 0 0) [] (fun _ => 0) w4 w4 := ⟨World.ownsRow_nil _ _ _ _, z4, World.grownBy.refl _ _, by simp⟩
 clear hs2 CR z2 z4 hb2 hk2 hk4 hb4 hI
 go_wp2_with fail
 go_loopw [7, 20] (fun rv iv wr => ∃ (k : Nat) (bs : List Nat) (F : Nat → Nat), k ≤ r.length ∧ iv = .int .i64 k ∧ bs.length ≤ k ∧ OfB w4.heap.size A rv bs F w4 wr ∧ Hid (bs = (wrOf h (lastK r k)).reverse ∧ F = aheadC h (lastK r k))) (fun _ iv _ => r.length - (intOf iv).toNat)
 case atStart => exact ⟨0, [], fun _ => 0, Nat.zero_le _, rfl, Nat.zero_le _, q0, hid ⟨rfl, rfl⟩⟩
 case round =>
  clear q0
  obtain ⟨k, bs, F, hk, rfl, hbk, q, HQ⟩ := hrel
  obtain ⟨ro, rc, rfl⟩ := own_form q.own
  by_cases hkl : k < r.length
  ·have hki : (k : Int) < (r.length : Int) := by omega
   have hkL : k < r.reverse.length := by rw [List.length_reverse]; exact hkl
   obtain ⟨ga, oa, hao, e0⟩ := ints_at (HI.out _ q.gr) hkL
   cases hao
   rw [Nat.zero_add] at e0
   have hi64 : r.reverse[k] < 64 := HLT.out _ (List.mem_reverse.1 (List.getElem_mem hkL))
   have HL1 := hid (lastK_succ r k hkL)
   generalize r.reverse[k] = i at *
   have hi64i : (i : Int) < 64 := by omega
   have hb64 : bs.length < 256 := by omega
   have hwl := wrap_u8 hb64
   have hwi := wrap_u8 (show i < 256 by omega)
   obtain ⟨t0, t1⟩ := q.tab i hi64
   have HS := hid (q.set hA hi64 bs.length)
   have CHI := hid (fun wx => CH.out (i : Int) wx)
   rw [hasB_bit hi64] at CHI
   clear q
   go_upto_region 8 with fail
   have q := HS.out
   clear HS t0 t1 e0
   generalize wr.setCell ⟨A, i, none⟩ (.int .u8 (bs.length : Int)) = w5 at *
   go_wp2_with fail
   refine (CHI.out _).mono ?_
   rintro e wq ⟨rfl, rfl⟩
   clear CHI
   cases hw : (wAllN h).testBit i with
   | true =>
    have HR : Hid (bs ++ [i] = (wrOf h (lastK r (k + 1))).reverse ∧ updN F i bs.length = aheadC h (lastK r (k + 1))) := hid (by
     obtain ⟨a1, a2⟩ := HQ.out
     rw [HL1.out, wrOf_cons, if_pos hw, List.reverse_cons, ← a1, aheadC_upd, ← a2, a1, List.length_reverse]
     exact ⟨rfl, rfl⟩)
    have hown := q.own
    clear HQ HL1 hw
    go_wp2_with (at_builtin; refine wpList_append_own _ rfl _ _ 192 rfl w4.heap.size 5 i0 (.int .u8 0) 1 1 Tryz.underlying192 hi hz0 hz1 hz2 rfl (by decide) _ _ _ rfl (hown.alloc _) ⟨_, 0, none⟩ 1 1 [.int .u8 (i : Int)] rfl rfl ?c1 ?c2 ?c3 ?c4 ?c5 ?_)
    try case c1 => exact cell_one_new _ _ _
    case c2 => first | rfl | (intro u hu; simp at hu; subst hu; rfl)
    case c3 => unfold maxLen; omega
    case c4 => omega
    case c5 => have := q.gr.size; simp; omega
    intro v6 w6 hown6 hg6 _
    have q := q.app hA rfl (by omega) hown6 hg6
    clear hown hown6 hg6
    go_wp2_with fail
    go_roundw
    case rel => exact ⟨k + 1, bs ++ [i], _, by omega, by go_num, by simp; omega, q, HR⟩
    case measure => simp [intOf]; omega
   | false =>
    have HR : Hid (bs = (wrOf h (lastK r (k + 1))).reverse ∧ updN F i bs.length = aheadC h (lastK r (k + 1))) := hid (by
     obtain ⟨a1, a2⟩ := HQ.out
     rw [HL1.out, wrOf_cons, hw, aheadC_upd, ← a2, a1, List.length_reverse]
     exact ⟨rfl, rfl⟩)
    clear HQ HL1 hw
    go_wp2_with fail
    go_roundw
    case rel => exact ⟨k + 1, bs, _, by omega, by go_num, by omega, q, HR⟩
    case measure => simp [intOf]; omega
  ·have hkn : k = r.length := by omega
   have HV : Hid (bs = (wrOf h r).reverse ∧ F = aheadC h r) := hid (by have := HQ.out; rwa [lastK_all r k hkn] at this)
   have hbl : bs.length ≤ 64 := by omega
   have CA1 := hid (CA.out _ (HG.out _ q.gr))
   clear HQ hkl hbk CA HI HLT
   subst hkn
   go_wp2_with fail
   refine CA1.out.mono ?_
   rintro e wq ⟨rfl, rfl⟩
   go_wp2_with fail
   refine (CM.out _).mono ?_
   rintro e wq ⟨rfl, rfl⟩
   clear CA1 CM
   cases hpf : reachB C with
   | false =>
    have HE : Hid (keyB h C r = byteB bs) := hid (by unfold keyB keyL; rw [hpf, HV.out.1]; simp)
    clear CL CH hpf
    have hcv := row_bytes q.own
    have KY := hid ((HKY.out _ (HKG.out _ q.gr)).set (plS r) (byteB bs))
    obtain ⟨y0, y1, y2, y3⟩ := HKY.out _ (HKG.out _ q.gr)
    have hZ := ((HG.out _ q.gr).setCell (p := ⟨w.heap.size, 0, none⟩) (Nat.le_refl _) (.int .u64 ((plS r : Nat) : Int))).setCell (p := ⟨w.heap.size, 1, none⟩) (Nat.le_refl _) (.string (byteB bs))
    have HZ := hid hZ
    clear hZ
    go_wp2_with fail
    obtain ⟨d0, d1, _, _⟩ := KY.out
    refine bodyPost_ret (v := .agg #[.int .u64 ((plS r : Nat) : Int), .string (byteB bs)]) ?_ rfl ⟨by rw [HE.out]; rfl, HZ.out⟩
    simp [results, Tryz.results97, go_sem, d0, d1]
   | true =>
    have CL1 := hid (CL.out _ (HG.out _ q.gr))
    have HE : Hid (keyB h C r = byteB (bs ++ (lst (lackN (plS r) (wAllN h))).map F)) := hid (by unfold keyB keyL; rw [hpf, HV.out.1, HV.out.2]; simp)
    have HLS : Hid (∀ n ∈ lst (lackN (plS r) (wAllN h)), n < 64) := hid (fun n hn => (mem_lst.1 hn).1)
    have hll : (lst (lackN (plS r) (wAllN h))).length ≤ 64 := by
     unfold lst lstTo
     exact Nat.le_trans (List.length_filter_le _ _) (by simp)
    have hlk := HLK.out
    clear CL CH hpf HV
    go_wp2_with fail
    clear hlk
    refine CL1.out.mono ?_
    rintro e w7 ⟨vl, rfl, hvl, hb7⟩
    have q := q.below hb7
    clear CL1 hb7
    generalize lst (lackN (plS r) (wAllN h)) = ls at *
    obtain ⟨lo, lc, rfl⟩ := own_form hvl
    generalize wr.heap.size = N7 at *
    go_wp2_with fail
    go_loopw [7, 46] (fun rv iv wx => ∃ (j : Nat) (cs : List Nat), j ≤ ls.length ∧ iv = .int .i64 j ∧ cs.length ≤ 64 + j ∧ OfB w4.heap.size A rv cs F w4 wx ∧ wx.ownsRow N7 3 1 (.slice lo ls.length lc) ls.length (ls.map fun i : Nat => Value.int .i64 (i : Int)) ∧ Hid (cs = bs ++ (ls.take j).map F)) (fun _ iv _ => ls.length - (intOf iv).toNat)
    case atStart => exact ⟨0, bs, Nat.zero_le _, rfl, by omega, q, hvl, hid (by simp)⟩
    case round =>
     clear q hvl
     obtain ⟨j, cs, hj, rfl, hcl, q, hvl, HC⟩ := hrel
     obtain ⟨ro, rc, rfl⟩ := own_form q.own
     by_cases hjl : j < ls.length
     ·have hji : (j : Int) < (ls.length : Int) := by omega
      obtain ⟨ga, oa, hao, e0⟩ := ints_at (Ints.of_nats hvl) hjl
      cases hao
      have hn64 := HLS.out _ (List.getElem_mem hjl)
      have HR : Hid (cs ++ [F ls[j]] = bs ++ (ls.take (j + 1)).map F) := hid (by rw [HC.out, List.take_succ_eq_append_getElem hjl, List.map_append, List.append_assoc]; rfl)
      generalize ls[j] = n at *
      have hn64i : (n : Int) < 64 := by omega
      obtain ⟨t0, t1⟩ := q.tab n hn64
      generalize F n = x at *
      have hown := q.own
      clear HC t1
      go_wp2_with (at_builtin; refine wpList_append_own _ rfl _ _ 192 rfl w4.heap.size 5 i0 (.int .u8 0) 1 1 Tryz.underlying192 hi hz0 hz1 hz2 rfl (by decide) _ _ _ rfl (hown.alloc _) ⟨_, 0, none⟩ 1 1 [.int .u8 (x : Int)] rfl rfl ?c1 ?c2 ?c3 ?c4 ?c5 ?_)
      try case c1 => exact cell_one_new _ _ _
      case c2 => first | rfl | (intro u hu; simp at hu; subst hu; rfl)
      case c3 => unfold maxLen; omega
      case c4 => omega
      case c5 => have := q.gr.size; simp; omega
      intro v6 w6 hown6 hg6 _
      have hvl := (hvl.alloc (.cells #[.int .u8 (x : Int)] 5)).kept hg6 (owns_apart (hvl.alloc (.cells #[.int .u8 (x : Int)] 5)) (hown.alloc (.cells #[.int .u8 (x : Int)] 5)) (by decide))
      have q := q.app hA rfl (by omega) hown6 hg6
      clear hown hown6 hg6 e0 t0
      go_wp2_with fail
      go_roundw
      case rel => exact ⟨j + 1, cs ++ [x], by omega, by go_num, by simp; omega, q, hvl, HR⟩
      case measure => simp [intOf]; omega
     ·have hjn : j = ls.length := by omega
      have HE : Hid (keyB h C r = byteB cs) := hid (by rw [HE.out, HC.out, List.take_of_length_le (by omega)])
      clear HC hvl hjl
      have hcv := row_bytes q.own
      have KY := hid ((HKY.out _ (HKG.out _ q.gr)).set (plS r) (byteB cs))
      obtain ⟨y0, y1, y2, y3⟩ := HKY.out _ (HKG.out _ q.gr)
      have hZ := ((HG.out _ q.gr).setCell (p := ⟨w.heap.size, 0, none⟩) (Nat.le_refl _) (.int .u64 ((plS r : Nat) : Int))).setCell (p := ⟨w.heap.size, 1, none⟩) (Nat.le_refl _) (.string (byteB cs))
      have HZ := hid hZ
      clear hZ
      go_wp2_with fail
      obtain ⟨d0, d1, _, _⟩ := KY.out
      refine bodyPost_ret (v := .agg #[.int .u64 ((plS r : Nat) : Int), .string (byteB cs)]) ?_ rfl ⟨by rw [HE.out]; rfl, HZ.out⟩
      simp [results, Tryz.results97, go_sem, d0, d1]
end
end

section
open Go.RowKit
theorem keyB_len (h : List TxnV) (C : Nat) (r : List Nat) (hr : r.length ≤ 64) : (keyB h C r).size ≤ maxLen := by
 have h1 : (keyB h C r).size = (keyL h C r).length := by unfold keyB byteB ByteArray.size; simp
 have h2 : (keyL h C r).length ≤ 128 := by
  unfold keyL
  rw [List.length_append, List.length_reverse]
  have h3 := wrOf_le (h := h) (r := r)
  have h4 : (lst (lackN (plS r) (wAllN h))).length ≤ 64 := by
   unfold lst lstTo
   exact Nat.le_trans (List.length_filter_le _ _) (by simp)
  split
  ·rw [List.length_map]; omega
  ·simp; omega
 rw [h1]; unfold maxLen; omega
theorem plS_lt (r : List Nat) : plS r < 18446744073709551616 := plS_set r
theorem has_pl {r : List Nat} (hlt : ∀ k ∈ r, k < 64) {j : Nat} (hj : j < 64) : hasB (plS r) (j : Int) = decide (j ∈ r) := by
 unfold hasB
 rw [Int.toNat_natCast, plS_bit j r hlt, show decide (0 ≤ (j : Int) ∧ (j : Int) < 64) = true by simp; omega]
 simp
section
variable {w0 w : World} {N S B b : Nat} {h : List TxnV} {C : Nat} {r : List Nat} {vb vr : Value} {aF sF : Nat → Nat}
theorem xof_any (p : PlX w0 N S B b h C r vb vr aF sF w) (hc : checkI h = 0) (hC : C < 9223372036854775808) :
  Calls Tryz.prog 97 #[.pointer (some ⟨B, 0, none⟩), .pointer (some ⟨S, 0, none⟩)] w fun e w' => e = .returned (kV (plS r) (keyB h C r)) ∧ Below w.heap.size w w' := by
 obtain ⟨W, _, _, q⟩ := p; exact mof_any q hc hC
theorem PlX.ord (p : PlX w0 N S B b h C r vb vr aF sF w) : OrdIs w B b h := by obtain ⟨W, _, _, q⟩ := p; exact q.ord
end
section
variable {w0 : World} {N S B b : Nat} {h : List TxnV} {C X Mb T F : Nat} {vb : Value}
end
end

section
theorem zA5 {α : Type _} (l : List α) (i : Nat) (a : α) : l.toArray.setIfInBounds i a = (l.set i a).toArray := List.setIfInBounds_toArray ..
theorem zB5 {α : Type _} {x : α} {xs : List α} {a : α} : (x :: xs).set 0 a = a :: xs := List.set_cons_zero
theorem zC5 {α : Type _} {x : α} {xs : List α} {i : Nat} {a : α} : (x :: xs).set (i + 1) a = x :: xs.set i a := List.set_cons_succ
theorem tG5 {P : Program} {ops : Array Oper} {Q : Exit → Act → World → Prop} {md : Region.Mode} {S : World → Prop} (d : Option Tmp) (i : Nat) {oi : Oper} (v : Value) {fuel : Nat} {listed : Array Bool} {a : Act} {w : World} (hi : ops[i]? = some oi) (hd : oi.dst = d)
 (hy : YieldsIf P ops S oi v a) (hS : S w) (h : wpAnyH P md ops Q S fuel (listed.setIfInBounds i true) (a.put d v) w)
 (hs : Region.noSelect ops = true := by kernel_rfl) (hf : Region.free md ops listed i = true := by kernel_rfl) (hr : (Region.ready md ops listed).contains i = true := by kernel_rfl)
 (hQ : ∀ c a w, Q (.panic c) (a.put oi.dst v) w → Q (.panic c) a w := by exact fun _ _ _ h => h) : wpAnyH P md ops Q S (fuel + 1) listed a w := takeG d hi hd hs hf hr hQ hy hS h
theorem tA5 {P : Program} {ops : Array Oper} {Q : Exit → Act → World → Prop} {md : Region.Mode} {S : World → Prop} (d : Option Tmp) (i : Nat) {oi : Oper} {v : Value} {fuel : Nat} {listed : Array Bool} {a : Act} {w : World} (hi : ops[i]? = some oi) (hd : oi.dst = d)
 (hS : S w) (h : wpAnyH P md ops Q S fuel (listed.setIfInBounds i true) (a.put d v) w)
 (hy : YieldsIf P ops S oi v a := by exact Or.inl ⟨by rfl, by intro w _; go_simp; try (with_reducible rfl)⟩)
 (hs : Region.noSelect ops = true := by kernel_rfl) (hf : Region.free md ops listed i = true := by kernel_rfl) (hr : (Region.ready md ops listed).contains i = true := by kernel_rfl)
 (hQ : ∀ c a w, Q (.panic c) (a.put oi.dst v) w → Q (.panic c) a w := by exact fun _ _ _ h => h) : wpAnyH P md ops Q S (fuel + 1) listed a w := takeG d hi hd hs hf hr hQ hy hS h
theorem rD5 {P : Program} {ops : Array Oper} {Q : Exit → Act → World → Prop} {md : Region.Mode} {S : World → Prop} {fuel : Nat} {listed : Array Bool} {a : Act} {w : World} (i : Nat) {o : Oper} (ho : ops[i]? = some o)
 (h : ∀ K' : Act → World → Prop, Shut (∀ a w, S w → (S w → wpAnyH P md ops Q S fuel (listed.setIfInBounds i true) a w) → K' a w) → if Region.wanted o (yielded ops a.tmps) = true then Oper.wp P o a w K' Q else K' (a.put o.dst undef) w)
 (hr : Region.ready md ops listed = [i] := by kernel_rfl) : wpAnyH P md ops Q S (fuel + 1) listed a w := wpAnyH_ready hr (by simp) (AllReadyH.cons ho h AllReadyH.nil)
end
section
open Go.RowKit
theorem fndTo_keys {h : List TxnV} {C n k : Nat} {r : List Nat} {M : List (Nat × ByteArray)} (j : Nat) : (srchTo (fnd h C n k) h C r M j).2.1.length ≤ M.length + (srchTo (fnd h C n k) h C r M j).2.2 := by
 induction j with
 | zero => exact Nat.le_refl _
 | succ j ih =>
  rw [srchTo_succ]
  generalize srchTo (fnd h C n k) h C r M j = st at *
  unfold srchStep
  split
  ·exact ih
  ·split
   ·exact ih
   ·split
    ·have := fnd_keys (h := h) (C := C) (n := n) k (j :: r) st.2.1
     show List.length (fnd h C n k (j :: r) st.2.1).2.1 ≤ M.length + (st.2.2 + 1 + (fnd h C n k (j :: r) st.2.1).2.2)
     omega
    ·show st.2.1.length ≤ M.length + (st.2.2 + 1); omega
theorem fnd_cost_le {h : List TxnV} {C n k : Nat} {r : List Nat} {M : List (Nat × ByteArray)} {j : Nat} (hq : (plS r, keyB h C r) ∉ M) (hj : j ≤ n) : (srchTo (fnd h C n k) h C r ((plS r, keyB h C r) :: M) j).2.2 ≤ (fnd h C n (k + 1) r M).2.2 := by
 rw [fnd_go hq]; exact srchTo_cost hj
theorem fnd_found {h : List TxnV} {C n k : Nat} {r : List Nat} {M : List (Nat × ByteArray)} {j : Nat} {x : List Nat} (hq : (plS r, keyB h C r) ∉ M) (hj : j ≤ n) (h1 : (srchTo (fnd h C n k) h C r ((plS r, keyB h C r) :: M) j).1 = some x) :
  fnd h C n (k + 1) r M = srchTo (fnd h C n k) h C r ((plS r, keyB h C r) :: M) j := by
 rw [fnd_go hq, srchTo_found_le hj h1]
def FndRes (w0 : World) (N S B b : Nat) (h : List TxnV) (C X Mb T F : Nat) (vb : Value) (r : List Nat) (vr : Value) (U : Nat) (w : World) (res : Srch) (e : Ending) (w' : World) : Prop :=
 ∃ vr' aF' sF', SeaStep S Mb T vr vr' w w' ∧ e = .returned (.bool res.1.isSome) ∧ Wea w0 N S B b h C X Mb T F vb (res.1.getD r) vr' aF' sF' res.2.1 (U + res.2.2) w'
section
variable {w0 : World} {N S B b : Nat} {h : List TxnV} {C X Mb T F : Nat} {vb : Value}
theorem wfind_any (hO : OrdIs w0 B b h) (ht : Tab w0) (hc : checkI h = 0) (hC : C < 9223372036854775808) : ∀ (k : Nat) (r : List Nat) (vr : Value) (aF sF : Nat → Nat) (M : List (Nat × ByteArray)) (U : Nat) (w : World), Wea w0 N S B b h C X Mb T F vb r vr aF sF M U w → r.length + k = h.length →
  M.length + (fnd h C h.length k r M).2.2 + 2 ≤ 1099511627776 → U + (fnd h C h.length k r M).2.2 ≤ F → F < 4611686018427387904 →
  Calls Tryz.prog 48 #[.pointer (some ⟨X, 0, none⟩)] w fun e w' => FndRes w0 N S B b h C X Mb T F vb r vr U w (fnd h C h.length k r M) e w'
 | 0, r, vr, aF, sF, M, U, w, q, hl, _, _, _ => by
  have CD := hid (xdone_any q.p)
  rw [decide_eq_true (by omega : r.length = h.length)] at CD
  have Q := hid q
  have c1 := q.x.c1
  have HF : Hid (∀ wx, Below w.heap.size w wx → FndRes w0 N S B b h C X Mb T F vb r vr U w (fnd h C h.length 0 r M) (.returned (.bool true)) wx) := hid (fun wx hx => ⟨vr, aF, sF, SeaStep.of_below hx, rfl, Q.out.below hx⟩)
  clear q hO ht hc hl
  go_enter Tryz.func48, Tryz.ntmps48
  go_wp2_with fail
  refine CD.out.mono ?_
  rintro e w1 ⟨rfl, hb⟩
  go_wp2_with fail
  go_ret
  exact HF.out _ hb
 | k + 1, r, vr, aF, sF, M, U, w, q, hl, hM, hU, hFm => by
  have h64 := (check_zero hc).1
  have IH := hid (fun r vr aF sF M U w q hl hM hU => wfind_any hO ht hc hC k r vr aF sF M U w q hl hM hU hFm)
  have CD := hid (xdone_any q.p)
  rw [decide_eq_false (by omega : ¬ r.length = h.length)] at CD
  have hrl : r.length ≤ 64 := by omega
  have hlt64 : ∀ a ∈ r, a < 64 := fun a ha => by have := q.p.lt.1 a ha; omega
  have hkl := keyB_len h C r hrl
  have hpl := plS_lt r
  have Q := hid q
  have HX : Hid (∀ wx, Below w.heap.size w wx → WnAt wx X S B Mb T) := hid (fun wx hx => (Q.out.below hx).x)
  have CO := hid (fun wx (hx : Below w.heap.size w wx) => xof_any (q.p.below hx) hc hC)
  have HH : Hid (OrdIs w0 B b h ∧ Tab w0 ∧ checkI h = 0 ∧ h.length ≤ 64 ∧ r.length + (k + 1) = h.length ∧ ∀ a ∈ r, a < 64) := hid ⟨hO, ht, hc, h64, hl, hlt64⟩
  have HB : Hid (M.length + (fnd h C h.length (k + 1) r M).2.2 + 2 ≤ 1099511627776 ∧ U + (fnd h C h.length (k + 1) r M).2.2 ≤ F ∧ F < 4611686018427387904) := hid ⟨hM, hU, hFm⟩
  have c1 := q.x.c1
  have HPL := hid (And.intro hpl hkl)
  clear q hO ht hc hl hM hU hkl hpl hlt64 hrl hFm
  go_enter Tryz.func48, Tryz.ntmps48
  go_wp2_with fail
  refine CD.out.mono ?_
  rintro e w1 ⟨rfl, hb1⟩
  clear c1 CD
  obtain ⟨PK, hPK⟩ : ∃ PK, PK = plS r := ⟨_, rfl⟩
  obtain ⟨KK, hKK⟩ : ∃ KK, KK = keyB h C r := ⟨_, rfl⟩
  rw [← hPK, ← hKK] at CO HPL
  have HPK := hid hPK
  have HKK := hid hKK
  clear hPK hKK
  go_upto_region 3 with fail
  have kd := hb1.drew
  go_cut [3] from 3 to 18 (fun u wx => ∃ g, u = .pointer (some ⟨g, 0, none⟩) ∧ KyAt wx g PK KK ∧ w.heap.size ≤ g ∧ Below w.heap.size w wx)
  case first =>
   refine wp_region_held_drew (S := Below w.heap.size w) (by kernel_rfl) kd (fun hS0 => ?_)
   refine tA5 (some 10) 0 rfl rfl hS0 ?_
   try simp only [Act.put, zA5, zB5, zC5]
   refine tA5 (some 11) 1 rfl rfl hS0 ?_
   try simp only [Act.put, zA5, zB5, zC5]
   refine tA5 (some 12) 2 rfl rfl hS0 ?_
   try simp only [Act.put, zA5, zB5, zC5]
   refine tG5 (some 13) 3 ?vsa3x4 rfl rfl (Or.inl ⟨by rfl, ?hsa3x4⟩) hS0 ?rsa3x4
   case hsa3x4 => (intro w hz; obtain ⟨z0, z1, z2, z3⟩ := HX.out w hz; go_simp; try (with_reducible rfl))
   try simp only [Act.put, zA5, zB5, zC5]
   refine tA5 (some 14) 4 rfl rfl hS0 ?_
   try simp only [Act.put, zA5, zB5, zC5]
   refine tA5 (some 15) 5 rfl rfl hS0 ?_
   try simp only [Act.put, zA5, zB5, zC5]
   refine tA5 (some 16) 6 rfl rfl hS0 ?_
   try simp only [Act.put, zA5, zB5, zC5]
   refine tG5 (some 17) 7 ?vsa7x8 rfl rfl (Or.inl ⟨by rfl, ?hsa7x8⟩) hS0 ?rsa7x8
   case hsa7x8 => (intro w hz; obtain ⟨z0, z1, z2, z3⟩ := HX.out w hz; go_simp; try (with_reducible rfl))
   try simp only [Act.put, zA5, zB5, zC5]
   refine wpAnyH_ready (rs := [8, 9]) (by kernel_rfl) (by simp) ?_
   refine AllReadyH.cons rfl (fun K hK => ?_) (AllReadyH.cons rfl (fun K hK => ?_) AllReadyH.nil)
   ·
    go_simp
    refine (CO.out _ hS0).mono ?_
    rintro e y9 ⟨rfl, hy9⟩
    show K _ _
    have s9 := below_then hS0 hy9
    unfold kV
    refine hK.out _ _ s9 (fun _ => ?_)
    clear hK K
    refine rD5 9 rfl (fun K hK => ?_)
    go_simp
    have l10 := s9.size
    have z10 := KyAt.made y9
    have s10 := s9.alloc s9.size (.cells #[.int .u64 0, .string ⟨#[]⟩] 156)
    refine hK.out _ _ s10 (fun _ => ?_)
    clear hK K
    generalize y9.heap.size = g at *
    generalize (y9.alloc (.cells #[.int .u64 0, .string ⟨#[]⟩] 156)) = x10 at *
    refine rD5 10 rfl (fun K hK => ?_)
    obtain ⟨k0, k1, k2, k3⟩ := z10
    go_simp
    have s11 := (s10.setCell (p := ⟨g, 0, none⟩) l10 (.int .u64 (PK : Int))).setCell (p := ⟨g, 1, none⟩) l10 (.string KK)
    have z11 := KyAt.set ⟨k0, k1, k2, k3⟩ PK KK
    refine hK.out _ _ s11 (fun _ => ?_)
    clear hK K
    refine wpAnyH_done (by kernel_rfl) ?_ _
    go_wp2_with fail
    go_meet
    exact ⟨g, rfl, z11, l10, s11⟩
   ·
    go_simp
    have l12 := hb1.size
    have z12 : KyAt (w1.alloc (.cells #[.int .u64 0, .string ⟨#[]⟩] 156)).drew w1.heap.size 0 ⟨#[]⟩ := (KyAt.made w1).block rfl
    have s12 := (hb1.alloc hb1.size (.cells #[.int .u64 0, .string ⟨#[]⟩] 156)).drew
    refine hK.out _ _ s12 (fun _ => ?_)
    clear hK K
    generalize w1.heap.size = g at *
    generalize (w1.alloc (.cells #[.int .u64 0, .string ⟨#[]⟩] 156)).drew = x12 at *
    refine rD5 8 rfl (fun K hK => ?_)
    go_simp
    refine (CO.out _ s12).mono ?_
    rintro e y13 ⟨rfl, hy13⟩
    show K _ _
    have s13 := below_then s12 hy13
    have z13 := z12.below hy13
    unfold kV
    refine hK.out _ _ s13 (fun _ => ?_)
    clear hK K
    refine rD5 10 rfl (fun K hK => ?_)
    obtain ⟨k0, k1, k2, k3⟩ := z13
    go_simp
    have s14 := (s13.setCell (p := ⟨g, 0, none⟩) l12 (.int .u64 (PK : Int))).setCell (p := ⟨g, 1, none⟩) l12 (.string KK)
    have z14 := KyAt.set ⟨k0, k1, k2, k3⟩ PK KK
    refine hK.out _ _ s14 (fun _ => ?_)
    clear hK K
    refine wpAnyH_done (by kernel_rfl) ?_ _
    go_wp2_with fail
    go_meet
    exact ⟨g, rfl, z14, l12, s14⟩
  case rest =>
   obtain ⟨g, rfl, hK0, hgl, hb⟩ := hcut
   clear hb1 kd CO
   generalize wc = w2 at *
   have hS9 : WnAt w2.drew X S B Mb T ∧ KyAt w2.drew g PK KK := ⟨(HX.out _ hb).block rfl, hK0.block rfl⟩
   have hbd := hb.drew
   have qd := Q.out.below hbd
   have HBD := hid hbd
   have HNE : Hid (g ≠ Mb) := hid (by have hMb := Q.out.m.lt; omega)
   obtain ⟨hpl, hkl⟩ := HPL.out
   clear HX hb hK0 hgl hbd
   by_cases hq : (plS r, keyB h C r) ∈ M
   ·have hmf : memF M PK KK = true := by unfold memF; rw [HPK.out, HKK.out]; exact decide_eq_true hq
    have CA := hid (madd_no qd.m hpl hkl hmf)
    have HSB : Hid (∀ wx, Below w2.drew.heap.size w2.drew wx → WnAt wx X S B Mb T ∧ KyAt wx g PK KK) := hid (fun wx hx => ⟨hS9.1.block (hx.block X hS9.1.lt), hS9.2.below hx⟩)
    have HF : Hid (∀ wx, Below w2.drew.heap.size w2.drew wx → FndRes w0 N S B b h C X Mb T F vb r vr U w (fnd h C h.length (k + 1) r M) (.returned (.bool false)) wx) := hid (fun wx hx => by
     rw [fnd_in hq]
     exact ⟨vr, aF, sF, SeaStep.of_below (below_then HBD.out hx), rfl, qd.below hx⟩)
    clear HB IH hmf hpl hkl qd hq
    go_upto_region 4 with fail
    refine wp_region_held_drew (S := (fun wx => WnAt wx X S B Mb T ∧ KyAt wx g PK KK)) (by kernel_rfl) hS9 (fun hS0 => ?_)
    refine tA5 (some 19) 0 rfl rfl hS0 ?_
    try simp only [Act.put, zA5, zB5, zC5]
    refine tA5 (some 20) 1 rfl rfl hS0 ?_
    try simp only [Act.put, zA5, zB5, zC5]
    refine tA5 (some 21) 2 rfl rfl hS0 ?_
    try simp only [Act.put, zA5, zB5, zC5]
    refine tG5 (some 22) 3 ?vsb3x4 rfl rfl (Or.inl ⟨by rfl, ?hsb3x4⟩) hS0 ?rsb3x4
    case hsb3x4 => (intro w hz; obtain ⟨⟨z0, z1, z2, z3⟩, ⟨y0, y1, y2, y3⟩⟩ := hz; go_simp; try (with_reducible rfl))
    try simp only [Act.put, zA5, zB5, zC5]
    refine tG5 (some 23) 4 ?vsb4x5 rfl rfl (Or.inl ⟨by rfl, ?hsb4x5⟩) hS0 ?rsb4x5
    case hsb4x5 => (intro w hz; obtain ⟨⟨z0, z1, z2, z3⟩, ⟨y0, y1, y2, y3⟩⟩ := hz; go_simp; try (with_reducible rfl))
    try simp only [Act.put, zA5, zB5, zC5]
    refine rD5 5 rfl (fun K hK => ?_)
    go_simp
    refine (CA.out).mono ?_
    rintro e w9 ⟨rfl, hb9⟩
    show K _ _
    have s6 := HSB.out _ hb9
    refine hK.out _ _ s6 (fun _ => ?_)
    clear hK K
    refine tA5 (some 25) 6 rfl rfl s6 ?_
    try simp only [Act.put, zA5, zB5, zC5]
    refine wpAnyH_done (by kernel_rfl) ?_ _
    go_wp2_with fail
    go_ret
    exact HF.out _ hb9
   have hmf : memF M PK KK = false := by unfold memF; rw [HPK.out, HKK.out]; exact decide_eq_false hq
   have CA := hid (madd_yes qd.m (by have h1 := HB.out.1; unfold maxLen; omega) hpl hkl hmf)
   have HSG : Hid (∀ wx, w2.drew.grownBy wx (some Mb) → WnAt wx X S B Mb T ∧ KyAt wx g PK KK) := hid (fun wx hx => ⟨hS9.1.block (hx.block X hS9.1.lt (fun e => qd.ne.1 (by injection e))), hS9.2.block (hx.block g hS9.2.lt (fun e => HNE.out (by injection e)))⟩)
   have HAD : Hid (∀ wx, MemM wx Mb (M.length + 1) (fun q u => decide (q = PK ∧ u = KK) || memF M q u) → w2.drew.grownBy wx (some Mb) → Wea w0 N S B b h C X Mb T F vb r vr aF sF ((plS r, keyB h C r) :: M) U wx ∧ SeaStep S Mb T vr vr w wx) := hid (fun wx hm hg => by
    rw [memF_cons, HPK.out, HKK.out] at hm
    exact ⟨qd.add HH.out.1 HH.out.2.1 hg hm, (SeaStep.of_below HBD.out).trans (SeaStep.of_memo hg)⟩)
   have HQN := hid hq
   clear hmf hpl hkl qd hq
   go_upto_region 4 with fail
   refine wp_region_held_drew (S := (fun wx => WnAt wx X S B Mb T ∧ KyAt wx g PK KK)) (by kernel_rfl) hS9 (fun hS0 => ?_)
   refine tA5 (some 19) 0 rfl rfl hS0 ?_
   try simp only [Act.put, zA5, zB5, zC5]
   refine tA5 (some 20) 1 rfl rfl hS0 ?_
   try simp only [Act.put, zA5, zB5, zC5]
   refine tA5 (some 21) 2 rfl rfl hS0 ?_
   try simp only [Act.put, zA5, zB5, zC5]
   refine tG5 (some 22) 3 ?vsc3x4 rfl rfl (Or.inl ⟨by rfl, ?hsc3x4⟩) hS0 ?rsc3x4
   case hsc3x4 => (intro w hz; obtain ⟨⟨z0, z1, z2, z3⟩, ⟨y0, y1, y2, y3⟩⟩ := hz; go_simp; try (with_reducible rfl))
   try simp only [Act.put, zA5, zB5, zC5]
   refine tG5 (some 23) 4 ?vsc4x5 rfl rfl (Or.inl ⟨by rfl, ?hsc4x5⟩) hS0 ?rsc4x5
   case hsc4x5 => (intro w hz; obtain ⟨⟨z0, z1, z2, z3⟩, ⟨y0, y1, y2, y3⟩⟩ := hz; go_simp; try (with_reducible rfl))
   try simp only [Act.put, zA5, zB5, zC5]
   refine rD5 5 rfl (fun K hK => ?_)
   go_simp
   refine (CA.out).mono ?_
   rintro e w9 ⟨rfl, hm9, hg9⟩
   show K _ _
   have s6 := HSG.out _ hg9
   refine hK.out _ _ s6 (fun _ => ?_)
   clear hK K
   refine tA5 (some 25) 6 rfl rfl s6 ?_
   try simp only [Act.put, zA5, zB5, zC5]
   refine wpAnyH_done (by kernel_rfl) ?_ _
   obtain ⟨q3, hst3⟩ := HAD.out _ hm9 hg9
   generalize w9 = w3 at *
   have HST0 := hid hst3
   have nB := (q3.p.ord).blk.cN
   obtain ⟨c0, c1, c2, c3⟩ := q3.x
   clear CA HSG HAD hm9 hg9 hS9 hst3 HNE HBD
   go_wp2_with fail
   go_loopw [33] (fun iv wr => ∃ (j : Nat) (vr2 : Value) (aF2 sF2 : Nat → Nat), j ≤ h.length ∧ iv = .int .i64 j ∧ Hid ((srchTo (fnd h C h.length k) h C r ((plS r, keyB h C r) :: M) j).1 = none) ∧ Hid (Wea w0 N S B b h C X Mb T F vb r vr2 aF2 sF2 (srchTo (fnd h C h.length k) h C r ((plS r, keyB h C r) :: M) j).2.1 (U + (srchTo (fnd h C h.length k) h C r ((plS r, keyB h C r) :: M) j).2.2) wr) ∧ Hid (SeaStep S Mb T vr vr2 w3 wr)) (fun iv _ => h.length - (intOf iv).toNat)
   case atStart => exact ⟨0, vr, aF, sF, Nat.zero_le _, rfl, hid rfl, hid q3, hid (SeaStep.of_below (Below.refl _ _))⟩
   case round =>
    clear q3 c0 c1 c2 c3 nB
    obtain ⟨j, vr2, aF2, sF2, hj, rfl, HA, HQ, HT⟩ := hrel
    obtain ⟨c0, c1, c2, c3⟩ := HQ.out.x
    obtain ⟨hO, ht, hc, h64, hl, hlt64⟩ := HH.out
    by_cases hjn : j < h.length
    ·have hji : (j : Int) < (h.length : Int) := by omega
     have CPL := hid (xplaced_any HQ.out.p)
     have CHJ := hid (fun wx => has_any (plS r) (j : Int) wx (plS_set r))
     rw [has_pl hlt64 (show j < 64 by omega)] at CHJ
     have HSU := hid (srchTo_succ (h := h) (C := C) (fnd h C h.length k) r ((plS r, keyB h C r) :: M) j)
     by_cases hjr : j ∈ r
     ·rw [decide_eq_true hjr] at CHJ
      have HS1 : Hid (srchTo (fnd h C h.length k) h C r ((plS r, keyB h C r) :: M) (j + 1) = srchTo (fnd h C h.length k) h C r ((plS r, keyB h C r) :: M) j) := hid (by rw [HSU.out]; exact step_in HA.out hjr)
      clear hO ht hc hlt64 hjr HB IH
      go_wp2_with fail
      refine CPL.out.mono ?_
      rintro e wq ⟨rfl, rfl⟩
      go_wp2_with fail
      refine (CHJ.out _).mono ?_
      rintro e wq ⟨rfl, rfl⟩
      go_wp2_with fail
      go_roundw
      case rel => exact ⟨j + 1, vr2, aF2, sF2, by omega, by go_num, by rw [HS1.out]; exact HA, by rw [HS1.out]; exact HQ, HT⟩
      case measure => simp [intOf]; omega
     rw [decide_eq_false hjr] at CHJ
     have HCO : Hid ((srchTo (fnd h C h.length k) h C r ((plS r, keyB h C r) :: M) (j + 1)).2.2 ≤ (fnd h C h.length (k + 1) r M).2.2) := hid (fnd_cost_le HQN.out (by omega))
     have HKE : Hid ((srchTo (fnd h C h.length k) h C r ((plS r, keyB h C r) :: M) j).2.1.length ≤ M.length + 1 + (srchTo (fnd h C h.length k) h C r ((plS r, keyB h C r) :: M) j).2.2) := hid (fndTo_keys j)
     have hcs : (srchTo (fnd h C h.length k) h C r ((plS r, keyB h C r) :: M) j).2.2 + 1 ≤ (srchTo (fnd h C h.length k) h C r ((plS r, keyB h C r) :: M) (j + 1)).2.2 := by
      rw [HSU.out]
      cases htj : tryP h C r j with
      | false => rw [step_no HA.out hjr htj]; exact Nat.le_refl _
      | true => rw [step_yes HA.out hjr htj]; exact Nat.le_add_right _ _
     have h0 : ¬ mleftN F (U + (srchTo (fnd h C h.length k) h C r ((plS r, keyB h C r) :: M) j).2.2) = 0 := fun e => by
      obtain ⟨e1, e2⟩ := left_zero e
      have := HCO.out; have := HB.out.2.1
      omega
     have CS := hid (fspend_own T F _ wr HQ.out.t h0 (by
      have := HCO.out; have := HB.out.2.1; have := HB.out.2.2
      omega))
     clear h0
     have HJR := hid hjr
     have HSP := hid (fun w5 hg hm => HQ.out.spend (w' := w5) hO ht hg hm)
     have HCD := hid hc
     have HLT := hid hl
     clear hO ht hlt64 hjr hcs hc hl
     go_wp2_with fail
     refine CPL.out.mono ?_
     rintro e wq ⟨rfl, rfl⟩
     go_wp2_with fail
     refine (CHJ.out _).mono ?_
     rintro e wq ⟨rfl, rfl⟩
     go_wp2_with fail
     refine CS.out.mono ?_
     rintro e w5 ⟨rfl, hm5, hg5⟩
     have Q5 := hid (HSP.out w5 hg5 hm5)
     have HT5 := hid (HT.out.trans (SeaStep.of_meter hg5))
     clear hm5 hg5 CS CPL CHJ HSP c0 c1 c2 c3
     obtain ⟨c0, c1, c2, c3⟩ := Q5.out.x
     cases htj : tryP h C r j with
     | false =>
      have CT := hid (xtry_no Q5.out.p HCD.out hC (j : Int) (by unfold tryI; rw [Int.toNat_natCast, htj]; simp))
      have HS1 : Hid (srchTo (fnd h C h.length k) h C r ((plS r, keyB h C r) :: M) (j + 1) = (none, (srchTo (fnd h C h.length k) h C r ((plS r, keyB h C r) :: M) j).2.1, (srchTo (fnd h C h.length k) h C r ((plS r, keyB h C r) :: M) j).2.2 + 1)) := hid (by rw [HSU.out]; exact step_no HA.out HJR.out htj)
      clear htj
      go_wp2_with fail
      refine CT.out.mono ?_
      rintro e w6 ⟨rfl, hb6⟩
      have Q6 := hid (Q5.out.below hb6)
      have HT6 := hid (HT5.out.trans (SeaStep.of_below hb6))
      clear hb6
      go_wp2_with fail
      go_roundw
      case rel => exact ⟨j + 1, vr2, aF2, sF2, by omega, by go_num, by rw [HS1.out]; exact hid rfl, by rw [HS1.out]; exact Q6, HT6⟩
      case measure => simp [intOf]; omega
     | true =>
      have CT := hid (xtry_yes Q5.out.p HCD.out hC j htj)
      have HS1 := hid (HSU.out.trans (step_yes HA.out HJR.out htj))
      clear htj
      go_wp2_with fail
      refine CT.out.mono ?_
      rintro e w6 ⟨rfl, vr3, aF3, sF3, p6, k6⟩
      have Q6 := hid (Q5.out.step p6 k6)
      have HT6 := hid (HT5.out.trans (SeaStep.of_step k6))
      have CI := hid (IH.out (j :: r) vr3 aF3 sF3 (srchTo (fnd h C h.length k) h C r ((plS r, keyB h C r) :: M) j).2.1 (U + (srchTo (fnd h C h.length k) h C r ((plS r, keyB h C r) :: M) j).2.2 + 1) w6 Q6.out (by have := HLT.out; simp only [List.length_cons]; omega)
       (by
        have h1 := HCO.out; have h2 := HKE.out; have h3 := HB.out.1
        rw [HS1.out] at h1
        simp only at h1
        omega)
       (by
        have h1 := HCO.out; have h3 := HB.out.2.1
        rw [HS1.out] at h1
        simp only at h1
        omega))
      clear p6 k6 c0 c1 c2 c3 CT
      obtain ⟨c0, c1, c2, c3⟩ := Q6.out.x
      go_wp2_with fail
      refine CI.out.mono ?_
      rintro e w7 ⟨vr4, aF4, sF4, hst4, rfl, q7⟩
      have HT7 := hid (HT6.out.trans hst4)
      have Q7 := hid q7
      clear hst4 CI c0 c1 c2 c3 q7
      obtain ⟨c0, c1, c2, c3⟩ := Q7.out.x
      cases hfd : (fnd h C h.length k (j :: r) (srchTo (fnd h C h.length k) h C r ((plS r, keyB h C r) :: M) j).2.1).1 with
      | some x =>
       have HF : Hid (FndRes w0 N S B b h C X Mb T F vb r vr U w (fnd h C h.length (k + 1) r M) (.returned (.bool true)) w7) := hid (by
        have e1 : (srchTo (fnd h C h.length k) h C r ((plS r, keyB h C r) :: M) (j + 1)).1 = some x := by rw [HS1.out]; exact hfd
        rw [fnd_found HQN.out (by omega) e1, HS1.out]
        have q7 := Q7.out
        rw [hfd] at q7
        refine ⟨vr4, aF4, sF4, HST0.out.trans HT7.out, by rw [hfd]; rfl, ?_⟩
        rw [hfd]
        rw [show U + (srchTo (fnd h C h.length k) h C r ((plS r, keyB h C r) :: M) j).2.2 + 1 + (fnd h C h.length k (j :: r) (srchTo (fnd h C h.length k) h C r ((plS r, keyB h C r) :: M) j).2.1).2.2 = U + ((srchTo (fnd h C h.length k) h C r ((plS r, keyB h C r) :: M) j).2.2 + 1 + (fnd h C h.length k (j :: r) (srchTo (fnd h C h.length k) h C r ((plS r, keyB h C r) :: M) j).2.1).2.2) by omega] at q7
        exact q7)
       clear hfd Q7
       go_wp2_with fail
       go_ret
       exact HF.out
      | none =>
       have Q7 := Q7.out
       rw [hfd] at Q7
       have Q7 := hid Q7
       have CU := hid (xundo_cons Q7.out.p h64)
       have HS2 : Hid (srchTo (fnd h C h.length k) h C r ((plS r, keyB h C r) :: M) (j + 1) = (none, (fnd h C h.length k (j :: r) (srchTo (fnd h C h.length k) h C r ((plS r, keyB h C r) :: M) j).2.1).2.1, (srchTo (fnd h C h.length k) h C r ((plS r, keyB h C r) :: M) j).2.2 + 1 + (fnd h C h.length k (j :: r) (srchTo (fnd h C h.length k) h C r ((plS r, keyB h C r) :: M) j).2.1).2.2)) := hid (by rw [HS1.out, hfd])
       clear hfd
       go_wp2_with fail
       refine CU.out.mono ?_
       rintro e w8 ⟨rfl, vr5, p8, k8⟩
       have Q8 := Q7.out.step p8 k8
       rw [show U + (srchTo (fnd h C h.length k) h C r ((plS r, keyB h C r) :: M) j).2.2 + 1 + (fnd h C h.length k (j :: r) (srchTo (fnd h C h.length k) h C r ((plS r, keyB h C r) :: M) j).2.1).2.2 = U + ((srchTo (fnd h C h.length k) h C r ((plS r, keyB h C r) :: M) j).2.2 + 1 + (fnd h C h.length k (j :: r) (srchTo (fnd h C h.length k) h C r ((plS r, keyB h C r) :: M) j).2.1).2.2) by omega] at Q8
       have Q8 := hid Q8
       have HT8 := hid (HT7.out.trans (SeaStep.of_step k8))
       clear p8 k8
       go_wp2_with fail
       go_roundw
       case rel => exact ⟨j + 1, vr5, aF4, sF4, by omega, by go_num, by rw [HS2.out]; exact hid rfl, by rw [HS2.out]; exact Q8, HT8⟩
       case measure => simp [intOf]; omega
    ·have hjn : j = h.length := by omega
     subst hjn
     have HF : Hid (FndRes w0 N S B b h C X Mb T F vb r vr U w (fnd h C h.length (k + 1) r M) (.returned (.bool false)) wr) := hid (by
      rw [fnd_go HQN.out]
      have q := HQ.out
      refine ⟨vr2, aF2, sF2, HST0.out.trans HT.out, by rw [HA.out]; rfl, ?_⟩
      rw [HA.out]
      exact q)
     clear HB IH HA HQ HT hO ht hc hlt64 hl
     go_wp2_with fail
     go_ret
     exact HF.out
end
end

section
open Go.RowKit
theorem takeQ {P : Program} {ops : Array Oper} {Q : Exit → Act → World → Prop} {md : Region.Mode} {S : World → Prop} (d : Option Tmp) {i : Nat} {oi : Oper} {v : Value} {fuel : Nat} {listed : Array Bool} {a : Act} {w : World} (hi : ops[i]? = some oi) (hd : oi.dst = d)
  (hs : Region.noSelect ops = true) (hf : Region.free md ops listed i = true) (hr : (Region.ready md ops listed).contains i = true)
  (hQ : ∀ c a w, Q (.panic c) (a.put oi.dst v) w → Q (.panic c) a w) (hy : YieldsIf P ops S oi v a) (hS : S w)
  (h : wpAnyH P md ops Q S fuel (listed.setIfInBounds i true) (a.put d v) w) : wpAnyH P md ops Q S (fuel + 1) listed a w := by
 subst hd; exact wpAnyH_take hi hs hf hr hQ hy hS h
theorem of_done (va : Value) (h : List TxnV) (w : World) (hT : Txns w va h) (hok : ∀ t ∈ h, t.ok) (hsh : Short h) (hc : checkI h = 0) :
  Calls Tryz.prog 16 #[va] w fun e w' => (∃ B, e = .returned (.tuple #[.pointer (some ⟨B, 0, none⟩), .int .i64 0]) ∧ w.heap.size ≤ B ∧ OrdIs w' B (B + 2) h) ∧ Below w.heap.size w w' := by
 obtain ⟨ao, cap, rfl, hal⟩ := hT.form
 obtain ⟨hlen, hops, hW, hks⟩ := check_zero hc
 have hb0 := box_below w (.cells #[.slice ao h.length cap] 22)
 have CH := hid (hcheck_any _ h _ (hT.below hb0) hok hsh)
 rw [hc] at CH
 have CW := hid (fun wx (hx : Below w.heap.size w wx) => hwrites_any _ h wx (hT.below hx) hok hks (by omega) (by omega))
 have HT := hid (fun wx (hx : Below w.heap.size w wx) => hT.below hx)
 have HOK := hid hok
 have HKS := hid hks
 have HW := hid hW
 have HOPS := hid hops
 obtain ⟨i1, hi1, hza1, hzb1, hzc1⟩ := info_parts infoLI
 obtain ⟨i2, hi2, hza2, hzb2, hzc2⟩ := info_parts infoLR
 have hA0 : (w.alloc (.cells #[.slice ao h.length cap] 22)).cell? ⟨w.heap.size, 0, none⟩ = some (.slice ao h.length cap) := by rw [cell_of_row _ _ _ _ _ _ (heap_alloc_new w _)]; rfl
 clear hT hok hsh hks hW hc hops
 go_enter Tryz.func16, Tryz.ntmps16
 go_wp2_with fail
 refine (CH.out).mono ?_
 rintro e w1 ⟨rfl, hb1⟩
 have hA1 := (hb1.cell (p := ⟨w.heap.size, 0, none⟩) (block_lt hA0)).trans hA0
 have hb2 := below_then hb0 hb1
 clear CH hb1 hb0 hA0
 go_wp2_with fail
 refine (CW.out _ hb2).mono ?_
 rintro e w2 ⟨hb3, ⟨hno, _⟩ | ⟨_, bm, m, rfl, hbm, hM⟩⟩
 ·exact absurd hno (by rw [HW.out]; simp)
 have hA2 := (hb3.cell (p := ⟨w.heap.size, 0, none⟩) (block_lt hA1)).trans hA1
 have hb4 := below_then hb2 hb3
 clear CW hb3 hb2 hA1
 have hlt := block_lt hA2
 simp only at hlt
 have hO3 := (OrdAt.made w2 (h.length : Int) 101 rfl rfl).alloc (.cells #[.pointer (some ⟨w2.heap.size, 0, none⟩)] 25)
 have hb3 := ((Below.refl w2.heap.size w2).alloc (Nat.le_refl _) (.cells ((Tryz.zeroCells101.setIfInBounds 0 (.int .i64 h.length)).setIfInBounds 196 (.bool true)) 101)).alloc (by simp) (.cells #[.pointer (some ⟨w2.heap.size, 0, none⟩)] 25)
 have hA3 := (hb3.cell (p := ⟨w.heap.size, 0, none⟩) hlt).trans hA2
 have hC3 : ((w2.alloc (.cells ((Tryz.zeroCells101.setIfInBounds 0 (.int .i64 h.length)).setIfInBounds 196 (.bool true)) 101)).alloc (.cells #[.pointer (some ⟨w2.heap.size, 0, none⟩)] 25)).cell? ⟨w2.heap.size + 1, 0, none⟩ = some (.pointer (some ⟨w2.heap.size, 0, none⟩)) := by
  rw [cell_of_row _ _ _ _ _ _ (heap_alloc2_new w2 _ _)]; rfl
 have hs3 : w2.heap.size + 2 ≤ ((w2.alloc (.cells ((Tryz.zeroCells101.setIfInBounds 0 (.int .i64 h.length)).setIfInBounds 196 (.bool true)) 101)).alloc (.cells #[.pointer (some ⟨w2.heap.size, 0, none⟩)] 25)).heap.size := by simp
 go_wp2_with fail
 generalize ((w2.alloc (.cells ((Tryz.zeroCells101.setIfInBounds 0 (.int .i64 h.length)).setIfInBounds 196 (.bool true)) 101)).alloc (.cells #[.pointer (some ⟨w2.heap.size, 0, none⟩)] 25)) = w3 at *
 generalize (Tryz.zeroCells101.setIfInBounds 0 (.int .i64 h.length)).setIfInBounds 196 (.bool true) = Z at *
 go_loopw [26] (fun i wr => ∃ (k : Nat) (vk vr : Value) (sd : Bool) (K : List KRow) (R : List RRow), k ≤ h.length ∧ i = .int .i64 k ∧ K.map (·.2) = keysTo h k ∧ R.map (·.2) = readsTo h k ∧ sd = soundTo h k ∧ OrdAt wr w2.heap.size h.length noR noR noR (.map none) vk vr sd ∧
   wr.cell? ⟨w2.heap.size + 1, 0, none⟩ = some (.pointer (some ⟨w2.heap.size, 0, none⟩)) ∧ OfR (w2.heap.size + 2) wr vk vr K R ∧ Below w2.heap.size w2 wr ∧ w2.heap.size + 2 ≤ wr.heap.size) (fun i _ => h.length - (intOf i).toNat)
 case atStart => exact ⟨0, _, _, _, [], [], by omega, rfl, rfl, rfl, rfl, hO3, hC3, OfR.nil _ _, hb3, hs3⟩
 case round =>
  clear hO3 hC3 hb3 hs3 hA3
  obtain ⟨k, vk, vr, sd, K, R, hk, rfl, hK, hR, hsd, hO, hC, hF, hb, hsz⟩ := hrel
  have HK := hid (And.intro hK (And.intro hR hsd))
  clear hK hR hsd
  by_cases hlk : k < h.length
  ·have hki : (k : Int) < (h.length : Int) := by omega
   have hbw := below_then hb4 hb
   obtain ⟨g, o, hao, c0, c1, c2, c3⟩ := (HT.out _ hbw).at hlk
   cases hao
   have hOps := (HT.out _ hbw).ops hlk
   have HOPF := hid (fun wx (hx : Below w2.heap.size w2 wx) => (HT.out wx (below_then hb4 hx)).ops hlk)
   generalize h[k].s = ts at *
   generalize h[k].b = tb at *
   generalize h[k].c = tc at *
   have HLK : Hid (opsAt h k = h[k].l) := hid (opsAt_eq hlk)
   have hll : h[k].l.length ≤ 1024 := by
    have h1 := opsN_take h k hlk
    have h2 := opsN_le h (k + 1)
    have h3 := HOPS.out
    omega
   have HOL := hid (HOK.out _ (List.getElem_mem hlk)).2
   have HKL := hid (HKS.out _ (List.getElem_mem hlk))
   generalize h[k].v = tv at *
   generalize h[k].l = l at *
   obtain ⟨a2, cap2, rfl, hl2⟩ := hOps.form
   obtain ⟨b0, b1, b2, b3⟩ := txnBlock wr (.int .i64 ts) (.int .i64 tb) (.int .i64 tc) (.slice a2 l.length cap2) 59
   have hbx := (Below.refl wr.heap.size wr).alloc (Nat.le_refl _) (.cells #[.int .i64 ts, .int .i64 tb, .int .i64 tc, .slice a2 l.length cap2] 59)
   have hOps1 := hOps.below hbx
   have hO1 := hO.below hbx hO.lt
   have hC1 := (hbx.cell (p := ⟨w2.heap.size + 1, 0, none⟩) (block_lt hC)).trans hC
   have hF1 := hF.below hbx
   have hb1 := hb.trans (hbx.mono hb.size)
   have hs1 : w2.heap.size + 2 ≤ (wr.alloc (.cells #[.int .i64 ts, .int .i64 tb, .int .i64 tc, .slice a2 l.length cap2] 59)).heap.size := by simp; omega
   have hgx : w2.heap.size + 2 ≤ wr.heap.size := hsz
   have hX1 := heap_alloc_new wr (.cells #[.int .i64 ts, .int .i64 tb, .int .i64 tc, .slice a2 l.length cap2] 59)
   have hX : OfS w2 wr.heap.size ts tb tc (.slice a2 l.length cap2) h.length vk vr sd K R (wr.alloc (.cells #[.int .i64 ts, .int .i64 tb, .int .i64 tc, .slice a2 l.length cap2] 59)) := ⟨hO1, ⟨hC1, b0, b1, b2, b3⟩, hF1, hb1, hs1, ⟨_, hX1⟩, hgx⟩
   have hTf := fun wx (hx : Below w2.heap.size w2 wx) => HT.out wx (below_then hb4 hx)
   go_upto_region 9 with fail
   clear hOps hO hC hF hb hbx hbw hsz c0 c1 c2 c3 hO1 hC1 hF1 hb1 hs1 hX1 b0 b1 b2 b3
   generalize wr.alloc (.cells #[.int .i64 ts, .int .i64 tb, .int .i64 tc, .slice a2 l.length cap2] 59) = w4 at *
   generalize wr.heap.size = gx at *
   clear wr
   have hKl : K.length ≤ 64 := by have := congrArg List.length HK.out.1; simp [keysTo] at this; omega
   have hRl : R.length ≤ 64 := by have := congrArg List.length HK.out.2.1; simp [readsTo] at this; omega
   obtain ⟨aK, cK, rfl⟩ := owns_form hX.r.kr
   obtain ⟨aR, cR, rfl⟩ := owns_form hX.r.rr
   go_cut [41] from 31 to 41 (fun u wx => ∃ (v5 : Value) (vx : Value), u = .pointer (some ⟨w2.heap.size, 194, none⟩) ∧ OfS w2 gx ts tb tc (.slice a2 l.length cap2) h.length v5 (.slice aR R.length cR) sd (K ++ [(vx, keysOf l)]) R wx)
   case first =>
    have kd := (Below.refl w4.heap.size w4).drew
    have CK : Hid (∀ wx, Below w4.heap.size w4 wx → Calls Tryz.prog 57 #[.agg #[.int .i64 ts, .int .i64 tb, .int .i64 tc, .slice a2 l.length cap2]] wx fun e w' => ∃ v, e = .returned v ∧ w'.ownsRow (w2.heap.size + 2) 3 1 v (keysOf l).length ((keysOf l).map (Value.int .i64)) ∧ Below wx.heap.size wx w') := hid (fun wx hx => (okeys_any ts tb tc _ l wx (hOps1.below hx) HOL.out (by omega)).mono (fun e w' ⟨v, out, he, ho, hr, _, hbb⟩ => by
     obtain rfl := hr.eq (refWrites_rise HKL.out)
     refine ⟨v, he, own_base' ?_ (show w2.heap.size + 2 ≤ wx.heap.size by have h1 := hx.size; have h2 := hX.z; omega), hbb⟩
     unfold keysOf
     rw [List.length_map, List.map_map]
     exact ho))
    have HS : Hid (∀ wx, Below w4.heap.size w4 wx → SB (w2.heap.size + 1) w2.heap.size gx ts tb tc (.slice a2 l.length cap2) wx) := hid (fun wx hx => hX.s.below hx)
    have hc0 := hX.o.cK
    have HCL : Hid (∀ wx, Below w4.heap.size w4 wx → wx.cell? ⟨w2.heap.size, 194, none⟩ = some (.slice aK K.length cK)) := hid (fun wx hx => (hx.cell (p := ⟨w2.heap.size, 194, none⟩) (block_lt hc0)).trans hc0)
    have HCA : Hid (∀ wx, Below w4.heap.size w4 wx → ∀ o, (wx.alloc o).cell? ⟨w2.heap.size, 194, none⟩ = some (.slice aK K.length cK)) := hid (fun wx hx o => HCL.out _ (hx.alloc hx.size o))
    have HRO : Hid (∀ wx, Below w4.heap.size w4 wx → wx.ownsRow (w2.heap.size + 2) 29 1 (.slice aK K.length cK) K.length (K.map (·.1))) := hid (fun wx hx => owns_below hX.r.kr hx)
    have HSZ : Hid (∀ wx (o : Obj), Below w4.heap.size w4 wx → w2.heap.size + 2 ≤ (wx.alloc o).heap.size) := hid (fun wx o hx => by have h1 := hx.size; have h2 := hX.z; simp; omega)
    have HFIN := hid (fun wx w5 v v5 hx => hX.addK (wx := wx) (w5 := w5) (v := v) (v5 := v5) (t := 29) (l := keysOf l) hx)
    have n3 : Hid (K.length + 1 ≤ maxLen) := hid (by unfold maxLen; omega)
    have n4 : Hid ((K.length + 1) * 24 ≤ 140737488355328) := hid (by omega)
    refine wp_region_held_drew (S := SB (w2.heap.size + 1) w2.heap.size gx ts tb tc (.slice a2 l.length cap2)) (by kernel_rfl) hX.s.drew (fun hS0 => ?_)
    refine takeQ (some 31) (i := 0) (v := ?v1) rfl rfl (by kernel_rfl) (by kernel_rfl) (by kernel_rfl) (fun _ _ _ h => h) (Or.inl ⟨by rfl, ?h1⟩) hS0 ?r1
    case h1 => (intro w hw; obtain ⟨q0, q1, q2, q3, q4⟩ := hw; go_simp; try (with_reducible rfl))
    try simp only [Act.put, zA5, zB5, zC5]
    refine takeQ (some 32) (i := 1) (v := ?v2) rfl rfl (by kernel_rfl) (by kernel_rfl) (by kernel_rfl) (fun _ _ _ h => h) (Or.inl ⟨by rfl, ?h2⟩) hS0 ?r2
    case h2 => (intro w hw; obtain ⟨q0, q1, q2, q3, q4⟩ := hw; go_simp; try (with_reducible rfl))
    try simp only [Act.put, zA5, zB5, zC5]
    refine takeQ (some 36) (i := 5) (v := ?v3) rfl rfl (by kernel_rfl) (by kernel_rfl) (by kernel_rfl) (fun _ _ _ h => h) (Or.inl ⟨by rfl, ?h3⟩) hS0 ?r3
    case h3 => (intro w hw; obtain ⟨q0, q1, q2, q3, q4⟩ := hw; go_simp; try (with_reducible rfl))
    try simp only [Act.put, zA5, zB5, zC5]
    refine takeQ (some 33) (i := 2) (v := ?v4) rfl rfl (by kernel_rfl) (by kernel_rfl) (by kernel_rfl) (fun _ _ _ h => h) (Or.inl ⟨by rfl, ?h4⟩) hS0 ?r4
    case h4 => (intro w hw; obtain ⟨q0, q1, q2, q3, q4⟩ := hw; go_simp; try (with_reducible rfl))
    try simp only [Act.put, zA5, zB5, zC5]
    refine takeQ (some 34) (i := 3) (v := ?v5) rfl rfl (by kernel_rfl) (by kernel_rfl) (by kernel_rfl) (fun _ _ _ h => h) (Or.inl ⟨by rfl, ?h5⟩) hS0 ?r5
    case h5 => (intro w hw; obtain ⟨q0, q1, q2, q3, q4⟩ := hw; go_simp; try (with_reducible rfl))
    try simp only [Act.put, zA5, zB5, zC5]
    refine wpAnyH_ready (rs := [4, 6]) (by kernel_rfl) (by simp) ?_
    refine AllReadyH.cons rfl ?_ (AllReadyH.cons rfl ?_ AllReadyH.nil)
    ·intro KK hKK
     go_simp
     refine hKK.out _ _ hS0 (fun _ => ?_)
     clear hKK KK
     refine wpAnyH_ready (rs := [6]) (by kernel_rfl) (by simp) ?_
     refine AllReadyH.cons rfl ?_ AllReadyH.nil
     intro KK hKK
     go_simp
     refine (CK.out _ kd).mono ?_
     rintro e wx ⟨vx, rfl, hox, hbx⟩
     obtain ⟨ax, cx, hvx⟩ := owns_form hox
     subst hvx
     show KK _ _
     have kk := below_then kd hbx
     have hS1 := HS.out _ kk
     have hcw := HCL.out _ kk
     refine hKK.out _ _ hS1 (fun _ => ?_)
     clear hKK KK
     refine wpAnyH_ready (rs := [7]) (by kernel_rfl) (by simp) ?_
     refine AllReadyH.cons rfl ?_ AllReadyH.nil
     intro KK hKK
     go_simp
     have hS2 := hS1.alloc (.cells #[.slice ax (keysOf l).length cx] 29)
     have hcw := HCA.out _ kk (.cells #[.slice ax (keysOf l).length cx] 29)
     refine hKK.out _ _ hS2 (fun _ => ?_)
     clear hKK KK
     refine wpAnyH_ready (rs := [8]) (by kernel_rfl) (by simp) ?_
     refine AllReadyH.cons rfl ?_ AllReadyH.nil
     intro KK hKK
     refine step_app _ rfl (.tmp 35) (.tmp 38) 30 rfl (w2.heap.size + 2) 29 i1 (.slice none 0 0) 1 24 Tryz.underlying30 hi1 hza1 hzb1 hzc1 rfl (by decide) (.slice aK K.length cK) K.length (K.map (·.1)) (by simp [Act.eval]) ((HRO.out _ kk).alloc _) ⟨_, 0, none⟩ 1 1 [.slice ax (keysOf l).length cx] (by rfl) rfl (cell_one_new _ _ _) (by intro u hu; simp at hu; subst hu; rfl) n3.out n4.out (HSZ.out _ _ kk) ?_
     intro v5 w5 hown5 hg5
     obtain ⟨a5, c5, hv5⟩ := owns_form hown5
     subst hv5
     obtain ⟨hfin, hS5, hfz, hcz⟩ := HFIN.out _ _ _ _ kk hox hown5 hg5
     show KK _ _
     refine hKK.out _ _ hS5 (fun _ => ?_)
     clear hKK KK
     refine takeQ (some 40) (i := 9) (v := ?v6) rfl rfl (by kernel_rfl) (by kernel_rfl) (by kernel_rfl) (fun _ _ _ h => h) (Or.inl ⟨by rfl, ?h6⟩) hS5 ?r6
     case h6 => (intro w hw; obtain ⟨q0, q1, q2, q3, q4⟩ := hw; go_simp; try (with_reducible rfl))
     try simp only [Act.put, List.setIfInBounds_toArray]
     refine takeQ (some 41) (i := 10) (v := ?v7) rfl rfl (by kernel_rfl) (by kernel_rfl) (by kernel_rfl) (fun _ _ _ h => h) (Or.inl ⟨by rfl, ?h7⟩) hS5 ?r7
     case h7 => (intro w hw; obtain ⟨q0, q1, q2, q3, q4⟩ := hw; go_simp; try (with_reducible rfl))
     try simp only [Act.put]
     refine wpAnyH_ready (rs := [11]) (by kernel_rfl) (by simp) ?_
     refine AllReadyH.cons rfl ?_ AllReadyH.nil
     intro KK hKK
     go_simp
     refine hKK.out _ _ hfin.s (fun _ => ?_)
     clear hKK KK
     refine wpAnyH_done (by kernel_rfl) ?_ _
     go_wp2_with fail
     go_meet
     exact ⟨_, _, rfl, hfin⟩
    ·intro KK hKK
     go_simp
     refine (CK.out _ kd).mono ?_
     rintro e wx ⟨vx, rfl, hox, hbx⟩
     obtain ⟨ax, cx, hvx⟩ := owns_form hox
     subst hvx
     show KK _ _
     have kk := below_then kd hbx
     have hS1 := HS.out _ kk
     have hcw := HCL.out _ kk
     refine hKK.out _ _ hS1 (fun _ => ?_)
     clear hKK KK
     refine wpAnyH_ready (rs := [4, 7]) (by kernel_rfl) (by simp) ?_
     refine AllReadyH.cons rfl ?_ (AllReadyH.cons rfl ?_ AllReadyH.nil)
     ·intro KK hKK
      go_simp
      refine hKK.out _ _ hS1 (fun _ => ?_)
      clear hKK KK
      refine wpAnyH_ready (rs := [7]) (by kernel_rfl) (by simp) ?_
      refine AllReadyH.cons rfl ?_ AllReadyH.nil
      intro KK hKK
      go_simp
      have hS2 := hS1.alloc (.cells #[.slice ax (keysOf l).length cx] 29)
      have hcw := HCA.out _ kk (.cells #[.slice ax (keysOf l).length cx] 29)
      refine hKK.out _ _ hS2 (fun _ => ?_)
      clear hKK KK
      refine wpAnyH_ready (rs := [8]) (by kernel_rfl) (by simp) ?_
      refine AllReadyH.cons rfl ?_ AllReadyH.nil
      intro KK hKK
      refine step_app _ rfl (.tmp 35) (.tmp 38) 30 rfl (w2.heap.size + 2) 29 i1 (.slice none 0 0) 1 24 Tryz.underlying30 hi1 hza1 hzb1 hzc1 rfl (by decide) (.slice aK K.length cK) K.length (K.map (·.1)) (by simp [Act.eval]) ((HRO.out _ kk).alloc _) ⟨_, 0, none⟩ 1 1 [.slice ax (keysOf l).length cx] (by rfl) rfl (cell_one_new _ _ _) (by intro u hu; simp at hu; subst hu; rfl) n3.out n4.out (HSZ.out _ _ kk) ?_
      intro v5 w5 hown5 hg5
      obtain ⟨a5, c5, hv5⟩ := owns_form hown5
      subst hv5
      obtain ⟨hfin, hS5, hfz, hcz⟩ := HFIN.out _ _ _ _ kk hox hown5 hg5
      show KK _ _
      refine hKK.out _ _ hS5 (fun _ => ?_)
      clear hKK KK
      refine takeQ (some 40) (i := 9) (v := ?v8) rfl rfl (by kernel_rfl) (by kernel_rfl) (by kernel_rfl) (fun _ _ _ h => h) (Or.inl ⟨by rfl, ?h8⟩) hS5 ?r8
      case h8 => (intro w hw; obtain ⟨q0, q1, q2, q3, q4⟩ := hw; go_simp; try (with_reducible rfl))
      try simp only [Act.put, List.setIfInBounds_toArray]
      refine takeQ (some 41) (i := 10) (v := ?v9) rfl rfl (by kernel_rfl) (by kernel_rfl) (by kernel_rfl) (fun _ _ _ h => h) (Or.inl ⟨by rfl, ?h9⟩) hS5 ?r9
      case h9 => (intro w hw; obtain ⟨q0, q1, q2, q3, q4⟩ := hw; go_simp; try (with_reducible rfl))
      try simp only [Act.put]
      refine wpAnyH_ready (rs := [11]) (by kernel_rfl) (by simp) ?_
      refine AllReadyH.cons rfl ?_ AllReadyH.nil
      intro KK hKK
      go_simp
      refine hKK.out _ _ hfin.s (fun _ => ?_)
      clear hKK KK
      refine wpAnyH_done (by kernel_rfl) ?_ _
      go_wp2_with fail
      go_meet
      exact ⟨_, _, rfl, hfin⟩
     ·intro KK hKK
      go_simp
      have hS2 := hS1.alloc (.cells #[.slice ax (keysOf l).length cx] 29)
      have hcw := HCA.out _ kk (.cells #[.slice ax (keysOf l).length cx] 29)
      refine hKK.out _ _ hS2 (fun _ => ?_)
      clear hKK KK
      refine wpAnyH_ready (rs := [4]) (by kernel_rfl) (by simp) ?_
      refine AllReadyH.cons rfl ?_ AllReadyH.nil
      intro KK hKK
      go_simp
      refine hKK.out _ _ hS2 (fun _ => ?_)
      clear hKK KK
      refine wpAnyH_ready (rs := [8]) (by kernel_rfl) (by simp) ?_
      refine AllReadyH.cons rfl ?_ AllReadyH.nil
      intro KK hKK
      refine step_app _ rfl (.tmp 35) (.tmp 38) 30 rfl (w2.heap.size + 2) 29 i1 (.slice none 0 0) 1 24 Tryz.underlying30 hi1 hza1 hzb1 hzc1 rfl (by decide) (.slice aK K.length cK) K.length (K.map (·.1)) (by simp [Act.eval]) ((HRO.out _ kk).alloc _) ⟨_, 0, none⟩ 1 1 [.slice ax (keysOf l).length cx] (by rfl) rfl (cell_one_new _ _ _) (by intro u hu; simp at hu; subst hu; rfl) n3.out n4.out (HSZ.out _ _ kk) ?_
      intro v5 w5 hown5 hg5
      obtain ⟨a5, c5, hv5⟩ := owns_form hown5
      subst hv5
      obtain ⟨hfin, hS5, hfz, hcz⟩ := HFIN.out _ _ _ _ kk hox hown5 hg5
      show KK _ _
      refine hKK.out _ _ hS5 (fun _ => ?_)
      clear hKK KK
      refine takeQ (some 40) (i := 9) (v := ?v10) rfl rfl (by kernel_rfl) (by kernel_rfl) (by kernel_rfl) (fun _ _ _ h => h) (Or.inl ⟨by rfl, ?h10⟩) hS5 ?r10
      case h10 => (intro w hw; obtain ⟨q0, q1, q2, q3, q4⟩ := hw; go_simp; try (with_reducible rfl))
      try simp only [Act.put, List.setIfInBounds_toArray]
      refine takeQ (some 41) (i := 10) (v := ?v11) rfl rfl (by kernel_rfl) (by kernel_rfl) (by kernel_rfl) (fun _ _ _ h => h) (Or.inl ⟨by rfl, ?h11⟩) hS5 ?r11
      case h11 => (intro w hw; obtain ⟨q0, q1, q2, q3, q4⟩ := hw; go_simp; try (with_reducible rfl))
      try simp only [Act.put]
      refine wpAnyH_ready (rs := [11]) (by kernel_rfl) (by simp) ?_
      refine AllReadyH.cons rfl ?_ AllReadyH.nil
      intro KK hKK
      go_simp
      refine hKK.out _ _ hfin.s (fun _ => ?_)
      clear hKK KK
      refine wpAnyH_done (by kernel_rfl) ?_ _
      go_wp2_with fail
      go_meet
      exact ⟨_, _, rfl, hfin⟩
   case rest =>
    obtain ⟨vk5, vx, rfl, hX5⟩ := hcut
    clear hX hOps1
    have hX := hX5
    clear hX5
    have HRD : Hid (∃ rd, rd = rdFr (wrTo h h.length) (k : Int) (refReads l)) := hid ⟨_, rfl⟩
    obtain ⟨rd, hrd⟩ := HRD.out
    have HRD2 := hid hrd
    clear hrd HRD
    go_upto_region 10 with fail
    go_cut [54] from 42 to 54 (fun u wx => ∃ (v5 : Value) (vy : Value), u = .pointer (some ⟨w2.heap.size, 195, none⟩) ∧ OfS w2 gx ts tb tc (.slice a2 l.length cap2) h.length vk5 v5 sd (K ++ [(vx, keysOf l)]) (R ++ [(vy, rd)]) wx)
    case first =>
     have hOps1 := HOPF.out wc hX.b
     have hMc := hM.below hX.b
     have kd := (Below.refl wc.heap.size wc).drew
     have CK : Hid (∀ wx, Below wc.heap.size wc wx → Calls Tryz.prog 58 #[.int .i64 k, .agg #[.int .i64 ts, .int .i64 tb, .int .i64 tc, .slice a2 l.length cap2], .map (some bm)] wx fun e w' => ∃ v, e = .returned v ∧ w'.ownsRow (w2.heap.size + 2) 111 2 v rd.length (frV rd) ∧ Below wx.heap.size wx w') := hid (fun wx hx => (oreads_any (k : Int) ts tb tc _ l (wrTo h h.length) bm _ _ wx (hOps1.below hx) HOL.out (by omega) (hMc.below hx)).mono (fun e w' ⟨v, out, he, ho, hr, _, hbb⟩ => by
      obtain rfl := hr.eq (refReads_rise HKL.out)
      rw [← HRD2.out] at ho
      exact ⟨v, he, own_base' ho (show w2.heap.size + 2 ≤ wx.heap.size by have h1 := hx.size; have h2 := hX.z; omega), hbb⟩))
     have HS : Hid (∀ wx, Below wc.heap.size wc wx → SB (w2.heap.size + 1) w2.heap.size gx ts tb tc (.slice a2 l.length cap2) wx) := hid (fun wx hx => hX.s.below hx)
     have hc0 := hX.o.cR
     have HCL : Hid (∀ wx, Below wc.heap.size wc wx → wx.cell? ⟨w2.heap.size, 195, none⟩ = some (.slice aR R.length cR)) := hid (fun wx hx => (hx.cell (p := ⟨w2.heap.size, 195, none⟩) (block_lt hc0)).trans hc0)
     have HCA : Hid (∀ wx, Below wc.heap.size wc wx → ∀ o, (wx.alloc o).cell? ⟨w2.heap.size, 195, none⟩ = some (.slice aR R.length cR)) := hid (fun wx hx o => HCL.out _ (hx.alloc hx.size o))
     have HRO : Hid (∀ wx, Below wc.heap.size wc wx → wx.ownsRow (w2.heap.size + 2) 103 1 (.slice aR R.length cR) R.length (R.map (·.1))) := hid (fun wx hx => owns_below hX.r.rr hx)
     have HSZ : Hid (∀ wx (o : Obj), Below wc.heap.size wc wx → w2.heap.size + 2 ≤ (wx.alloc o).heap.size) := hid (fun wx o hx => by have h1 := hx.size; have h2 := hX.z; simp; omega)
     have HFIN := hid (fun wx w5 v v5 hx => hX.addR (wx := wx) (w5 := w5) (v := v) (v5 := v5) (t := 103) (l := rd) hx)
     have n3 : Hid (R.length + 1 ≤ maxLen) := hid (by unfold maxLen; omega)
     have n4 : Hid ((R.length + 1) * 24 ≤ 140737488355328) := hid (by omega)
     refine wp_region_held_drew (S := SB (w2.heap.size + 1) w2.heap.size gx ts tb tc (.slice a2 l.length cap2)) (by kernel_rfl) hX.s.drew (fun hS0 => ?_)
     refine takeQ (some 42) (i := 0) (v := ?v101) rfl rfl (by kernel_rfl) (by kernel_rfl) (by kernel_rfl) (fun _ _ _ h => h) (Or.inl ⟨by rfl, ?h101⟩) hS0 ?r101
     case h101 => (intro w hw; obtain ⟨q0, q1, q2, q3, q4⟩ := hw; go_simp; try (with_reducible rfl))
     try simp only [Act.put, zA5, zB5, zC5]
     refine takeQ (some 43) (i := 1) (v := ?v102) rfl rfl (by kernel_rfl) (by kernel_rfl) (by kernel_rfl) (fun _ _ _ h => h) (Or.inl ⟨by rfl, ?h102⟩) hS0 ?r102
     case h102 => (intro w hw; obtain ⟨q0, q1, q2, q3, q4⟩ := hw; go_simp; try (with_reducible rfl))
     try simp only [Act.put, zA5, zB5, zC5]
     refine takeQ (some 47) (i := 5) (v := ?v103) rfl rfl (by kernel_rfl) (by kernel_rfl) (by kernel_rfl) (fun _ _ _ h => h) (Or.inl ⟨by rfl, ?h103⟩) hS0 ?r103
     case h103 => (intro w hw; obtain ⟨q0, q1, q2, q3, q4⟩ := hw; go_simp; try (with_reducible rfl))
     try simp only [Act.put, zA5, zB5, zC5]
     refine takeQ (some 48) (i := 6) (v := ?v104) rfl rfl (by kernel_rfl) (by kernel_rfl) (by kernel_rfl) (fun _ _ _ h => h) (Or.inl ⟨by rfl, ?h104⟩) hS0 ?r104
     case h104 => (intro w hw; obtain ⟨q0, q1, q2, q3, q4⟩ := hw; go_simp; try (with_reducible rfl))
     try simp only [Act.put, zA5, zB5, zC5]
     refine takeQ (some 49) (i := 7) (v := ?v105) rfl rfl (by kernel_rfl) (by kernel_rfl) (by kernel_rfl) (fun _ _ _ h => h) (Or.inl ⟨by rfl, ?h105⟩) hS0 ?r105
     case h105 => (intro w hw; obtain ⟨q0, q1, q2, q3, q4⟩ := hw; go_simp; try (with_reducible rfl))
     try simp only [Act.put, zA5, zB5, zC5]
     refine takeQ (some 44) (i := 2) (v := ?v106) rfl rfl (by kernel_rfl) (by kernel_rfl) (by kernel_rfl) (fun _ _ _ h => h) (Or.inl ⟨by rfl, ?h106⟩) hS0 ?r106
     case h106 => (intro w hw; obtain ⟨q0, q1, q2, q3, q4⟩ := hw; go_simp; try (with_reducible rfl))
     try simp only [Act.put, zA5, zB5, zC5]
     refine takeQ (some 45) (i := 3) (v := ?v107) rfl rfl (by kernel_rfl) (by kernel_rfl) (by kernel_rfl) (fun _ _ _ h => h) (Or.inl ⟨by rfl, ?h107⟩) hS0 ?r107
     case h107 => (intro w hw; obtain ⟨q0, q1, q2, q3, q4⟩ := hw; go_simp; try (with_reducible rfl))
     try simp only [Act.put, zA5, zB5, zC5]
     refine wpAnyH_ready (rs := [4, 8]) (by kernel_rfl) (by simp) ?_
     refine AllReadyH.cons rfl ?_ (AllReadyH.cons rfl ?_ AllReadyH.nil)
     ·intro KK hKK
      go_simp
      refine hKK.out _ _ hS0 (fun _ => ?_)
      clear hKK KK
      refine wpAnyH_ready (rs := [8]) (by kernel_rfl) (by simp) ?_
      refine AllReadyH.cons rfl ?_ AllReadyH.nil
      intro KK hKK
      go_simp
      refine (CK.out _ kd).mono ?_
      rintro e wx ⟨vx, rfl, hox, hbx⟩
      obtain ⟨ax, cx, hvx⟩ := owns_form hox
      subst hvx
      show KK _ _
      have kk := below_then kd hbx
      have hS1 := HS.out _ kk
      have hcw := HCL.out _ kk
      refine hKK.out _ _ hS1 (fun _ => ?_)
      clear hKK KK
      refine wpAnyH_ready (rs := [9]) (by kernel_rfl) (by simp) ?_
      refine AllReadyH.cons rfl ?_ AllReadyH.nil
      intro KK hKK
      go_simp
      have hS2 := hS1.alloc (.cells #[.slice ax rd.length cx] 103)
      have hcw := HCA.out _ kk (.cells #[.slice ax rd.length cx] 103)
      refine hKK.out _ _ hS2 (fun _ => ?_)
      clear hKK KK
      refine wpAnyH_ready (rs := [10]) (by kernel_rfl) (by simp) ?_
      refine AllReadyH.cons rfl ?_ AllReadyH.nil
      intro KK hKK
      refine step_app _ rfl (.tmp 46) (.tmp 51) 99 rfl (w2.heap.size + 2) 103 i2 (.slice none 0 0) 1 24 Tryz.underlying99 hi2 hza2 hzb2 hzc2 rfl (by decide) (.slice aR R.length cR) R.length (R.map (·.1)) (by simp [Act.eval]) ((HRO.out _ kk).alloc _) ⟨_, 0, none⟩ 1 1 [.slice ax rd.length cx] (by rfl) rfl (cell_one_new _ _ _) (by intro u hu; simp at hu; subst hu; rfl) n3.out n4.out (HSZ.out _ _ kk) ?_
      intro v5 w5 hown5 hg5
      obtain ⟨a5, c5, hv5⟩ := owns_form hown5
      subst hv5
      obtain ⟨hfin, hS5, hfz, hcz⟩ := HFIN.out _ _ _ _ kk hox hown5 hg5
      show KK _ _
      refine hKK.out _ _ hS5 (fun _ => ?_)
      clear hKK KK
      refine takeQ (some 53) (i := 11) (v := ?v108) rfl rfl (by kernel_rfl) (by kernel_rfl) (by kernel_rfl) (fun _ _ _ h => h) (Or.inl ⟨by rfl, ?h108⟩) hS5 ?r108
      case h108 => (intro w hw; obtain ⟨q0, q1, q2, q3, q4⟩ := hw; go_simp; try (with_reducible rfl))
      try simp only [Act.put, List.setIfInBounds_toArray]
      refine takeQ (some 54) (i := 12) (v := ?v109) rfl rfl (by kernel_rfl) (by kernel_rfl) (by kernel_rfl) (fun _ _ _ h => h) (Or.inl ⟨by rfl, ?h109⟩) hS5 ?r109
      case h109 => (intro w hw; obtain ⟨q0, q1, q2, q3, q4⟩ := hw; go_simp; try (with_reducible rfl))
      try simp only [Act.put]
      refine wpAnyH_ready (rs := [13]) (by kernel_rfl) (by simp) ?_
      refine AllReadyH.cons rfl ?_ AllReadyH.nil
      intro KK hKK
      go_simp
      refine hKK.out _ _ hfin.s (fun _ => ?_)
      clear hKK KK
      refine wpAnyH_done (by kernel_rfl) ?_ _
      go_wp2_with fail
      go_meet
      exact ⟨_, _, rfl, hfin⟩
     ·intro KK hKK
      go_simp
      refine (CK.out _ kd).mono ?_
      rintro e wx ⟨vx, rfl, hox, hbx⟩
      obtain ⟨ax, cx, hvx⟩ := owns_form hox
      subst hvx
      show KK _ _
      have kk := below_then kd hbx
      have hS1 := HS.out _ kk
      have hcw := HCL.out _ kk
      refine hKK.out _ _ hS1 (fun _ => ?_)
      clear hKK KK
      refine wpAnyH_ready (rs := [4, 9]) (by kernel_rfl) (by simp) ?_
      refine AllReadyH.cons rfl ?_ (AllReadyH.cons rfl ?_ AllReadyH.nil)
      ·intro KK hKK
       go_simp
       refine hKK.out _ _ hS1 (fun _ => ?_)
       clear hKK KK
       refine wpAnyH_ready (rs := [9]) (by kernel_rfl) (by simp) ?_
       refine AllReadyH.cons rfl ?_ AllReadyH.nil
       intro KK hKK
       go_simp
       have hS2 := hS1.alloc (.cells #[.slice ax rd.length cx] 103)
       have hcw := HCA.out _ kk (.cells #[.slice ax rd.length cx] 103)
       refine hKK.out _ _ hS2 (fun _ => ?_)
       clear hKK KK
       refine wpAnyH_ready (rs := [10]) (by kernel_rfl) (by simp) ?_
       refine AllReadyH.cons rfl ?_ AllReadyH.nil
       intro KK hKK
       refine step_app _ rfl (.tmp 46) (.tmp 51) 99 rfl (w2.heap.size + 2) 103 i2 (.slice none 0 0) 1 24 Tryz.underlying99 hi2 hza2 hzb2 hzc2 rfl (by decide) (.slice aR R.length cR) R.length (R.map (·.1)) (by simp [Act.eval]) ((HRO.out _ kk).alloc _) ⟨_, 0, none⟩ 1 1 [.slice ax rd.length cx] (by rfl) rfl (cell_one_new _ _ _) (by intro u hu; simp at hu; subst hu; rfl) n3.out n4.out (HSZ.out _ _ kk) ?_
       intro v5 w5 hown5 hg5
       obtain ⟨a5, c5, hv5⟩ := owns_form hown5
       subst hv5
       obtain ⟨hfin, hS5, hfz, hcz⟩ := HFIN.out _ _ _ _ kk hox hown5 hg5
       show KK _ _
       refine hKK.out _ _ hS5 (fun _ => ?_)
       clear hKK KK
       refine takeQ (some 53) (i := 11) (v := ?v110) rfl rfl (by kernel_rfl) (by kernel_rfl) (by kernel_rfl) (fun _ _ _ h => h) (Or.inl ⟨by rfl, ?h110⟩) hS5 ?r110
       case h110 => (intro w hw; obtain ⟨q0, q1, q2, q3, q4⟩ := hw; go_simp; try (with_reducible rfl))
       try simp only [Act.put, List.setIfInBounds_toArray]
       refine takeQ (some 54) (i := 12) (v := ?v111) rfl rfl (by kernel_rfl) (by kernel_rfl) (by kernel_rfl) (fun _ _ _ h => h) (Or.inl ⟨by rfl, ?h111⟩) hS5 ?r111
       case h111 => (intro w hw; obtain ⟨q0, q1, q2, q3, q4⟩ := hw; go_simp; try (with_reducible rfl))
       try simp only [Act.put]
       refine wpAnyH_ready (rs := [13]) (by kernel_rfl) (by simp) ?_
       refine AllReadyH.cons rfl ?_ AllReadyH.nil
       intro KK hKK
       go_simp
       refine hKK.out _ _ hfin.s (fun _ => ?_)
       clear hKK KK
       refine wpAnyH_done (by kernel_rfl) ?_ _
       go_wp2_with fail
       go_meet
       exact ⟨_, _, rfl, hfin⟩
      ·intro KK hKK
       go_simp
       have hS2 := hS1.alloc (.cells #[.slice ax rd.length cx] 103)
       have hcw := HCA.out _ kk (.cells #[.slice ax rd.length cx] 103)
       refine hKK.out _ _ hS2 (fun _ => ?_)
       clear hKK KK
       refine wpAnyH_ready (rs := [4]) (by kernel_rfl) (by simp) ?_
       refine AllReadyH.cons rfl ?_ AllReadyH.nil
       intro KK hKK
       go_simp
       refine hKK.out _ _ hS2 (fun _ => ?_)
       clear hKK KK
       refine wpAnyH_ready (rs := [10]) (by kernel_rfl) (by simp) ?_
       refine AllReadyH.cons rfl ?_ AllReadyH.nil
       intro KK hKK
       refine step_app _ rfl (.tmp 46) (.tmp 51) 99 rfl (w2.heap.size + 2) 103 i2 (.slice none 0 0) 1 24 Tryz.underlying99 hi2 hza2 hzb2 hzc2 rfl (by decide) (.slice aR R.length cR) R.length (R.map (·.1)) (by simp [Act.eval]) ((HRO.out _ kk).alloc _) ⟨_, 0, none⟩ 1 1 [.slice ax rd.length cx] (by rfl) rfl (cell_one_new _ _ _) (by intro u hu; simp at hu; subst hu; rfl) n3.out n4.out (HSZ.out _ _ kk) ?_
       intro v5 w5 hown5 hg5
       obtain ⟨a5, c5, hv5⟩ := owns_form hown5
       subst hv5
       obtain ⟨hfin, hS5, hfz, hcz⟩ := HFIN.out _ _ _ _ kk hox hown5 hg5
       show KK _ _
       refine hKK.out _ _ hS5 (fun _ => ?_)
       clear hKK KK
       refine takeQ (some 53) (i := 11) (v := ?v112) rfl rfl (by kernel_rfl) (by kernel_rfl) (by kernel_rfl) (fun _ _ _ h => h) (Or.inl ⟨by rfl, ?h112⟩) hS5 ?r112
       case h112 => (intro w hw; obtain ⟨q0, q1, q2, q3, q4⟩ := hw; go_simp; try (with_reducible rfl))
       try simp only [Act.put, List.setIfInBounds_toArray]
       refine takeQ (some 54) (i := 12) (v := ?v113) rfl rfl (by kernel_rfl) (by kernel_rfl) (by kernel_rfl) (fun _ _ _ h => h) (Or.inl ⟨by rfl, ?h113⟩) hS5 ?r113
       case h113 => (intro w hw; obtain ⟨q0, q1, q2, q3, q4⟩ := hw; go_simp; try (with_reducible rfl))
       try simp only [Act.put]
       refine wpAnyH_ready (rs := [13]) (by kernel_rfl) (by simp) ?_
       refine AllReadyH.cons rfl ?_ AllReadyH.nil
       intro KK hKK
       go_simp
       refine hKK.out _ _ hfin.s (fun _ => ?_)
       clear hKK KK
       refine wpAnyH_done (by kernel_rfl) ?_ _
       go_wp2_with fail
       go_meet
       exact ⟨_, _, rfl, hfin⟩
    case rest =>
     obtain ⟨vr5, vy, rfl, hX5⟩ := hcut
     clear hX
     have hX := hX5
     clear hX5
     have hOps1 := HOPF.out wc hX.b
     have hMc := hM.below hX.b
     have kd := (Below.refl wc.heap.size wc).drew
     have HSO : Hid (∃ so, so = (!(refReads l).any (badFr (wrTo h h.length) (k : Int)) && steadyL l)) := hid ⟨_, rfl⟩
     obtain ⟨so, hso⟩ := HSO.out
     have HSO2 := hid hso
     clear hso HSO
     have CK : Hid (∀ wx, Below wc.heap.size wc wx → Calls Tryz.prog 59 #[.int .i64 k, .agg #[.int .i64 ts, .int .i64 tb, .int .i64 tc, .slice a2 l.length cap2], .map (some bm)] wx fun e w' => e = .returned (.bool so) ∧ Below wx.heap.size wx w') := hid (fun wx hx => (osound_any (k : Int) ts tb tc _ l (wrTo h h.length) bm _ _ wx (hOps1.below hx) HOL.out (by omega) (hMc.below hx)).mono (fun e w' ⟨out, he, hr, _, hbb⟩ => by
      obtain rfl := hr.eq (refReads_rise HKL.out)
      rw [← HSO2.out] at he
      exact ⟨he, hbb⟩))
     have HK0 : Hid ((K ++ [(vx, keysOf l)]).map (·.2) = keysTo h (k + 1) ∧ (R ++ [(vy, rd)]).map (·.2) = readsTo h (k + 1) ∧ (sd && so) = soundTo h (k + 1)) := hid (by
      refine ⟨?_, ?_, ?_⟩
      ·rw [List.map_append, keysTo_succ, ← HK.out.1, HLK.out]; rfl
      ·rw [List.map_append, readsTo_succ, ← HK.out.2.1]
       unfold readsOf
       rw [HLK.out, ← HRD2.out]; rfl
      ·rw [soundTo_succ, ← HK.out.2.2]
       unfold soundOf
       rw [HLK.out, ← HSO2.out])
     go_upto_region 11 with fail
     cases sd
     ·have HK1 : Hid ((K ++ [(vx, keysOf l)]).map (·.2) = keysTo h (k + 1) ∧ (R ++ [(vy, rd)]).map (·.2) = readsTo h (k + 1) ∧ false = soundTo h (k + 1)) := hid HK0.out
      clear HK0
      refine wp_region_held_drew (S := SB (w2.heap.size + 1) w2.heap.size gx ts tb tc (.slice a2 l.length cap2)) (by kernel_rfl) hX.s.drew (fun hS0 => ?_)
      have hc0 := hX.o.cS
      refine takeQ (some 55) (i := 0) (v := ?v201) rfl rfl (by kernel_rfl) (by kernel_rfl) (by kernel_rfl) (fun _ _ _ h => h) (Or.inl ⟨by rfl, ?h201⟩) hS0 ?r201
      case h201 => (intro w hw; obtain ⟨q0, q1, q2, q3, q4⟩ := hw; go_simp; try (with_reducible rfl))
      try simp only [Act.put, zA5, zB5, zC5]
      refine takeQ (some 56) (i := 1) (v := ?v202) rfl rfl (by kernel_rfl) (by kernel_rfl) (by kernel_rfl) (fun _ _ _ h => h) (Or.inl ⟨by rfl, ?h202⟩) hS0 ?r202
      case h202 => (intro w hw; obtain ⟨q0, q1, q2, q3, q4⟩ := hw; go_simp; try (with_reducible rfl))
      try simp only [Act.put, zA5, zB5, zC5]
      refine takeQ (some 57) (i := 2) (v := ?v203) rfl rfl (by kernel_rfl) (by kernel_rfl) (by kernel_rfl) (fun _ _ _ h => h) (Or.inl ⟨by rfl, ?h203⟩) hS0 ?r203
      case h203 => (intro w hw; obtain ⟨q0, q1, q2, q3, q4⟩ := hw; go_simp; try (with_reducible rfl))
      try simp only [Act.put, zA5, zB5, zC5]
      refine takeQ (some 58) (i := 3) (v := ?v204) rfl rfl (by kernel_rfl) (by kernel_rfl) (by kernel_rfl) (fun _ _ _ h => h) (Or.inl ⟨by rfl, ?h204⟩) hS0 ?r204
      case h204 => (intro w hw; obtain ⟨q0, q1, q2, q3, q4⟩ := hw; go_simp; try (with_reducible rfl))
      try simp only [Act.put, zA5, zB5, zC5]
      refine wpAnyH_ready (rs := [4]) (by kernel_rfl) (by simp) ?_
      refine AllReadyH.cons rfl ?_ AllReadyH.nil
      intro KK hKK
      go_simp
      refine hKK.out _ _ hS0 (fun _ => ?_)
      clear hKK KK
      refine takeQ (some 60) (i := 5) (v := ?v205) rfl rfl (by kernel_rfl) (by kernel_rfl) (by kernel_rfl) (fun _ _ _ h => h) (Or.inl ⟨by rfl, ?h205⟩) hS0 ?r205
      case h205 => (intro w hw; obtain ⟨q0, q1, q2, q3, q4⟩ := hw; go_simp; try (with_reducible rfl))
      try simp only [Act.put, zA5, zB5, zC5]
      refine takeQ (some 61) (i := 6) (v := undef) rfl rfl (by kernel_rfl) (by kernel_rfl) (by kernel_rfl) (fun _ _ _ h => h) (Or.inr ⟨by rfl, rfl⟩) hS0 ?_
      try simp only [Act.put, zA5, zB5, zC5]
      refine takeQ (some 62) (i := 7) (v := undef) rfl rfl (by kernel_rfl) (by kernel_rfl) (by kernel_rfl) (fun _ _ _ h => h) (Or.inr ⟨by rfl, rfl⟩) hS0 ?_
      try simp only [Act.put, zA5, zB5, zC5]
      refine takeQ (some 63) (i := 8) (v := undef) rfl rfl (by kernel_rfl) (by kernel_rfl) (by kernel_rfl) (fun _ _ _ h => h) (Or.inr ⟨by rfl, rfl⟩) hS0 ?_
      try simp only [Act.put, zA5, zB5, zC5]
      refine wpAnyH_ready (rs := [9]) (by kernel_rfl) (by simp) ?_
      refine AllReadyH.cons rfl ?_ AllReadyH.nil
      intro KK hKK
      go_simp
      have hY := hX.below kd
      have hf := hY.o.free (i := 196) (by omega)
      have hc := hY.o.cS
      refine hKK.out _ _ hS0 (fun _ => ?_)
      clear hKK KK
      refine takeQ (some 65) (i := 10) (v := ?v206) rfl rfl (by kernel_rfl) (by kernel_rfl) (by kernel_rfl) (fun _ _ _ h => h) (Or.inl ⟨by rfl, ?h206⟩) hS0 ?r206
      case h206 => (intro w hw; obtain ⟨q0, q1, q2, q3, q4⟩ := hw; go_simp; try (with_reducible rfl))
      try simp only [Act.put, zA5, zB5, zC5]
      refine takeQ (some 66) (i := 11) (v := ?v207) rfl rfl (by kernel_rfl) (by kernel_rfl) (by kernel_rfl) (fun _ _ _ h => h) (Or.inl ⟨by rfl, ?h207⟩) hS0 ?r207
      case h207 => (intro w hw; obtain ⟨q0, q1, q2, q3, q4⟩ := hw; go_simp; try (with_reducible rfl))
      try simp only [Act.put, zA5, zB5, zC5]
      refine takeQ (some 67) (i := 12) (v := ?v208) rfl rfl (by kernel_rfl) (by kernel_rfl) (by kernel_rfl) (fun _ _ _ h => h) (Or.inl ⟨by rfl, ?h208⟩) hS0 ?r208
      case h208 => (intro w hw; obtain ⟨q0, q1, q2, q3, q4⟩ := hw; go_simp; try (with_reducible rfl))
      try simp only [Act.put, zA5, zB5, zC5]
      refine wpAnyH_ready (rs := [13]) (by kernel_rfl) (by simp) ?_
      refine AllReadyH.cons rfl ?_ AllReadyH.nil
      intro KK hKK
      go_simp
      have hZ := hY.setS false
      refine hKK.out _ _ hZ.s (fun _ => ?_)
      clear hKK KK
      refine wpAnyH_done (by kernel_rfl) ?_ _
      clear hX hY CK kd hc hf hS0
      go_wp2_with fail
      go_roundw
      case rel => exact ⟨k + 1, _, _, _, _, _, by omega, by go_num, HK1.out.1, HK1.out.2.1, HK1.out.2.2, hZ.o, hZ.s.1, hZ.r, hZ.b, hZ.z⟩
      case measure => simp [intOf]; omega
     ·have HK1 : Hid ((K ++ [(vx, keysOf l)]).map (·.2) = keysTo h (k + 1) ∧ (R ++ [(vy, rd)]).map (·.2) = readsTo h (k + 1) ∧ so = soundTo h (k + 1)) := hid HK0.out
      clear HK0
      refine wp_region_held_drew (S := SB (w2.heap.size + 1) w2.heap.size gx ts tb tc (.slice a2 l.length cap2)) (by kernel_rfl) hX.s.drew (fun hS0 => ?_)
      have hc0 := hX.o.cS
      refine takeQ (some 55) (i := 0) (v := ?v301) rfl rfl (by kernel_rfl) (by kernel_rfl) (by kernel_rfl) (fun _ _ _ h => h) (Or.inl ⟨by rfl, ?h301⟩) hS0 ?r301
      case h301 => (intro w hw; obtain ⟨q0, q1, q2, q3, q4⟩ := hw; go_simp; try (with_reducible rfl))
      try simp only [Act.put, zA5, zB5, zC5]
      refine takeQ (some 56) (i := 1) (v := ?v302) rfl rfl (by kernel_rfl) (by kernel_rfl) (by kernel_rfl) (fun _ _ _ h => h) (Or.inl ⟨by rfl, ?h302⟩) hS0 ?r302
      case h302 => (intro w hw; obtain ⟨q0, q1, q2, q3, q4⟩ := hw; go_simp; try (with_reducible rfl))
      try simp only [Act.put, zA5, zB5, zC5]
      refine takeQ (some 57) (i := 2) (v := ?v303) rfl rfl (by kernel_rfl) (by kernel_rfl) (by kernel_rfl) (fun _ _ _ h => h) (Or.inl ⟨by rfl, ?h303⟩) hS0 ?r303
      case h303 => (intro w hw; obtain ⟨q0, q1, q2, q3, q4⟩ := hw; go_simp; try (with_reducible rfl))
      try simp only [Act.put, zA5, zB5, zC5]
      refine takeQ (some 58) (i := 3) (v := ?v304) rfl rfl (by kernel_rfl) (by kernel_rfl) (by kernel_rfl) (fun _ _ _ h => h) (Or.inl ⟨by rfl, ?h304⟩) hS0 ?r304
      case h304 => (intro w hw; obtain ⟨q0, q1, q2, q3, q4⟩ := hw; go_simp; try (with_reducible rfl))
      try simp only [Act.put, zA5, zB5, zC5]
      refine wpAnyH_ready (rs := [4]) (by kernel_rfl) (by simp) ?_
      refine AllReadyH.cons rfl ?_ AllReadyH.nil
      intro KK hKK
      go_simp
      refine hKK.out _ _ hS0 (fun _ => ?_)
      clear hKK KK
      refine takeQ (some 60) (i := 5) (v := ?v305) rfl rfl (by kernel_rfl) (by kernel_rfl) (by kernel_rfl) (fun _ _ _ h => h) (Or.inl ⟨by rfl, ?h305⟩) hS0 ?r305
      case h305 => (intro w hw; obtain ⟨q0, q1, q2, q3, q4⟩ := hw; go_simp; try (with_reducible rfl))
      try simp only [Act.put, zA5, zB5, zC5]
      refine takeQ (some 61) (i := 6) (v := ?v306) rfl rfl (by kernel_rfl) (by kernel_rfl) (by kernel_rfl) (fun _ _ _ h => h) (Or.inl ⟨by rfl, ?h306⟩) hS0 ?r306
      case h306 => (intro w hw; obtain ⟨q0, q1, q2, q3, q4⟩ := hw; go_simp; try (with_reducible rfl))
      try simp only [Act.put, zA5, zB5, zC5]
      refine takeQ (some 62) (i := 7) (v := ?v307) rfl rfl (by kernel_rfl) (by kernel_rfl) (by kernel_rfl) (fun _ _ _ h => h) (Or.inl ⟨by rfl, ?h307⟩) hS0 ?r307
      case h307 => (intro w hw; obtain ⟨q0, q1, q2, q3, q4⟩ := hw; go_simp; try (with_reducible rfl))
      try simp only [Act.put, zA5, zB5, zC5]
      refine takeQ (some 63) (i := 8) (v := ?v308) rfl rfl (by kernel_rfl) (by kernel_rfl) (by kernel_rfl) (fun _ _ _ h => h) (Or.inl ⟨by rfl, ?h308⟩) hS0 ?r308
      case h308 => (intro w hw; obtain ⟨q0, q1, q2, q3, q4⟩ := hw; go_simp; try (with_reducible rfl))
      try simp only [Act.put, zA5, zB5, zC5]
      refine wpAnyH_ready (rs := [9]) (by kernel_rfl) (by simp) ?_
      refine AllReadyH.cons rfl ?_ AllReadyH.nil
      intro KK hKK
      go_simp
      refine (CK.out _ kd).mono ?_
      rintro e wx ⟨rfl, hbx⟩
      show KK _ _
      have kk := below_then kd hbx
      have hY := hX.below kk
      have hf := hY.o.free (i := 196) (by omega)
      have hc := hY.o.cS
      refine hKK.out _ _ hY.s (fun _ => ?_)
      clear hKK KK
      refine takeQ (some 65) (i := 10) (v := ?v309) rfl rfl (by kernel_rfl) (by kernel_rfl) (by kernel_rfl) (fun _ _ _ h => h) (Or.inl ⟨by rfl, ?h309⟩) hY.s ?r309
      case h309 => (intro w hw; obtain ⟨q0, q1, q2, q3, q4⟩ := hw; go_simp; try (with_reducible rfl))
      try simp only [Act.put, zA5, zB5, zC5]
      refine takeQ (some 66) (i := 11) (v := ?v310) rfl rfl (by kernel_rfl) (by kernel_rfl) (by kernel_rfl) (fun _ _ _ h => h) (Or.inl ⟨by rfl, ?h310⟩) hY.s ?r310
      case h310 => (intro w hw; obtain ⟨q0, q1, q2, q3, q4⟩ := hw; go_simp; try (with_reducible rfl))
      try simp only [Act.put, zA5, zB5, zC5]
      refine takeQ (some 67) (i := 12) (v := ?v311) rfl rfl (by kernel_rfl) (by kernel_rfl) (by kernel_rfl) (fun _ _ _ h => h) (Or.inl ⟨by rfl, ?h311⟩) hY.s ?r311
      case h311 => (intro w hw; obtain ⟨q0, q1, q2, q3, q4⟩ := hw; go_simp; try (with_reducible rfl))
      try simp only [Act.put, zA5, zB5, zC5]
      refine wpAnyH_ready (rs := [13]) (by kernel_rfl) (by simp) ?_
      refine AllReadyH.cons rfl ?_ AllReadyH.nil
      intro KK hKK
      go_simp
      have hZ := hY.setS so
      refine hKK.out _ _ hZ.s (fun _ => ?_)
      clear hKK KK
      refine wpAnyH_done (by kernel_rfl) ?_ _
      clear hX hY CK kd hc hf hS0 kk hbx
      go_wp2_with fail
      go_roundw
      case rel => exact ⟨k + 1, _, _, _, _, _, by omega, by go_num, HK1.out.1, HK1.out.2.1, HK1.out.2.2, hZ.o, hZ.s.1, hZ.r, hZ.b, hZ.z⟩
      case measure => simp [intOf]; omega
  ·have hkl : k = h.length := by omega
   subst hkl
   have hA4 := (hb.cell (p := ⟨w.heap.size, 0, none⟩) hlt).trans hA2
   have hbw := below_then hb4 hb
   have hX : OfT w2 w.heap.size (.slice ao h.length cap) h.length noR noR noR (.map none) vk vr sd K R wr := ⟨hO, ⟨hC, hA4⟩, hF, hb, hlt⟩
   have hKl : K.length ≤ 64 := by have := congrArg List.length HK.out.1; simp [keysTo] at this; omega
   obtain ⟨aK, cK, rfl⟩ := owns_form hX.r.kr
   obtain ⟨aR, cR, rfl⟩ := owns_form hX.r.rr
   have HKE : Hid (∀ p ∈ K, p.2.length ≤ 64 ∧ ∀ x ∈ p.2, InI x) := hid (fun p hp => by
    have hm : p.2 ∈ keysTo h h.length := by rw [← HK.out.1]; exact List.mem_map.2 ⟨p, hp, rfl⟩
    unfold keysTo at hm
    obtain ⟨i, hi, he⟩ := List.mem_map.1 hm
    have hil := List.mem_range.1 hi
    rw [← he]
    unfold keysOf
    refine ⟨by rw [List.length_map]; exact upTo_len _ 64, fun x hx => ?_⟩
    obtain ⟨q, hq, rfl⟩ := List.mem_map.1 hx
    have hq2 := lastW_key ((((refWrites_rise (by rw [opsAt_eq hil]; exact HKS.out _ (List.getElem_mem hil))).2 q).1 hq).1)
    exact inI_of (((HOK.out _ (List.getElem_mem hil)).2 q (by rw [← opsAt_eq hil]; exact hq2.2.2)).1))
   have kd := (Below.refl wr.heap.size wr).drew
   have CWR : Hid (∀ wx, Below wr.heap.size wr wx → Calls Tryz.prog 60 #[.slice aK K.length cK] wx fun e w' => ∃ b n c, e = .returned (.map (some b)) ∧ wx.heap.size ≤ b ∧ MapI eS Tryz.prog 3 w' b n (wrsTo K K.length) c ∧ AllSet (wrsTo K K.length) ∧ Below wx.heap.size wx w') := hid (fun wx hx => owriters_any _ K wx ((hX.r.below hx).rws) (by omega) (fun p hp => by have := (HKE.out p hp).1; omega) (fun p hp => (HKE.out p hp).2))
   have hmf : ∀ (fn : Fn) (first cap : Array Value) (w : World), (Instr.makeFunc fn first cap).run Tryz.prog w = .ok (.func fn first cap) w := fun _ _ _ _ => rfl
   clear hO hC hF hb hA4 hbw
   go_wp2_with fail
   refine wp_region_held_drew (S := SA (w2.heap.size + 1) w2.heap.size w.heap.size (.slice ao h.length cap)) (by kernel_rfl) hX.drew.s (fun hS0 => ?_)
   have hc0 := hX.o.cK
   refine takeQ (some 69) (i := 0) (v := ?v401) rfl rfl (by kernel_rfl) (by kernel_rfl) (by kernel_rfl) (fun _ _ _ h => h) (Or.inl ⟨by rfl, ?h401⟩) hS0 ?r401
   case h401 => (intro w hw; obtain ⟨q0, q1⟩ := hw; go_simp; try (with_reducible rfl))
   try simp only [Act.put, zA5, zB5, zC5]
   refine takeQ (some 70) (i := 1) (v := ?v402) rfl rfl (by kernel_rfl) (by kernel_rfl) (by kernel_rfl) (fun _ _ _ h => h) (Or.inl ⟨by rfl, ?h402⟩) hS0 ?r402
   case h402 => (intro w hw; obtain ⟨q0, q1⟩ := hw; go_simp; try (with_reducible rfl))
   try simp only [Act.put, zA5, zB5, zC5]
   refine takeQ (some 71) (i := 2) (v := ?v403) rfl rfl (by kernel_rfl) (by kernel_rfl) (by kernel_rfl) (fun _ _ _ h => h) (Or.inl ⟨by rfl, ?h403⟩) hS0 ?r403
   case h403 => (intro w hw; obtain ⟨q0, q1⟩ := hw; go_simp; try (with_reducible rfl))
   try simp only [Act.put, zA5, zB5, zC5]
   refine takeQ (some 72) (i := 3) (v := ?v404) rfl rfl (by kernel_rfl) (by kernel_rfl) (by kernel_rfl) (fun _ _ _ h => h) (Or.inl ⟨by rfl, ?h404⟩) hS0 ?r404
   case h404 => (intro w hw; obtain ⟨q0, q1⟩ := hw; go_simp; try (with_reducible rfl))
   try simp only [Act.put, zA5, zB5, zC5]
   refine wpAnyH_ready (rs := [4]) (by kernel_rfl) (by simp) ?_
   refine AllReadyH.cons rfl ?_ AllReadyH.nil
   intro KK hKK
   go_simp
   refine hKK.out _ _ hS0 (fun _ => ?_)
   clear hKK KK
   refine wpAnyH_ready (rs := [5]) (by kernel_rfl) (by simp) ?_
   refine AllReadyH.cons rfl ?_ AllReadyH.nil
   intro KK hKK
   go_simp
   refine (CWR.out _ kd).mono ?_
   rintro e wx ⟨bw, nw, cw, rfl, hbw, hMw, hAw, hbx⟩
   show KK _ _
   have hY := hX.below (below_then kd hbx)
   have hbB : w2.heap.size < bw := by have h1 := hX.b.size; have h2 := hX.o.lt; have h3 := kd.size; omega
   have hf := hY.o.free (i := 193) (by omega)
   have hc := hY.o.cM
   refine hKK.out _ _ hY.s (fun _ => ?_)
   clear hKK KK
   refine takeQ (some 75) (i := 6) (v := ?v405) rfl rfl (by kernel_rfl) (by kernel_rfl) (by kernel_rfl) (fun _ _ _ h => h) (Or.inl ⟨by rfl, ?h405⟩) hY.s ?r405
   case h405 => (intro w hw; obtain ⟨q0, q1⟩ := hw; go_simp; try (with_reducible rfl))
   try simp only [Act.put, zA5, zB5, zC5]
   refine takeQ (some 76) (i := 7) (v := ?v406) rfl rfl (by kernel_rfl) (by kernel_rfl) (by kernel_rfl) (fun _ _ _ h => h) (Or.inl ⟨by rfl, ?h406⟩) hY.s ?r406
   case h406 => (intro w hw; obtain ⟨q0, q1⟩ := hw; go_simp; try (with_reducible rfl))
   try simp only [Act.put, zA5, zB5, zC5]
   refine wpAnyH_ready (rs := [8]) (by kernel_rfl) (by simp) ?_
   refine AllReadyH.cons rfl ?_ AllReadyH.nil
   intro KK hKK
   go_simp
   have hX13 := hY.setM (.map (some bw))
   have hM13 := hMw.cell (a := ⟨w2.heap.size, 193, none⟩) (by simp; omega) (.map (some bw))
   refine hKK.out _ _ hX13.s (fun _ => ?_)
   clear hKK KK
   refine wpAnyH_done (by kernel_rfl) ?_ _
   clear hX hY kd CWR hc hf hc0 hS0 hMw
   generalize wx.setCell ⟨w2.heap.size, 193, none⟩ (.map (some bw)) = w3 at *
   have hX := hX13
   have hM3 := hM13
   clear hX13 hM13
   have kd := (Below.refl w3.heap.size w3).drew
   have CP : Hid (∀ wx, Below w3.heap.size w3 wx → Calls Tryz.prog 61 #[.int .i64 h.length, .func (.func 62) #[] #[.pointer (some ⟨w.heap.size, 0, none⟩)]] wx fun e w' => e = .returned (.agg (rowsA (sesM h))) ∧ Below wx.heap.size wx w') := hid (fun wx hx => pairs_any (sesP h) h.length (by omega) _ _ wx enters_ses (fun a b wy ha hb hy => ses_calls _ h _ a b wy ((hX.below (below_then hx hy)).s.2) (HT.out _ (below_then hb4 (hX.below (below_then hx hy)).b)) ha hb))
   go_wp2_with fail
   refine wp_region_held_drew (S := SA (w2.heap.size + 1) w2.heap.size w.heap.size (.slice ao h.length cap)) (by kernel_rfl) hX.drew.s (fun hS0 => ?_)
   refine takeQ (some 77) (i := 0) (v := ?v501) rfl rfl (by kernel_rfl) (by kernel_rfl) (by kernel_rfl) (fun _ _ _ h => h) (Or.inl ⟨by rfl, ?h501⟩) hS0 ?r501
   case h501 => (intro w hw; obtain ⟨q0, q1⟩ := hw; go_simp; try (with_reducible rfl))
   try simp only [Act.put, zA5, zB5, zC5]
   refine takeQ (some 78) (i := 1) (v := ?v502) rfl rfl (by kernel_rfl) (by kernel_rfl) (by kernel_rfl) (fun _ _ _ h => h) (Or.inl ⟨by rfl, ?h502⟩) hS0 ?r502
   case h502 => (intro w hw; obtain ⟨q0, q1⟩ := hw; go_simp; try (with_reducible rfl))
   try simp only [Act.put, zA5, zB5, zC5]
   refine takeQ (some 79) (i := 2) (v := ?v503) rfl rfl (by kernel_rfl) (by kernel_rfl) (by kernel_rfl) (fun _ _ _ h => h) (Or.inl ⟨by rfl, ?h503⟩) hS0 ?r503
   case h503 => (intro w hw; obtain ⟨q0, q1⟩ := hw; go_simp; try (with_reducible rfl))
   try simp only [Act.put, zA5, zB5, zC5]
   refine takeQ (some 80) (i := 3) (v := ?v504) rfl rfl (by kernel_rfl) (by kernel_rfl) (by kernel_rfl) (fun _ _ _ h => h) (Or.inl ⟨by rfl, ?h504⟩) hS0 ?r504
   case h504 => (intro w hw; obtain ⟨q0, q1⟩ := hw; go_simp; try (with_reducible rfl))
   try simp only [Act.put, zA5, zB5, zC5]
   refine wpAnyH_ready (rs := [4]) (by kernel_rfl) (by simp) ?_
   refine AllReadyH.cons rfl ?_ AllReadyH.nil
   intro KK hKK
   go_simp
   refine (CP.out _ kd).mono ?_
   rintro e wx ⟨rfl, hbx⟩
   show KK _ _
   have kk := below_then kd hbx
   have hY := hX.below kk
   have hMY := hM3.below kk
   refine hKK.out _ _ hY.s (fun _ => ?_)
   clear hKK KK
   refine takeQ (some 82) (i := 5) (v := ?v505) rfl rfl (by kernel_rfl) (by kernel_rfl) (by kernel_rfl) (fun _ _ _ h => h) (Or.inl ⟨by rfl, ?h505⟩) hY.s ?r505
   case h505 => (intro w hw; obtain ⟨q0, q1⟩ := hw; go_simp; try (with_reducible rfl))
   try simp only [Act.put, List.setIfInBounds_toArray]
   refine takeQ (some 83) (i := 6) (v := ?v506) rfl rfl (by kernel_rfl) (by kernel_rfl) (by kernel_rfl) (fun _ _ _ h => h) (Or.inl ⟨by rfl, ?h506⟩) hY.s ?r506
   case h506 => (intro w hw; obtain ⟨q0, q1⟩ := hw; go_simp; try (with_reducible rfl))
   try simp only [Act.put]
   refine wpAnyH_ready (rs := [7]) (by kernel_rfl) (by simp) ?_
   refine AllReadyH.cons rfl ?_ AllReadyH.nil
   intro KK hKK
   rw [if_pos (by rfl)]
   refine wp_store_mid 97 (.tmp 83) (.tmp 81) rfl w2.heap.size 1 (rowsA (sesM h)) rfl rfl (by rw [rowsA_size]; exact hY.o.there 1 (by omega)) (infoRel' _) (rows_one _) ?_
   have hXn := hY.setS (sesM h)
   have hMn := MapI.cells (g := w2.heap.size) (by omega) (rowsA (sesM h)).toList 1 _ hMY
   refine hKK.out _ _ hXn.s (fun _ => ?_)
   clear hKK KK
   refine wpAnyH_done (by kernel_rfl) ?_ _
   clear hX hM3 hY kd CP hS0 hMY kk hbx
   generalize wx.setCells w2.heap.size 1 (rowsA (sesM h)).toList = w3 at *
   have hX := hXn
   have hM3 := hMn
   clear hXn hMn
   have kd := (Below.refl w3.heap.size w3).drew
   have CP : Hid (∀ wx, Below w3.heap.size w3 wx → Calls Tryz.prog 61 #[.int .i64 h.length, .func (.func 63) #[] #[.pointer (some ⟨w.heap.size, 0, none⟩)]] wx fun e w' => e = .returned (.agg (rowsA (timM h))) ∧ Below wx.heap.size wx w') := hid (fun wx hx => pairs_any (timP h) h.length (by omega) _ _ wx enters_tim (fun a b wy ha hb hy => tim_calls _ h _ a b wy ((hX.below (below_then hx hy)).s.2) (HT.out _ (below_then hb4 (hX.below (below_then hx hy)).b)) ha hb))
   go_wp2_with fail
   refine wp_region_held_drew (S := SA (w2.heap.size + 1) w2.heap.size w.heap.size (.slice ao h.length cap)) (by kernel_rfl) hX.drew.s (fun hS0 => ?_)
   refine takeQ (some 84) (i := 0) (v := ?v601) rfl rfl (by kernel_rfl) (by kernel_rfl) (by kernel_rfl) (fun _ _ _ h => h) (Or.inl ⟨by rfl, ?h601⟩) hS0 ?r601
   case h601 => (intro w hw; obtain ⟨q0, q1⟩ := hw; go_simp; try (with_reducible rfl))
   try simp only [Act.put, zA5, zB5, zC5]
   refine takeQ (some 85) (i := 1) (v := ?v602) rfl rfl (by kernel_rfl) (by kernel_rfl) (by kernel_rfl) (fun _ _ _ h => h) (Or.inl ⟨by rfl, ?h602⟩) hS0 ?r602
   case h602 => (intro w hw; obtain ⟨q0, q1⟩ := hw; go_simp; try (with_reducible rfl))
   try simp only [Act.put]
   refine takeQ (some 86) (i := 2) (v := ?v603) rfl rfl (by kernel_rfl) (by kernel_rfl) (by kernel_rfl) (fun _ _ _ h => h) (Or.inl ⟨by rfl, ?h603⟩) hS0 ?r603
   case h603 => (intro w hw; obtain ⟨q0, q1⟩ := hw; go_simp; try (with_reducible rfl))
   try simp only [Act.put]
   refine takeQ (some 87) (i := 3) (v := ?v604) rfl rfl (by kernel_rfl) (by kernel_rfl) (by kernel_rfl) (fun _ _ _ h => h) (Or.inl ⟨by rfl, ?h604⟩) hS0 ?r604
   case h604 => (intro w hw; obtain ⟨q0, q1⟩ := hw; go_simp; try (with_reducible rfl))
   try simp only [Act.put]
   refine wpAnyH_ready (rs := [4]) (by kernel_rfl) (by simp) ?_
   refine AllReadyH.cons rfl ?_ AllReadyH.nil
   intro KK hKK
   go_simp
   refine (CP.out _ kd).mono ?_
   rintro e wx ⟨rfl, hbx⟩
   show KK _ _
   have kk := below_then kd hbx
   have hY := hX.below kk
   have hMY := hM3.below kk
   refine hKK.out _ _ hY.s (fun _ => ?_)
   clear hKK KK
   refine takeQ (some 89) (i := 5) (v := ?v605) rfl rfl (by kernel_rfl) (by kernel_rfl) (by kernel_rfl) (fun _ _ _ h => h) (Or.inl ⟨by rfl, ?h605⟩) hY.s ?r605
   case h605 => (intro w hw; obtain ⟨q0, q1⟩ := hw; go_simp; try (with_reducible rfl))
   try simp only [Act.put, List.setIfInBounds_toArray]
   refine takeQ (some 90) (i := 6) (v := ?v606) rfl rfl (by kernel_rfl) (by kernel_rfl) (by kernel_rfl) (fun _ _ _ h => h) (Or.inl ⟨by rfl, ?h606⟩) hY.s ?r606
   case h606 => (intro w hw; obtain ⟨q0, q1⟩ := hw; go_simp; try (with_reducible rfl))
   try simp only [Act.put]
   refine wpAnyH_ready (rs := [7]) (by kernel_rfl) (by simp) ?_
   refine AllReadyH.cons rfl ?_ AllReadyH.nil
   intro KK hKK
   rw [if_pos (by rfl)]
   refine wp_store_mid 97 (.tmp 90) (.tmp 88) rfl w2.heap.size 65 (rowsA (timM h)) rfl rfl (by rw [rowsA_size]; exact hY.o.there 65 (by omega)) (infoRel' _) (rows_one _) ?_
   have hXn := hY.setT (timM h)
   have hMn := MapI.cells (g := w2.heap.size) (by omega) (rowsA (timM h)).toList 65 _ hMY
   refine hKK.out _ _ hXn.s (fun _ => ?_)
   clear hKK KK
   refine wpAnyH_done (by kernel_rfl) ?_ _
   clear hX hM3 hY kd CP hS0 hMY kk hbx
   generalize wx.setCells w2.heap.size 65 (rowsA (timM h)).toList = w3 at *
   have hX := hXn
   have hM3 := hMn
   clear hXn hMn
   have kd := (Below.refl w3.heap.size w3).drew
   have CP : Hid (∀ wx, Below w3.heap.size w3 wx → Calls Tryz.prog 61 #[.int .i64 h.length, .func (.func 64) #[] #[.pointer (some ⟨w2.heap.size + 1, 0, none⟩)]] wx fun e w' => e = .returned (.agg (rowsA (froM h))) ∧ Below wx.heap.size wx w') := hid (fun wx hx => pairs_any (froP h) h.length (by omega) _ _ wx enters_fro (fun a b wy ha hb hy => fro_calls _ h R _ _ a b wy ((hX.below (below_then hx hy)).s.1) ((hX.below (below_then hx hy)).o.cR) ((hX.below (below_then hx hy)).r.frws) HK.out.2.1 hb))
   go_wp2_with fail
   refine wp_region_held_drew (S := SA (w2.heap.size + 1) w2.heap.size w.heap.size (.slice ao h.length cap)) (by kernel_rfl) hX.drew.s (fun hS0 => ?_)
   refine takeQ (some 91) (i := 0) (v := ?v701) rfl rfl (by kernel_rfl) (by kernel_rfl) (by kernel_rfl) (fun _ _ _ h => h) (Or.inl ⟨by rfl, ?h701⟩) hS0 ?r701
   case h701 => (intro w hw; obtain ⟨q0, q1⟩ := hw; go_simp; try (with_reducible rfl))
   try simp only [Act.put, zA5, zB5, zC5]
   refine takeQ (some 92) (i := 1) (v := ?v702) rfl rfl (by kernel_rfl) (by kernel_rfl) (by kernel_rfl) (fun _ _ _ h => h) (Or.inl ⟨by rfl, ?h702⟩) hS0 ?r702
   case h702 => (intro w hw; obtain ⟨q0, q1⟩ := hw; go_simp; try (with_reducible rfl))
   try simp only [Act.put]
   refine takeQ (some 93) (i := 2) (v := ?v703) rfl rfl (by kernel_rfl) (by kernel_rfl) (by kernel_rfl) (fun _ _ _ h => h) (Or.inl ⟨by rfl, ?h703⟩) hS0 ?r703
   case h703 => (intro w hw; obtain ⟨q0, q1⟩ := hw; go_simp; try (with_reducible rfl))
   try simp only [Act.put]
   refine takeQ (some 94) (i := 3) (v := ?v704) rfl rfl (by kernel_rfl) (by kernel_rfl) (by kernel_rfl) (fun _ _ _ h => h) (Or.inl ⟨by rfl, ?h704⟩) hS0 ?r704
   case h704 => (intro w hw; obtain ⟨q0, q1⟩ := hw; go_simp; try (with_reducible rfl))
   try simp only [Act.put]
   refine wpAnyH_ready (rs := [4]) (by kernel_rfl) (by simp) ?_
   refine AllReadyH.cons rfl ?_ AllReadyH.nil
   intro KK hKK
   go_simp
   refine (CP.out _ kd).mono ?_
   rintro e wx ⟨rfl, hbx⟩
   show KK _ _
   have kk := below_then kd hbx
   have hY := hX.below kk
   have hMY := hM3.below kk
   refine hKK.out _ _ hY.s (fun _ => ?_)
   clear hKK KK
   refine takeQ (some 96) (i := 5) (v := ?v705) rfl rfl (by kernel_rfl) (by kernel_rfl) (by kernel_rfl) (fun _ _ _ h => h) (Or.inl ⟨by rfl, ?h705⟩) hY.s ?r705
   case h705 => (intro w hw; obtain ⟨q0, q1⟩ := hw; go_simp; try (with_reducible rfl))
   try simp only [Act.put, List.setIfInBounds_toArray]
   refine takeQ (some 97) (i := 6) (v := ?v706) rfl rfl (by kernel_rfl) (by kernel_rfl) (by kernel_rfl) (fun _ _ _ h => h) (Or.inl ⟨by rfl, ?h706⟩) hY.s ?r706
   case h706 => (intro w hw; obtain ⟨q0, q1⟩ := hw; go_simp; try (with_reducible rfl))
   try simp only [Act.put]
   refine wpAnyH_ready (rs := [7]) (by kernel_rfl) (by simp) ?_
   refine AllReadyH.cons rfl ?_ AllReadyH.nil
   intro KK hKK
   rw [if_pos (by rfl)]
   refine wp_store_mid 97 (.tmp 97) (.tmp 95) rfl w2.heap.size 129 (rowsA (froM h)) rfl rfl (by rw [rowsA_size]; exact hY.o.there 129 (by omega)) (infoRel' _) (rows_one _) ?_
   have hXn := hY.setF (froM h)
   have hMn := MapI.cells (g := w2.heap.size) (by omega) (rowsA (froM h)).toList 129 _ hMY
   refine hKK.out _ _ hXn.s (fun _ => ?_)
   clear hKK KK
   refine wpAnyH_done (by kernel_rfl) ?_ _
   clear hX hM3 hY kd CP hS0 hMY kk hbx
   generalize wx.setCells w2.heap.size 129 (rowsA (froM h)).toList = w3 at *
   have hq := hXn.s.1
   go_wp2_with fail
   go_ret2
   exact ⟨⟨_, rfl, by have := hb4.size; omega, _, _, _, _, _, K, R, HK.out.2.2 ▸ hXn.o, hMn, hAw, hXn.r, HK.out.1, HK.out.2.1⟩, below_then hb4 hXn.b⟩
end

section
open Go.RowKit
theorem txns_none (w : World) : Txns w (.slice none 0 0) [] := ⟨⟨rfl, none, 0, rfl, ⟨Nat.le_refl _, Nat.zero_le _⟩, fun _ => ⟨rfl, rfl⟩, fun h => absurd h (by simp)⟩, fun t ht => by cases ht⟩
theorem lone_any (w : World) : Calls Tryz.prog 44 #[] w fun e w' => e = .returned (.bool true) ∧ Below w.heap.size w w' := by
 have CO := hid (of_done (.slice none 0 0) [] w (txns_none w) (fun t ht => by cases ht) (fun t ht => by cases ht) rfl)
 go_enter Tryz.func44, Tryz.ntmps44
 go_wp2_with fail
 refine (CO.out).mono ?_
 rintro e w1 ⟨⟨B, rfl, hB, hO⟩, hb⟩
 have n0 : w1.cell? ⟨B, 196, none⟩ = some (.bool true) := hO.blk.cS
 have n1 : w1.cell? ⟨B, 0, none⟩ = some (.int .i64 0) := hO.blk.cN
 clear CO hO
 go_wp2_with fail
 go_ret
 exact ⟨rfl, hb⟩
end

section
open Go.RowKit
def waysN (h : List TxnV) (C n : Nat) : Nat → List Nat → Nat
 | 0, _ => 1
 | k + 1, r => ((List.range n).map fun i => if tryP h C r i = true then waysN h C n k (i :: r) else 0).sum
def waysTo (h : List TxnV) (C n k : Nat) (r : List Nat) (j : Nat) : Nat := ((List.range j).map fun i => if tryP h C r i = true then waysN h C n k (i :: r) else 0).sum
theorem waysTo_succ (h : List TxnV) (C n k : Nat) (r : List Nat) (j : Nat) : waysTo h C n k r (j + 1) = waysTo h C n k r j + if tryP h C r j = true then waysN h C n k (j :: r) else 0 := by
 unfold waysTo; rw [List.range_succ, List.map_append, List.sum_append]; simp
theorem ways_len (h : List TxnV) (C n : Nat) : ∀ (k : Nat) (r : List Nat), waysN h C n k r ≤ n ^ k
 | 0, r => by simp [waysN]
 | k + 1, r => by
  have key : ∀ j, waysTo h C n k r j ≤ j * n ^ k := by
   intro j
   induction j with
   | zero => simp [waysTo]
   | succ j ih =>
    rw [waysTo_succ, Nat.succ_mul]
    refine Nat.add_le_add ih ?_
    split
    ·exact ways_len h C n k _
    ·exact Nat.zero_le _
  rw [Nat.pow_succ, Nat.mul_comm]
  exact key n
theorem waysTo_len (h : List TxnV) (C n k : Nat) (r : List Nat) (j : Nat) : waysTo h C n k r j ≤ j * n ^ k := by
 induction j with
 | zero => simp [waysTo]
 | succ j ih =>
  rw [waysTo_succ, Nat.succ_mul]
  refine Nat.add_le_add ih ?_
  split
  ·exact ways_len h C n k _
  ·exact Nat.zero_le _
section
variable {W : World} {S B b : Nat} {h : List TxnV} {C : Nat} {vb : Value}
theorem ways_any (hc : checkI h = 0) (hC : C < 9223372036854775808) (h8 : h.length ≤ 8) : ∀ (k : Nat) (r : List Nat) (vr : Value) (aF sF : Nat → Nat) (w : World), PlIs W S B b h C r vb vr aF sF w → r.length + k = h.length →
  Calls Tryz.prog 49 #[.pointer (some ⟨S, 0, none⟩), .int .i64 (h.length : Int)] w fun e w' => e = .returned (.int .i64 ((waysN h C h.length k r : Nat) : Int)) ∧ ∃ vr' aF' sF', PlIs W S B b h C r vb vr' aF' sF' w'
 | 0, r, vr, aF, sF, w, p, hl => by
  have CD := hid (pdone_any p)
  rw [decide_eq_true (by omega : r.length = h.length)] at CD
  have P := hid p
  have HV : Hid ((1 : Int) = ((waysN h C h.length 0 r : Nat) : Int)) := hid rfl
  clear p
  go_enter Tryz.func49, Tryz.ntmps49
  go_wp2_with fail
  refine CD.out.mono ?_
  rintro e w1 ⟨rfl, hb⟩
  have P1 := hid (P.out.below hb)
  go_wp2_with fail
  go_ret
  exact ⟨ret_i HV.out, _, _, _, P1.out⟩
 | k + 1, r, vr, aF, sF, w, p, hl => by
  have IH := hid (fun r vr aF sF w p hl => ways_any hc hC h8 k r vr aF sF w p hl)
  have CD := hid (pdone_any p)
  rw [decide_eq_false (by omega : ¬ r.length = h.length)] at CD
  have h64 : h.length ≤ 64 := by omega
  have P := hid p
  have HV : Hid (waysN h C h.length (k + 1) r = waysTo h C h.length k r h.length) := hid rfl
  have HB : Hid (∀ j, j ≤ h.length → waysTo h C h.length k r j ≤ 16777216) := hid (fun j hj => by
   have h1 := waysTo_len h C h.length k r j
   have h2 : j * h.length ^ k ≤ h.length ^ (k + 1) := by rw [Nat.pow_succ, Nat.mul_comm]; exact Nat.mul_le_mul_left _ hj
   have h3 : h.length ^ (k + 1) ≤ 8 ^ 8 := Nat.le_trans (Nat.pow_le_pow_left h8 _) (Nat.pow_le_pow_right (by omega) (by omega))
   have h4 : (8 : Nat) ^ 8 = 16777216 := by decide
   omega)
  have HL := hid hl
  have HCK := hid hc
  have CN := hid (fun r vr aF sF w (p : PlIs W S B b h C r vb vr aF sF w) (i : Int) (hn : tryI h C r i = false) => ptry_no p hc hC i hn)
  have CY := hid (fun r vr aF sF w (p : PlIs W S B b h C r vb vr aF sF w) (i : Nat) (hn : tryP h C r i = true) => ptry_yes p hc hC i hn)
  clear p hl hc
  go_enter Tryz.func49, Tryz.ntmps49
  go_wp2_with fail
  refine CD.out.mono ?_
  rintro e w1 ⟨rfl, hb⟩
  have P1 := hid (P.out.below hb)
  clear hb CD
  go_wp2_with fail
  go_loopw [5, 10] (fun x i wr => ∃ (j y : Nat), j ≤ h.length ∧ y ≤ 16777216 ∧ x = .int .i64 (y : Int) ∧ i = .int .i64 (j : Int) ∧ Hid (y = waysTo h C h.length k r j) ∧ Hid (∃ vr aF sF, PlIs W S B b h C r vb vr aF sF wr)) (fun _ i _ => h.length - (intOf i).toNat)
  case atStart => exact ⟨0, 0, by omega, by omega, rfl, rfl, hid rfl, hid ⟨_, _, _, P1.out⟩⟩
  case round =>
   clear P1 P
   obtain ⟨j, y, hj, hy, rfl, rfl, HY, HP⟩ := hrel
   by_cases hlt : (j : Int) < (h.length : Int)
   ·obtain ⟨vr, aF, sF, p⟩ := HP.out
    have HS := hid (waysTo_succ h C h.length k r j)
    have HB1 := hid (HB.out (j + 1) (by omega))
    cases ht : tryP h C r j with
    | true =>
     have CT := hid (CY.out r vr aF sF wr p j ht)
     rw [ht, if_pos rfl] at HS
     clear p ht
     go_wp2_with fail
     refine CT.out.mono ?_
     rintro e w2 ⟨rfl, vr2, aF2, sF2, p2, _⟩
     have CI := hid (IH.out (j :: r) vr2 aF2 sF2 w2 p2 (by have := HL.out; simp; omega))
     have HYB : Hid (y + waysN h C h.length k (j :: r) ≤ 16777216 ∧ y + waysN h C h.length k (j :: r) = waysTo h C h.length k r (j + 1)) := hid (by have h1 := HS.out; have h2 := HB1.out; have h3 := HY.out; omega)
     clear p2 CT
     generalize waysN h C h.length k (j :: r) = z at *
     have hyz : y + z ≤ 16777216 := HYB.out.1
     go_wp2_with fail
     refine CI.out.mono ?_
     rintro e w3 ⟨rfl, vr3, aF3, sF3, p3⟩
     have CU := hid (pundo_cons p3 h64)
     clear p3 CI
     go_wp2_with fail
     refine CU.out.mono ?_
     rintro e w4 ⟨rfl, vr4, p4, _⟩
     have P4 : Hid (∃ vr aF sF, PlIs W S B b h C r vb vr aF sF w4) := hid ⟨_, _, _, p4⟩
     clear p4 CU
     go_wp2_with fail
     go_roundw
     case rel => exact ⟨j + 1, y + z, by omega, hyz, rfl, rfl, hid HYB.out.2, P4⟩
     case measure => simp only [intOf]; omega
    | false =>
     have CT := hid (CN.out r vr aF sF wr p (j : Int) (by unfold tryI; rw [Int.toNat_natCast, ht, Bool.and_false]))
     rw [ht, if_neg (by simp), Nat.add_zero] at HS
     have HP2 := hid (fun wx (hx : Below wr.heap.size wr wx) => p.below hx)
     clear p ht
     go_wp2_with fail
     refine CT.out.mono ?_
     rintro e w2 ⟨rfl, hb2⟩
     have P4 : Hid (∃ vr aF sF, PlIs W S B b h C r vb vr aF sF w2) := hid ⟨_, _, _, HP2.out _ hb2⟩
     clear hb2 HP2
     go_wp2_with fail
     go_roundw
     case rel => exact ⟨j + 1, y, by omega, hy, rfl, rfl, hid (by rw [HS.out]; exact HY.out), P4⟩
     case measure => simp only [intOf]; omega
   ·have HQ : Hid ((y : Int) = ((waysN h C h.length (k + 1) r : Nat) : Int)) := hid (by rw [HV.out, HY.out, show j = h.length by omega])
    go_wp2_with fail
    go_ret
    exact ⟨ret_i HQ.out, HP.out⟩
end
end

section
open Go.RowKit
theorem sum_pos_of {l : List Nat} {x : Nat} (h : x ∈ l) (hx : 0 < x) : 0 < l.sum := by
 induction l with
 | nil => cases h
 | cons y l ih =>
  rw [List.sum_cons]
  rcases List.mem_cons.1 h with rfl | h
  ·omega
  ·have := ih h; omega
theorem of_sum_pos : ∀ {l : List Nat}, 0 < l.sum → ∃ x ∈ l, 0 < x
 | [], h => absurd h (Nat.lt_irrefl _)
 | y :: l, h => by
  by_cases hy : 0 < y
  ·exact ⟨y, List.mem_cons_self .., hy⟩
  ·rw [List.sum_cons] at h
   obtain ⟨x, hx, hp⟩ := of_sum_pos (l := l) (by omega)
   exact ⟨x, List.mem_cons_of_mem _ hx, hp⟩
theorem first_ways {h : List TxnV} {C n : Nat} : ∀ (k : Nat) (r : List Nat), (firstE h C n k r).isSome = decide (0 < waysN h C n k r)
 | 0, r => by simp [firstE, waysN]
 | k + 1, r => by
  rw [Bool.eq_iff_iff, decide_eq_true_eq]
  unfold firstE waysN
  rw [List.findSome?_isSome_iff]
  constructor
  ·rintro ⟨j, hj, hs⟩
   by_cases ht : tryP h C r j = true
   ·rw [if_pos ht, first_ways k (j :: r), decide_eq_true_eq] at hs
    exact sum_pos_of (List.mem_map.2 ⟨j, hj, if_pos ht⟩) hs
   ·rw [if_neg ht] at hs; cases hs
  ·intro hp
   obtain ⟨x, hx, hp⟩ := of_sum_pos hp
   obtain ⟨j, hj, rfl⟩ := List.mem_map.1 hx
   refine ⟨j, hj, ?_⟩
   by_cases ht : tryP h C r j = true
   ·rw [if_pos ht] at hp ⊢
    rw [first_ways k (j :: r), decide_eq_true_eq]; exact hp
   ·rw [if_neg ht] at hp; exact absurd hp (Nat.lt_irrefl _)
theorem first_len {h : List TxnV} {C n : Nat} : ∀ (k : Nat) (r x : List Nat), firstE h C n k r = some x → x.length = r.length + k
 | 0, r, x, e => by unfold firstE at e; cases e; rfl
 | k + 1, r, x, e => by
  unfold firstE at e
  obtain ⟨j, _, e⟩ := List.exists_of_findSome?_eq_some e
  by_cases ht : tryP h C r j = true
  ·rw [if_pos ht] at e
   have := first_len k (j :: r) x e
   rw [List.length_cons] at this; omega
  ·rw [if_neg ht] at e; cases e
theorem tr_levs : ∀ k, k ≤ 5 → trN k ≤ levN k ∧ levN k < 4000 ∧ trN k ≤ 4000 := by decide +kernel
theorem SeaStep.low {w0 w w' : World} {S Mb T : Nat} {vr vr' : Value} (k : SeaStep S Mb T vr vr' w w') (hb : Below w0.heap.size w0 w) (hS : w0.heap.size ≤ S) (hM : w0.heap.size ≤ Mb) (hT : w0.heap.size ≤ T) (hv : ∀ g, vr.ownBlock = some g → w0.heap.size ≤ g) : Below w0.heap.size w0 w' :=
 ⟨k.os.trans hb.os, k.tape.trans hb.tape, k.output.trans hb.output, Nat.le_trans hb.size k.size, fun j hj => (k.block j (Nat.lt_of_lt_of_le hj hb.size) (by omega) (by omega) (by omega) (fun e => by have := hv j e; omega)).trans (hb.block j hj)⟩
theorem Wea.made {w0 w1 w2 : World} {S B b N : Nat} {h : List TxnV} {C T F : Nat} {vb : Value} {aF sF : Nat → Nat} (p : PlX w0 N S B b h C [] vb (.slice none 0 0) aF sF w1) (hb : Below (w1.alloc (.map #[] 0)).heap.size (w1.alloc (.map #[] 0)) w2) (hT : w1.heap.size + 1 ≤ T) (hm : MtAt w2 T F 0) (t : TypeId) :
  Wea w0 N S B b h C w2.heap.size w1.heap.size T F vb [] (.slice none 0 0) aF sF [] 0 (w2.alloc (.cells #[.pointer (some ⟨B, 0, none⟩), .pointer (some ⟨S, 0, none⟩), .map (some w1.heap.size), .pointer (some ⟨T, 0, none⟩)] t)) := by
 have b1 := box_below w1 (.map #[] 0)
 have hs1 : (w1.alloc (.map #[] 0)).heap.size = w1.heap.size + 1 := by simp
 have b2 := below_then b1 hb
 have b3 := box_below w2 (.cells #[.pointer (some ⟨B, 0, none⟩), .pointer (some ⟨S, 0, none⟩), .map (some w1.heap.size), .pointer (some ⟨T, 0, none⟩)] t)
 have hl := p.lowS
 have hn := heap_alloc_new w2 (.cells #[.pointer (some ⟨B, 0, none⟩), .pointer (some ⟨S, 0, none⟩), .map (some w1.heap.size), .pointer (some ⟨T, 0, none⟩)] t)
 have hmm := ((MemM.made w1).below hb (by rw [hs1]; omega)).below b3 (by have := hb.size; omega)
 have hsz := hb.size
 have hTl := hm.lt
 refine ⟨p.below (below_then b2 b3), ⟨?_, ?_, ?_, ?_⟩, ?_, hm.below b3 hm.lt, fun g hg => ?_, ⟨?_, ?_, ?_⟩, ⟨?_, ?_, ?_⟩⟩
 ·rw [cell_of_row _ _ _ _ _ _ hn]; rfl
 ·rw [cell_of_row _ _ _ _ _ _ hn]; rfl
 ·rw [cell_of_row _ _ _ _ _ _ hn]; rfl
 ·rw [cell_of_row _ _ _ _ _ _ hn]; rfl
 ·rw [memF_nil]; exact hmm
 ·have h1 := p.of hg
  omega
 ·omega
 ·omega
 ·omega
 ·omega
 ·omega
 ·omega
theorem memo8_walk (va : Value) (h : List TxnV) (a : Nat) (w : World) (ha : a < 256) (ht : Tab w) (hK : Kinds w) (hT : Txns w va h) (hok : ∀ t ∈ h, t.ok) (hsh : Short h) :
  Calls Tryz.prog 11 #[va, .int .u8 a] w fun e w' => e = .returned (.bool true) ∧ Below w.heap.size w w' := by
 have hg := ht.pos
 have HT : Hid (∀ wx, Below w.heap.size w wx → Tab wx ∧ Kinds wx) := hid (fun wx hb => ⟨ht.below hb hg, hK.below hb⟩)
 have HH := hid (fun wx (hx : Below w.heap.size w wx) => hT.below hx)
 obtain ⟨ao, cap, rfl, hal⟩ := hT.form
 have HOK := hid hok
 have HSH := hid hsh
 have CL := hid (lone_any w)
 have CF := hid (fun wx => flevel_any 3 wx)
 rw [show levZ 3 = 18 by decide +kernel] at CF
 have mm : (a : Int) % 12 = ((a % 12 : Nat) : Int) := by omega
 have lm : a % 12 < 12 := Nat.mod_lt _ (by omega)
 generalize a % 12 = x at *
 clear ht hK hT hok hsh
 by_cases h5 : 5 < h.length
 ·have h5i : (5 : Int) < (h.length : Int) := by omega
  clear h5
  go_enter Tryz.func11, Tryz.ntmps11
  go_wp2_with fail
  refine CL.out.mono ?_
  rintro e w1 ⟨rfl, hb1⟩
  go_wp2_with fail
  refine (CF.out _).mono ?_
  rintro e wq ⟨rfl, rfl⟩
  go_wp2_with fail
  go_ret
  exact ⟨rfl, hb1⟩
 have h5i : ¬ (5 : Int) < (h.length : Int) := by omega
 have CK := hid (fun wx (hx : Below w.heap.size w wx) => rcheck_any _ h wx (HH.out _ hx) HSH.out)
 rw [← check_ref] at CK
 go_enter Tryz.func11, Tryz.ntmps11
 go_wp2_with fail
 refine CL.out.mono ?_
 rintro e w1 ⟨rfl, hb1⟩
 go_wp2_with fail
 refine (CF.out _).mono ?_
 rintro e wq ⟨rfl, rfl⟩
 have CK1 := hid (CK.out _ hb1)
 clear CK CL CF
 by_cases hc : checkI h = 0
 rotate_left
 ·have hci : (checkI h == 0) = false := by rw [beq_eq_false_iff_ne]; exact hc
  have hcj : (checkI h != 0) = true := by rw [bne_iff_ne]; exact hc
  generalize checkI h = z at *
  go_wp2_with fail
  refine CK1.out.mono ?_
  rintro e w2 ⟨rfl, hb2⟩
  have HF := hid (below_then hb1 hb2)
  go_wp2_with fail
  go_ret
  exact ⟨rfl, HF.out⟩
 rw [hc] at CK1
 go_wp2_with fail
 refine CK1.out.mono ?_
 rintro e w2 ⟨rfl, hb2⟩
 have hb2 := below_then hb1 hb2
 have CO := hid (of_done _ h w2 (HH.out _ hb2) HOK.out HSH.out hc)
 have HC := hid hc
 clear hc hb1 CK1
 go_wp2_with fail
 refine CO.out.mono ?_
 rintro e w3 ⟨⟨B, rfl, hB, hO⟩, hb3⟩
 have hb3 := below_then hb2 hb3
 have CA := hid (lasks_any (x : Int) w3 (HT.out _ hb3).2)
 have HOT : Hid (OrdIs w3 B (B + 2) h ∧ Tab w3) := hid ⟨hO, (HT.out _ hb3).1⟩
 have CN := hid (fun wx (hx : Below w3.heap.size w3 wx) => xnew_any ((askN (x : Int) : Nat) : Int) HOT.out.1 HC.out HOT.out.2 hx)
 have CM := hid (fun wx (hx : Below w3.heap.size w3 wx) => pnew_any ((askN (x : Int) : Nat) : Int) h B (B + 2) wx (hO.below hx) HC.out (HOT.out.2.below hx HOT.out.2.pos))
 have HCL : Hid (clI ((askN (x : Int) : Nat) : Int) < 9223372036854775808) := hid (by have := clI_lt ((askN (x : Int) : Nat) : Int); omega)
 have HB3 := hid hb3
 have h8 : h.length ≤ 8 := by omega
 have CV := hid (fun wx => flevel_any (h.length : Int) wx)
 rw [show levZ (h.length : Int) = levN h.length by unfold levZ; rw [Int.toNat_natCast]] at CV
 have hlv := tr_levs h.length (by omega)
 have CT := hid (fun wx => fnew_any ((levN h.length : Nat) : Int) wx)
 rw [show fuelN ((levN h.length : Nat) : Int) = levN h.length by unfold fuelN; omega] at CT
 have hmk := @run_makeMap Tryz.prog
 clear hb2 hb3 CO hB hO
 go_wp2_with fail
 refine CA.out.mono ?_
 rintro e wq ⟨rfl, rfl⟩
 generalize clI ((askN (x : Int) : Nat) : Int) = C at *
 have CN1 := hid (CN.out _ (Below.refl _ _))
 clear CN CA
 have HLV := hid hlv
 generalize levN h.length = F at *
 go_wp2_with fail
 refine CN1.out.mono ?_
 rintro e w4 ⟨S, vb, aF, sF, rfl, p, h4⟩
 go_wp2_with fail
 refine (CV.out _).mono ?_
 rintro e wq ⟨rfl, rfl⟩
 go_wp2_with fail
 refine (CT.out _).mono ?_
 rintro e w5 ⟨T, rfl, hm5, hT5, h5x⟩
 have Q := Wea.made p h5x (by simpa using hT5) hm5 85
 have h45 := below_then (box_below w4 (.map #[] 0)) h5x
 have h46 := below_then h45 (box_below w5 (.cells #[.pointer (some ⟨B, 0, none⟩), .pointer (some ⟨S, 0, none⟩), .map (some w4.heap.size), .pointer (some ⟨T, 0, none⟩)] 85))
 have h36 := h4.trans (h46.mono h4.size)
 clear p hm5 hT5 h5x h45 h46 h4 CT hmk
 go_upto_region 10 with fail
 generalize w5.alloc (.cells #[.pointer (some ⟨B, 0, none⟩), .pointer (some ⟨S, 0, none⟩), .map (some w4.heap.size), .pointer (some ⟨T, 0, none⟩)] 85) = w6 at *
 generalize w5.heap.size = X at *
 generalize w4.heap.size = Mb at *
 have HCO : Hid ((fnd h C h.length h.length [] []).2.2 ≤ F) := hid (Nat.le_trans (fnd_tries h.length [] [] List.nodup_nil (fun _ q => by cases q) (by simp) rfl) HLV.out.1)
 have hFN := fnd_right (n := h.length) (C := C) HC.out rfl h.length [] [] [] RowG.nil (by simp) (fun a q => by cases q) (fun q hq => by cases hq)
 have HFE := hid hFN.1
 have CI := hid (wfind_any HOT.out.1 HOT.out.2 HC.out HCL.out h.length [] (.slice none 0 0) aF sF [] 0 w6 Q (by simp) (by have := HCO.out; have := HLV.out; simp only [List.length_nil]; omega) (by have := HCO.out; omega) (by have := HLV.out; omega))
 have HLO : Hid (w3.heap.size ≤ S ∧ w3.heap.size ≤ Mb ∧ w3.heap.size ≤ T) := hid ⟨(Q.p.of (.inl rfl)).1, Q.lo.2.1, Q.lo.2.2⟩
 have hlF := HLV.out.2.1
 clear hFN hlv
 go_wp2_with fail
 refine CI.out.mono ?_
 rintro e w7 ⟨vr7, aF7, sF7, hst, rfl, Q7⟩
 have h37 := hst.low h36 HLO.out.1 HLO.out.2.1 HLO.out.2.2 (fun g q => by cases q)
 have CM1 := hid (CM.out _ h37)
 have Q7 := hid Q7
 clear hst Q CI CM h36
 rw [Nat.zero_add] at Q7
 go_wp2_with fail
 refine CM1.out.mono ?_
 rintro e w8 ⟨S2, vb2, aF2, sF2, rfl, p2⟩
 have CWA := hid (ways_any HC.out HCL.out h8 h.length [] _ aF2 sF2 w8 p2 (by simp))
 have HFW := hid (first_ways (h := h) (C := C) (n := h.length) h.length [])
 clear p2 CM1
 generalize waysN h C h.length h.length [] = z at *
 go_wp2_with fail
 refine CWA.out.mono ?_
 rintro e w9 ⟨rfl, vr9, aF9, sF9, p9⟩
 have Q9 := hid (Q7.out.below p9.bel)
 have h39 := h37.trans (p9.bel.mono h37.size)
 have HZ := hid (below_then HB3.out h39)
 obtain ⟨c0, c1, c2, c3⟩ := Q9.out.x
 have CU := hid (fused_any T F _ w9 Q9.out.t)
 have CD := hid (xdone_any Q9.out.p)
 clear p9 h37 h39 CWA Q7
 by_cases hz : 0 < z
 ·have hzi : (0 : Int) < (z : Int) := by omega
  have hfs : (fnd h C h.length h.length [] []).1.isSome = true := by rw [HFE.out, HFW.out]; exact decide_eq_true hz
  obtain ⟨y, hy⟩ := Option.isSome_iff_exists.1 hfs
  have hyl : y.length = h.length := by
   have := first_len h.length [] y (by rw [← HFE.out]; exact hy)
   simpa using this
  rw [hy] at CD
  rw [show ((some y).getD []).length = y.length from rfl, decide_eq_true hyl] at CD
  have hcu : (((fnd h C h.length h.length [] []).2.2 : Nat) : Int) ≤ (F : Int) := by have := HCO.out; omega
  rw [hfs]
  generalize (fnd h C h.length h.length [] []).2.2 = cc at *
  clear hfs hy hyl hz HFE HFW HCO Q9
  go_wp2_with fail
  refine CU.out.mono ?_
  rintro e wq ⟨rfl, rfl⟩
  go_wp2_with fail
  refine (CV.out _).mono ?_
  rintro e wq ⟨rfl, rfl⟩
  go_wp2_with fail
  refine CD.out.mono ?_
  rintro e w10 ⟨rfl, h10⟩
  have hz := below_then HZ.out h10
  clear h10 c0 c1 c2 c3
  go_wp2_with fail
  go_ret
  exact ⟨rfl, hz⟩
 ·have hzi : ¬ (0 : Int) < (z : Int) := by omega
  have hfs : (fnd h C h.length h.length [] []).1.isSome = false := by rw [HFE.out, HFW.out]; exact decide_eq_false hz
  have hcu : (((fnd h C h.length h.length [] []).2.2 : Nat) : Int) ≤ (F : Int) := by have := HCO.out; omega
  rw [hfs]
  generalize (fnd h C h.length h.length [] []).2.2 = cc at *
  clear hfs hz HFE HFW HCO Q9 CD
  go_wp2_with fail
  refine CU.out.mono ?_
  rintro e wq ⟨rfl, rfl⟩
  go_wp2_with fail
  refine (CV.out _).mono ?_
  rintro e wq ⟨rfl, rfl⟩
  go_wp2_with fail
  go_ret
  exact ⟨rfl, HZ.out⟩
end

end Go.Proofs.YtecpeegbfeijaaaGreatDoor
