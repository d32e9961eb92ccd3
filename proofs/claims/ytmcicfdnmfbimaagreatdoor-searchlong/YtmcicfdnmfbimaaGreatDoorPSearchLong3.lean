/- Walks and plain facts that the proof of the statement SearchLong uses, joined: RelT LeaE RelX RelY LeaF LeaG AxiA AxiB AxiC AxiD LevC LevE AxiE LeaB RelU OrdAA. Conditions: each theorem's own. -/
import Derived.Deep.LoopGhost
import Derived.ChangeKeysEq
import Derived.Deep.AppendLies
import Derived.Deep.RegionLaw
import Derived.Great.BuildSlice
import Derived.KernelRfl
import Derived.Test.YtmcicfdnmfbimaaGreatDoorPSearchLong0
import Derived.Test.YtmcicfdnmfbimaaGreatDoorPSearchLong2
namespace Go.Proofs.YtmcicfdnmfbimaaGreatDoor
set_option maxHeartbeats 32000000
set_option maxRecDepth 100000
open Lib (hid)
section
open Go.RowKit
def behB (L : List Int) (j : Nat) : Bool := L.any fun a => a == (j : Int)
def chainR : List Int → Mat
 | [] => noR
 | a :: L => fun x y => chainR L x y || (a == (x : Int) && behB L y)
theorem chain_row (a : Nat) (L : List Int) : rowsA (rowSet (chainR L) a fun j => chainR L a j || behB L j) = rowsA (chainR ((a : Int) :: L)) :=
 rowsA_congr fun i j _ _ => by
  unfold rowSet
  simp only [chainR]
  by_cases h : i = a
  ·subst h; simp
  ·rw [if_neg h]
   have : ((a : Int) == (i : Int)) = false := by rw [beq_eq_false_iff_ne]; omega
   rw [this]; simp
theorem chain_skip (a : Int) (L : List Int) (h : ¬ (0 ≤ a ∧ a < 64)) : rowsA (chainR L) = rowsA (chainR (a :: L)) :=
 rowsA_congr fun i j hi _ => by
  simp only [chainR]
  have : (a == (i : Int)) = false := by rw [beq_eq_false_iff_ne]; omega
  rw [this]; simp
theorem beh_row (a : Nat) (L : List Int) : mkS (fun j => behB L j || decide (j = a)) = mkS (behB ((a : Int) :: L)) :=
 mkS_congr fun j _ => by
  unfold behB
  rw [List.any_cons, Bool.or_comm]
  congr 1
  rw [Bool.eq_iff_iff, decide_eq_true_iff, beq_iff_eq]; omega
theorem beh_skip (a : Int) (L : List Int) (h : ¬ (0 ≤ a ∧ a < 64)) : mkS (behB L) = mkS (behB (a :: L)) :=
 mkS_congr fun j hj => by
  unfold behB
  rw [List.any_cons]
  have : (a == (j : Int)) = false := by rw [beq_eq_false_iff_ne]; omega
  rw [this]; rfl
theorem RelAt.as {w : World} {g : Nat} {t : TypeId} {R S : Mat} (h : RelAt w g t R) (e : rowsA R = rowsA S) : RelAt w g t S := by
 unfold RelAt at *; rw [← e]; exact h
theorem chain_any (va : Value) (l : List Int) (w : World) (ha : Ints w va l) :
  Calls Tryz.prog 153 #[va] w fun e w' => e = .returned (.agg (rowsA (chainR l))) ∧ Below w.heap.size w w' := by
 obtain ⟨ao, cap, rfl, hlen⟩ := ha.form
 have HA : Hid (∀ wx, Below w.heap.size w wx → Ints wx (.slice ao l.length cap) l) := hid (fun wx hb => ha.below hb)
 clear ha
 go_enter Tryz.func153, Tryz.ntmps153
 go_wp2
 go_loopw [4, 5] (fun v i wr => ∃ k : Nat, k ≤ l.length ∧ i = .int .i64 ((k : Int) - 1) ∧ v = .int .u64 ((mkS (behB (l.drop k)) : Nat) : Int) ∧ RelAt wr (w.heap.size + 1) 98 (chainR (l.drop k)) ∧ RelAt wr w.heap.size 98 noR ∧ Below w.heap.size w wr)
  (fun _ i _ => (intOf i + 1).toNat)
 case atStart =>
  refine ⟨l.length, by omega, rfl, ?_, ?_, ?_, ?_⟩
  ·rw [List.drop_length]
   have : mkS (behB []) = 0 := mkS_false
   rw [this]; rfl
  ·rw [List.drop_length]
   exact RelAt.made _ _ noR (by simp) (by rw [rowsA_none]; rfl)
  ·exact (RelAt.made w _ noR rfl (by rw [rowsA_none]; rfl)).alloc _
  ·exact ((Below.refl w.heap.size w).alloc (Nat.le_refl _) _).alloc (by simp) _
 case round =>
  obtain ⟨k, hk, hi, rfl, h1, h0, hb⟩ := hrel
  cases k with
  | zero =>
   obtain rfl : u5 = .int .i64 (-1) := hi
   rw [List.drop_zero] at h1
   go_wp2_with (first
    | (with_reducible refine wpList_load_rel h1 rfl _ rfl rfl ?_)
    | (with_reducible refine wpList_store_rel h0 (chainR l) rfl _ _ rfl rfl rfl ?_))
   have h3 := h0.setRow (chainR l)
   exact bodyPost_ret (results_rel rfl _ _ _ _ rfl h3) rfl ⟨rfl, below_setRow hb (Nat.le_refl _) _⟩
  | succ k =>
   have hi' : (((k + 1 : Nat) : Int) - 1) = (k : Int) := by omega
   rw [hi'] at hi
   subst hi
   have hki : (k : Int) < (l.length : Int) := by omega
   have hlt : k < l.length := by omega
   have hd : l.drop k = l[k] :: l.drop (k + 1) := List.drop_eq_getElem_cons hlt
   have HD := hid hd
   clear hd
   have HC := hid (fun (wx : World) (hbx : Below w.heap.size w wx) => (HA.out wx hbx).at hlt)
   obtain ⟨p, off, hao, hc⟩ := HC.out _ hb
   cases hao
   generalize l[k] = a at *
   generalize l.drop (k + 1) = L at *
   by_cases ha : 0 ≤ a ∧ a < 64
   ·obtain ⟨n, rfl⟩ := Int.eq_ofNat_of_zero_le ha.1
    have hn : n < 64 := by omega
    have hc1 := h1.cell hn
    have hf := h1.free n
    have HO := u64_or (chainR L n) (behB L)
    have CM := hid (fun wx => may_yes (n : Int) wx ha)
    have HROW := hid (chain_row n L)
    have CW := hid (fun wx => with_any (mkS (behB L)) (n : Int) wx (isSet_mkS _))
    have HBEH := hid ((withS_mkS (behB L) n hn).trans (beh_row n L))
    have HN := hid (h1.store n _ (fun j => chainR L n j || behB L j) rfl)
    have H0 := hid (h0.other (k := ⟨w.heap.size + 1, n, none⟩) (by simp) (.int .u64 ((mkS (fun j => chainR L n j || behB L j) : Nat) : Int)))
    have HB := hid (hb.setCell (p := ⟨w.heap.size + 1, n, none⟩) (by simp) (.int .u64 ((mkS (fun j => chainR L n j || behB L j) : Nat) : Int)))
    clear h1 h0 ha
    generalize mkS (fun j => chainR L n j || behB L j) = z at *
    generalize mkS (chainR L n) = x at *
    generalize mkS (behB L) = y at *
    have hn64 : (n : Int) < 64 := by omega
    go_wp2_with fail
    refine (CM.out _).mono ?_
    rintro e w' ⟨rfl, rfl⟩
    obtain ⟨_, _, hao2, hc2⟩ := HC.out _ HB.out
    cases hao2
    go_wp2_with fail
    refine (CW.out _).mono ?_
    rintro e w' ⟨rfl, rfl⟩
    go_wp2_with fail
    go_roundw
    case rel => exact ⟨k, by omega, by go_num, by rw [HD.out, ← HBEH.out], by rw [HD.out]; exact (RelAt.as HN.out HROW.out), H0.out, HB.out⟩
    case measure => (simp [intOf]) <;> omega
   ·have CM := hid (fun wx => may_no a wx ha)
    have HROW := hid (chain_skip a L ha)
    have HBEH := hid (beh_skip a L ha)
    have H1 := hid h1
    have H0 := hid h0
    clear h1 h0 ha
    generalize mkS (behB L) = y at *
    go_wp2_with fail
    refine (CM.out _).mono ?_
    rintro e w' ⟨rfl, rfl⟩
    go_wp2_with fail
    go_roundw
    case rel => exact ⟨k, by omega, by go_num, by rw [HD.out, ← HBEH.out], by rw [HD.out]; exact (RelAt.as H1.out HROW.out), H0.out, hb⟩
    case measure => (simp [intOf]) <;> omega
end

section
open Go.RowKit
section
variable {V A U : Mat} {tr pf : Bool}
end
def startQ (h : List TxnV) (x : Int) (A : Mat) (q8 q16 : Int) : Mat := if q16 = 0 then (if q8 = 0 then baseM h x else orR (baseM h x) (rivM h A)) else orR (if q8 = 0 then baseM h x else orR (baseM h x) (rivM h A)) A
def startM (h : List TxnV) (x : Int) (A : Mat) : Mat := startQ h x A (bits .and .i64 x 8) (bits .and .i64 x 16)
end

section
open Go.RowKit
theorem ints_at {w : World} {ao : Option Addr} {n cap : Nat} {L : List Nat} (h : Ints w (.slice ao n cap) (L.map Int.ofNat)) {k : Nat} (hk : k < L.length) :
  ∃ b off, ao = some ⟨b, off, none⟩ ∧ w.cell? ⟨b, off + k, none⟩ = some (.int .i64 (L[k] : Int)) := by
 obtain ⟨b, off, h1, h2⟩ := h.at (k := k) (by simpa using hk)
 refine ⟨b, off, h1, ?_⟩
 rw [h2, List.getElem_map]; rfl
theorem Ints.grown {w w' : World} {v : Value} {xs : List Int} {row : Option Nat} (h : Ints w v xs) (hg : w.grownBy w' row) (hne : ∀ b, row = some b → v.ownBlock ≠ some b) : Ints w' v xs := by
 obtain ⟨hl, ao, cap, rfl, hm, hno, hc⟩ := h
 refine ⟨hl, ao, cap, rfl, hm, hno, fun hn => ?_⟩
 obtain ⟨b, off, rfl, hcell⟩ := hc hn
 refine ⟨b, off, rfl, fun i hi => ?_⟩
 have h2 := hcell i hi
 rw [List.getElem?_eq_getElem (by omega)] at h2 ⊢
 exact hg.cell h2 (fun e => hne b e.symm rfl)
end

section
open Go.RowKit
def seeTo (R : Mat) (i : Int) (k : Nat) : Nat := (List.range k).foldl (fun (s : Nat) (a : Nat) => if hasR R (a : Int) i then withS s (a : Int) else s) 0
theorem seeTo_succ (R : Mat) (i : Int) (k : Nat) : seeTo R i (k + 1) = if hasR R (k : Int) i then withS (seeTo R i k) (k : Int) else seeTo R i k := by
 unfold seeTo; rw [List.range_succ, List.foldl_append]; rfl
theorem seeTo_set (R : Mat) (i : Int) : ∀ k, IsSet (seeTo R i k)
 | 0 => by unfold seeTo IsSet; simp
 | k + 1 => by
  rw [seeTo_succ]
  split
  ·exact isSet_withS (seeTo_set R i k)
  ·exact seeTo_set R i k
theorem seeTo_bit (R : Mat) (i : Int) (j : Nat) : ∀ k, k ≤ 64 → (seeTo R i k).testBit j = (decide (j < k) && hasR R (j : Int) i)
 | 0, _ => by simp [seeTo]
 | k + 1, hk => by
  have ih := seeTo_bit R i j k (by omega)
  rw [seeTo_succ]
  by_cases e : j = k
  ·subst e
   have h1 : decide (0 ≤ (j : Int) ∧ (j : Int) < 64) = true := by simp; omega
   cases hh : hasR R (j : Int) i with
   | true => rw [if_pos rfl, testBit_withS, h1, Int.toNat_natCast]; simp
   | false => rw [if_neg (by simp), ih]; simp [hh]
  ·have h1 : decide (j < k + 1) = decide (j < k) := by rw [decide_eq_decide]; omega
   split
   ·have h2 : decide ((k : Int).toNat = j) = false := decide_eq_false (by rw [Int.toNat_natCast]; omega)
    rw [testBit_withS, ih, h1, h2, Bool.and_false, Bool.or_false]
   ·rw [ih, h1]
theorem lsees_any (R : Mat) (i : Int) (w : World) :
  Calls Tryz.prog 108 #[.agg (rowsA R), .int .i64 i] w fun e w' => e = .returned (.int .u64 ((seeTo R i 64 : Nat) : Int)) ∧ Below w.heap.size w w' := by
 have r0 : RelAt (w.alloc (.cells (rowsA R) 98)) w.heap.size 98 R := RelAt.made w _ _ rfl rfl
 have hb0 := box_below w (.cells (rowsA R) 98)
 go_enter Tryz.func108, Tryz.ntmps108
 go_wp2_with fail
 go_loopw [5, 7] (fun s k wr => ∃ n : Nat, n ≤ 64 ∧ k = .int .i64 n ∧ s = .int .u64 ((seeTo R i n : Nat) : Int) ∧ RelAt wr w.heap.size 98 R ∧ Below w.heap.size w wr) (fun _ k _ => 64 - (intOf k).toNat)
 case atStart => exact ⟨0, by omega, rfl, rfl, r0, hb0⟩
 case round =>
  obtain ⟨n, hn, rfl, rfl, hr, hb⟩ := hrel
  clear r0 hb0
  have hset := seeTo_set R i n
  by_cases hlt : n < 64
  ·have hni : (n : Int) < 64 := by omega
   have HS := hid (seeTo_succ R i n)
   go_wp2_with (with_reducible refine wpList_load_rel hr rfl _ rfl rfl ?_)
   refine (rhasR_any _ _ _ _).mono ?_
   rintro e w1 ⟨rfl, hb1⟩
   have hr1 := hr.below hb1 hr.lt
   have hbb := hb.trans (hb1.mono hb.size)
   clear hr hb
   cases hh : hasR R (n : Int) i with
   | true =>
    have HV : Hid (withS (seeTo R i n) (n : Int) = seeTo R i (n + 1)) := hid (by rw [HS.out, hh]; rfl)
    clear hh HS
    generalize seeTo R i n = a at *
    go_wp2_with fail
    refine (with_any _ _ _ hset).mono ?_
    rintro e w2 ⟨rfl, rfl⟩
    go_wp2_with fail
    go_roundw
    case rel => exact ⟨n + 1, by omega, by go_num, by rw [HV.out], hr1, hbb⟩
    case measure => simp [intOf]; omega
   | false =>
    have HV : Hid (seeTo R i n = seeTo R i (n + 1)) := hid (by rw [HS.out, hh]; rfl)
    clear hh HS
    go_wp2_with fail
    go_roundw
    case rel => exact ⟨n + 1, by omega, by go_num, by rw [HV.out], hr1, hbb⟩
    case measure => simp [intOf]; omega
  ·have hn2 : n = 64 := by omega
   subst hn2
   go_wp2_with fail
   go_ret
   exact ⟨rfl, hb⟩
end

section
theorem zA3 {α : Type _} (l : List α) (i : Nat) (a : α) : l.toArray.setIfInBounds i a = (l.set i a).toArray := List.setIfInBounds_toArray ..
theorem zB3 {α : Type _} {x : α} {xs : List α} {a : α} : (x :: xs).set 0 a = a :: xs := List.set_cons_zero
theorem zC3 {α : Type _} {x : α} {xs : List α} {i : Nat} {a : α} : (x :: xs).set (i + 1) a = x :: xs.set i a := List.set_cons_succ
theorem tG3 {P : Program} {ops : Array Oper} {Q : Exit → Act → World → Prop} {md : Region.Mode} {S : World → Prop} (d : Option Tmp) (i : Nat) {oi : Oper} (v : Value) {fuel : Nat} {listed : Array Bool} {a : Act} {w : World} (hi : ops[i]? = some oi) (hd : oi.dst = d)
 (hy : YieldsIf P ops S oi v a) (hS : S w) (h : wpAnyH P md ops Q S fuel (listed.setIfInBounds i true) (a.put d v) w)
 (hs : Region.noSelect ops = true := by kernel_rfl) (hf : Region.free md ops listed i = true := by kernel_rfl) (hr : (Region.ready md ops listed).contains i = true := by kernel_rfl)
 (hQ : ∀ c a w, Q (.panic c) (a.put oi.dst v) w → Q (.panic c) a w := by exact fun _ _ _ h => h) : wpAnyH P md ops Q S (fuel + 1) listed a w := takeG d hi hd hs hf hr hQ hy hS h
theorem tA3 {P : Program} {ops : Array Oper} {Q : Exit → Act → World → Prop} {md : Region.Mode} {S : World → Prop} (d : Option Tmp) (i : Nat) {oi : Oper} {v : Value} {fuel : Nat} {listed : Array Bool} {a : Act} {w : World} (hi : ops[i]? = some oi) (hd : oi.dst = d)
 (hS : S w) (h : wpAnyH P md ops Q S fuel (listed.setIfInBounds i true) (a.put d v) w)
 (hy : YieldsIf P ops S oi v a := by exact Or.inl ⟨by rfl, by intro w _; go_simp; try (with_reducible rfl)⟩)
 (hs : Region.noSelect ops = true := by kernel_rfl) (hf : Region.free md ops listed i = true := by kernel_rfl) (hr : (Region.ready md ops listed).contains i = true := by kernel_rfl)
 (hQ : ∀ c a w, Q (.panic c) (a.put oi.dst v) w → Q (.panic c) a w := by exact fun _ _ _ h => h) : wpAnyH P md ops Q S (fuel + 1) listed a w := takeG d hi hd hs hf hr hQ hy hS h
theorem rD3 {P : Program} {ops : Array Oper} {Q : Exit → Act → World → Prop} {md : Region.Mode} {S : World → Prop} {fuel : Nat} {listed : Array Bool} {a : Act} {w : World} (i : Nat) {o : Oper} (ho : ops[i]? = some o)
 (h : ∀ K' : Act → World → Prop, Go.Shut (∀ a w, S w → (S w → wpAnyH P md ops Q S fuel (listed.setIfInBounds i true) a w) → K' a w) → if Region.wanted o (yielded ops a.tmps) = true then Oper.wp P o a w K' Q else K' (a.put o.dst undef) w)
 (hr : Region.ready md ops listed = [i] := by kernel_rfl) : wpAnyH P md ops Q S (fuel + 1) listed a w := wpAnyH_ready hr (by simp) (AllReadyH.cons ho h AllReadyH.nil)
end
section
open Go.RowKit
theorem asees_any (R : Mat) (i : Int) (w : World) :
  Calls Tryz.prog 132 #[.agg (rowsA R), .int .i64 i] w fun e w' => e = .returned (.int .u64 ((seeTo R i 64 : Nat) : Int)) ∧ Below w.heap.size w w' := by
 have r0 : RelAt (w.alloc (.cells (rowsA R) 98)) w.heap.size 98 R := RelAt.made w _ _ rfl rfl
 have hb0 := box_below w (.cells (rowsA R) 98)
 go_enter Tryz.func132, Tryz.ntmps132
 go_wp2_with fail
 go_loopw [5, 7] (fun s k wr => ∃ n : Nat, n ≤ 64 ∧ k = .int .i64 n ∧ s = .int .u64 ((seeTo R i n : Nat) : Int) ∧ RelAt wr w.heap.size 98 R ∧ Below w.heap.size w wr) (fun _ k _ => 64 - (intOf k).toNat)
 case atStart => exact ⟨0, by omega, rfl, rfl, r0, hb0⟩
 case round =>
  obtain ⟨n, hn, rfl, rfl, hr, hb⟩ := hrel
  clear r0 hb0
  have hset := seeTo_set R i n
  by_cases hlt : n < 64
  ·have hni : (n : Int) < 64 := by omega
   have HS := hid (seeTo_succ R i n)
   go_wp2_with (with_reducible refine wpList_load_rel hr rfl _ rfl rfl ?_)
   refine (rhasR_any _ _ _ _).mono ?_
   rintro e w1 ⟨rfl, hb1⟩
   have hr1 := hr.below hb1 hr.lt
   have hbb := hb.trans (hb1.mono hb.size)
   clear hr hb
   cases hh : hasR R (n : Int) i with
   | true =>
    have HV : Hid (withS (seeTo R i n) (n : Int) = seeTo R i (n + 1)) := hid (by rw [HS.out, hh]; rfl)
    clear hh HS
    generalize seeTo R i n = a at *
    go_wp2_with fail
    refine (with_any _ _ _ hset).mono ?_
    rintro e w2 ⟨rfl, rfl⟩
    go_wp2_with fail
    go_roundw
    case rel => exact ⟨n + 1, by omega, by go_num, by rw [HV.out], hr1, hbb⟩
    case measure => simp [intOf]; omega
   | false =>
    have HV : Hid (seeTo R i n = seeTo R i (n + 1)) := hid (by rw [HS.out, hh]; rfl)
    clear hh HS
    go_wp2_with fail
    go_roundw
    case rel => exact ⟨n + 1, by omega, by go_num, by rw [HV.out], hr1, hbb⟩
    case measure => simp [intOf]; omega
  ·have hn2 : n = 64 := by omega
   subst hn2
   go_wp2_with fail
   go_ret
   exact ⟨rfl, hb⟩
theorem arivals_any (A : Mat) (h : List TxnV) (B b : Nat) (w : World) (hO : OrdIs w B b h) (hc : checkI h = 0) :
  Calls Tryz.prog 156 #[.pointer (some ⟨B, 0, none⟩), .agg (rowsA A)] w fun e w' => e = .returned (.agg (rowsA (rivM h A))) ∧ Below w.heap.size w w' := by
 have CRH := hid (fun (i : Nat) wx (hx : Below w.heap.size w wx) => ordis_rivals (hO.below hx) hc i)
 have e0 : rowsA A = rowsA (rivTo h A 0) := rowsA_congr fun i j _ _ => by unfold rivTo; rw [if_neg (by omega)]
 have r0 : RelAt (w.alloc (.cells (rowsA A) 98)) w.heap.size 98 (rivTo h A 0) := RelAt.made w _ _ rfl e0
 have z0 := zero_block (w.alloc (.cells (rowsA A) 98))
 rw [show (w.alloc (.cells (rowsA A) 98)).heap.size = w.heap.size + 1 from by simp] at z0
 have r0 := r0.alloc (.cells #[.int .u64 0, .int .u64 0, .int .u64 0, .int .u64 0, .int .u64 0, .int .u64 0, .int .u64 0, .int .u64 0, .int .u64 0, .int .u64 0, .int .u64 0, .int .u64 0, .int .u64 0, .int .u64 0, .int .u64 0, .int .u64 0, .int .u64 0, .int .u64 0, .int .u64 0, .int .u64 0, .int .u64 0, .int .u64 0, .int .u64 0, .int .u64 0, .int .u64 0, .int .u64 0, .int .u64 0, .int .u64 0, .int .u64 0, .int .u64 0, .int .u64 0, .int .u64 0, .int .u64 0, .int .u64 0, .int .u64 0, .int .u64 0, .int .u64 0, .int .u64 0, .int .u64 0, .int .u64 0, .int .u64 0, .int .u64 0, .int .u64 0, .int .u64 0, .int .u64 0, .int .u64 0, .int .u64 0, .int .u64 0, .int .u64 0, .int .u64 0, .int .u64 0, .int .u64 0, .int .u64 0, .int .u64 0, .int .u64 0, .int .u64 0, .int .u64 0, .int .u64 0, .int .u64 0, .int .u64 0, .int .u64 0, .int .u64 0, .int .u64 0, .int .u64 0] 98)
 have hb0 := (box_below w (.cells (rowsA A) 98)).alloc (by simp) (.cells #[.int .u64 0, .int .u64 0, .int .u64 0, .int .u64 0, .int .u64 0, .int .u64 0, .int .u64 0, .int .u64 0, .int .u64 0, .int .u64 0, .int .u64 0, .int .u64 0, .int .u64 0, .int .u64 0, .int .u64 0, .int .u64 0, .int .u64 0, .int .u64 0, .int .u64 0, .int .u64 0, .int .u64 0, .int .u64 0, .int .u64 0, .int .u64 0, .int .u64 0, .int .u64 0, .int .u64 0, .int .u64 0, .int .u64 0, .int .u64 0, .int .u64 0, .int .u64 0, .int .u64 0, .int .u64 0, .int .u64 0, .int .u64 0, .int .u64 0, .int .u64 0, .int .u64 0, .int .u64 0, .int .u64 0, .int .u64 0, .int .u64 0, .int .u64 0, .int .u64 0, .int .u64 0, .int .u64 0, .int .u64 0, .int .u64 0, .int .u64 0, .int .u64 0, .int .u64 0, .int .u64 0, .int .u64 0, .int .u64 0, .int .u64 0, .int .u64 0, .int .u64 0, .int .u64 0, .int .u64 0, .int .u64 0, .int .u64 0, .int .u64 0, .int .u64 0] 98)
 clear hO hc e0
 go_enter Tryz.func156, Tryz.ntmps156
 go_wp2_with fail
 go_loopw [6] (fun i wr => ∃ k : Nat, k ≤ 64 ∧ i = .int .i64 k ∧ RelAt wr w.heap.size 98 (rivTo h A k) ∧ RelAt wr (w.heap.size + 1) 98 noR ∧ Below w.heap.size w wr) (fun i _ => 64 - (intOf i).toNat)
 case atStart => exact ⟨0, by omega, rfl, r0, z0, hb0⟩
 case round =>
  obtain ⟨k, hk, rfl, hR, hz, hb⟩ := hrel
  clear r0 z0 hb0
  by_cases hlt : k < 64
  ·have hki : (k : Int) < 64 := by omega
   have hda : decide ((k : Int) < 64) = true := decide_eq_true hki
   have kd := (Below.refl wr.heap.size wr).drew
   have HAND : Go.bits .and .u64 ((mkS (rivTo h A k k) : Nat) : Int) ((rivN h k : Nat) : Int) = ((mkS (fun j => A k j && rivB h k j) : Nat) : Int) := by rw [rivTo_at]; exact u64_and _ _
   have HR : Hid (∀ wx, Below wr.heap.size wr wx → RelAt wx w.heap.size 98 (rivTo h A k)) := hid (fun wx hx => hR.below hx hR.lt)
   have CR := hid (fun wx (hx : Below wr.heap.size wr wx) => CRH.out k wx (hb.trans (hx.mono hb.size)))
   have HS : Hid (∀ wx, Below wr.heap.size wr wx → True) := hid (fun _ _ => trivial)
   have HN : Hid (∀ wx, Below wr.heap.size wr wx → RelAt (wx.setCell ⟨w.heap.size, k, none⟩ (.int .u64 ((mkS (fun j => A k j && rivB h k j) : Nat) : Int))) w.heap.size 98 (rivTo h A (k + 1))) := hid (fun wx hx => by
    have := (hR.below hx hR.lt).store k _ (fun j => A k j && rivB h k j) rfl
    rwa [rivTo_step] at this)
   have HBS : Hid (∀ wx, Below wr.heap.size wr wx → Below w.heap.size w (wx.setCell ⟨w.heap.size, k, none⟩ (.int .u64 ((mkS (fun j => A k j && rivB h k j) : Nat) : Int)))) := hid (fun wx hx => (hb.trans (hx.mono hb.size)).setCell (p := ⟨w.heap.size, k, none⟩) (Nat.le_refl _) _)
   have HZS : Hid (∀ wx, Below wr.heap.size wr wx → RelAt (wx.setCell ⟨w.heap.size, k, none⟩ (.int .u64 ((mkS (fun j => A k j && rivB h k j) : Nat) : Int))) (w.heap.size + 1) 98 noR) := hid (fun wx hx => (hz.below hx hz.lt).other (k := ⟨w.heap.size, k, none⟩) (by simp) _)
   clear hR hz hb CRH
   generalize mkS (fun j => A k j && rivB h k j) = z at *
   generalize rivN h k = y at *
   go_wp2_with fail
   refine wp_region_held_drew (S := fun _ => True) (by kernel_rfl) trivial (fun hS0 => ?_)
   refine tG3 (some 9) 0 ?v0 rfl rfl (Or.inl ⟨by rfl, ?h0⟩) hS0 ?r0
   case h0 => (intro w hw; go_simp; try (with_reducible rfl))
   try simp only [Act.put, zA3, zB3, zC3]
   refine tG3 (some 10) 1 ?v1 rfl rfl (Or.inl ⟨by rfl, ?h1⟩) hS0 ?r1
   case h1 => (intro w hw; go_simp; try (with_reducible rfl))
   try simp only [Act.put, zA3, zB3, zC3]
   refine tG3 (some 12) 3 ?v3 rfl rfl (Or.inl ⟨by rfl, ?h3⟩) hS0 ?r3
   case h3 => (intro w hw; go_simp; try (with_reducible rfl))
   try simp only [Act.put, zA3, zB3, zC3]
   refine tG3 (some 13) 4 ?v4 rfl rfl (Or.inl ⟨by rfl, ?h4⟩) hS0 ?r4
   case h4 => (intro w hw; go_simp; try (with_reducible rfl))
   try simp only [Act.put, zA3, zB3, zC3]
   refine wpAnyH_ready (rs := [2, 5]) (by kernel_rfl) (by simp) ?_
   refine AllReadyH.cons rfl (fun K hK => ?_) (AllReadyH.cons rfl (fun K hK => ?_) AllReadyH.nil)
   ·
    have hc2 := (HR.out _ kd).cell hlt
    go_simp
    refine hK.out _ _ hS0 (fun _ => ?_)
    clear hK K hc2
    refine rD3 5 rfl (fun K hK => ?_)
    go_simp
    refine (CR.out _ kd).mono ?_
    rintro e q1 ⟨rfl, hq1⟩
    show K _ _
    have k1 := below_then kd hq1
    have s1 := HS.out _ k1
    refine hK.out _ _ s1 (fun _ => ?_)
    clear hK K
    refine rD3 6 rfl (fun K hK => ?_)
    go_simp
    refine hK.out _ _ s1 (fun _ => ?_)
    clear hK K
    refine rD3 7 rfl (fun K hK => ?_)
    go_simp
    refine hK.out _ _ s1 (fun _ => ?_)
    clear hK K
    refine rD3 8 rfl (fun K hK => ?_)
    have hc8 := (HR.out _ k1).cell hlt
    have hf8 := (HR.out _ k1).free k
    go_simp
    refine hK.out _ _ trivial (fun _ => ?_)
    clear hK K hc8 hf8
    refine wpAnyH_done (by kernel_rfl) ?_ _
    have hR9 := HN.out _ k1
    have hb9 := HBS.out _ k1
    have hz9 := HZS.out _ k1
    clear HR CR HN HBS HZS HS kd
    go_wp2_with fail
    go_roundw
    case rel => exact ⟨k + 1, by omega, by go_num, hR9, hz9, hb9⟩
    case measure => simp [intOf]; omega
   ·
    go_simp
    refine (CR.out _ kd).mono ?_
    rintro e q2 ⟨rfl, hq2⟩
    show K _ _
    have k2 := below_then kd hq2
    have s2 := HS.out _ k2
    refine hK.out _ _ s2 (fun _ => ?_)
    clear hK K
    refine rD3 2 rfl (fun K hK => ?_)
    have hc2 := (HR.out _ k2).cell hlt
    go_simp
    refine hK.out _ _ s2 (fun _ => ?_)
    clear hK K hc2
    refine rD3 6 rfl (fun K hK => ?_)
    go_simp
    refine hK.out _ _ s2 (fun _ => ?_)
    clear hK K
    refine rD3 7 rfl (fun K hK => ?_)
    go_simp
    refine hK.out _ _ s2 (fun _ => ?_)
    clear hK K
    refine rD3 8 rfl (fun K hK => ?_)
    have hc8 := (HR.out _ k2).cell hlt
    have hf8 := (HR.out _ k2).free k
    go_simp
    refine hK.out _ _ trivial (fun _ => ?_)
    clear hK K hc8 hf8
    refine wpAnyH_done (by kernel_rfl) ?_ _
    have hR9 := HN.out _ k2
    have hb9 := HBS.out _ k2
    have hz9 := HZS.out _ k2
    clear HR CR HN HBS HZS HS kd
    go_wp2_with fail
    go_roundw
    case rel => exact ⟨k + 1, by omega, by go_num, hR9, hz9, hb9⟩
    case measure => simp [intOf]; omega
  ·have hk64 : k = 64 := by omega
   subst hk64
   go_wp2_with (first
    | (with_reducible refine wpList_load_rel hR rfl _ rfl rfl ?_)
    | (with_reducible refine wpList_store_rel hz (rivTo h A 64) rfl _ _ rfl rfl rfl ?_))
   have h3 := hz.setRow (rivTo h A 64)
   rw [rivTo_end] at h3
   exact bodyPost_ret (results_rel rfl _ _ _ _ rfl h3) rfl ⟨rfl, below_setRow hb (by omega) _⟩
def lastTo (l : List Int) (s : Nat) (k : Nat) : Int := (l.take k).foldl (fun f i => if hasB s i then i else f) (-1)
theorem lastTo_succ (l : List Int) (s k : Nat) (hk : k < l.length) : lastTo l s (k + 1) = if hasB s l[k] then l[k] else lastTo l s k := by
 unfold lastTo; rw [List.take_succ_eq_append_getElem hk, List.foldl_append]; rfl
def lastI (l : List Int) (s : Nat) : Int := lastTo l s l.length
theorem alast_any (va : Value) (l : List Int) (s : Nat) (w : World) (hs : IsSet s) (hl : Ints w va l) :
  Calls Tryz.prog 154 #[va, .int .u64 (s : Int)] w fun e w' => e = .returned (.int .i64 (lastI l s)) ∧ Below w.heap.size w w' := by
 have HL := hid (fun wx (hx : Below w.heap.size w wx) => hl.below hx)
 obtain ⟨ao, cap, rfl, hal⟩ := hl.form
 have HR : Hid (lastI l s = lastTo l s l.length) := hid rfl
 clear hl
 go_enter Tryz.func154, Tryz.ntmps154
 go_wp2_with fail
 go_loopw [5, 10] (fun f i wr => ∃ k : Nat, k ≤ l.length ∧ i = .int .i64 k ∧ f = .int .i64 (lastTo l s k) ∧ Below w.heap.size w wr) (fun _ i _ => l.length - (intOf i).toNat)
 case atStart => exact ⟨0, by omega, rfl, rfl, Below.refl _ _⟩
 case round =>
  obtain ⟨k, hk, rfl, rfl, hb⟩ := hrel
  by_cases hlt : k < l.length
  ·have hki : (k : Int) < (l.length : Int) := by omega
   obtain ⟨g, o, hao, e0⟩ := (HL.out _ hb).at hlt
   cases hao
   have HN := hid (lastTo_succ l s k hlt)
   generalize l[k] = x at *
   generalize lastTo l s k = y at *
   go_wp2_with fail
   refine (has_any _ _ _ hs).mono ?_
   rintro e w1 ⟨rfl, rfl⟩
   cases hh : hasB s x with
   | true =>
    have HV : Hid (x = lastTo l s (k + 1)) := hid (by rw [HN.out, hh]; rfl)
    clear hh HN
    go_wp2_with fail
    go_roundw
    case rel => exact ⟨k + 1, by omega, by go_num, by rw [← HV.out], hb⟩
    case measure => simp [intOf]; omega
   | false =>
    have HV : Hid (y = lastTo l s (k + 1)) := hid (by rw [HN.out, hh]; rfl)
    clear hh HN
    go_wp2_with fail
    go_roundw
    case rel => exact ⟨k + 1, by omega, by go_num, by rw [← HV.out], hb⟩
    case measure => simp [intOf]; omega
  ·have hk2 : k = l.length := by omega
   subst hk2
   go_wp2_with fail
   go_ret
   exact ⟨rfl, hb⟩
def rowOkA (n : Int) (l : List Int) : Bool := decide ((l.length : Int) = n) && decide (setL l = belowS n)
theorem arow_any (n : Int) (va : Value) (l : List Int) (w : World) (hl : Ints w va l) :
  Calls Tryz.prog 129 #[.int .i64 n, va] w fun e w' => e = .returned (.bool (rowOkA n l)) ∧ w = w' := by
 have CO := hid (of_any va l w hl)
 have CB := hid (below_any n w)
 obtain ⟨ao, cap, rfl, hal⟩ := hl.form
 have HR : Hid (rowOkA n l = (decide ((l.length : Int) = n) && decide (setL l = belowS n))) := hid rfl
 generalize rowOkA n l = r at *
 generalize setL l = a at *
 generalize belowS n = b at *
 clear hl
 by_cases hn : (l.length : Int) = n
 ·by_cases hab : a = b
  ·have HV : Hid (true = r) := hid (by rw [HR.out, decide_eq_true hn, decide_eq_true hab]; rfl)
   subst hab
   clear HR
   go_enter Tryz.func129, Tryz.ntmps129
   go_wp2_with fail
   refine (CO.out).mono ?_
   rintro e w1 ⟨rfl, rfl⟩
   go_wp2_with fail
   refine (CB.out).mono ?_
   rintro e w1 ⟨rfl, rfl⟩
   go_wp2_with fail
   go_ret
   exact ⟨ret_b HV.out, rfl⟩
  ·have HV : Hid (((a : Int) == (b : Int)) = r) := hid (by rw [HR.out, decide_eq_true hn, decide_eq_false hab, beq_eq_false_iff_ne.2 (fun e => hab (by omega))]; rfl)
   clear HR
   go_enter Tryz.func129, Tryz.ntmps129
   go_wp2_with fail
   refine (CO.out).mono ?_
   rintro e w1 ⟨rfl, rfl⟩
   go_wp2_with fail
   refine (CB.out).mono ?_
   rintro e w1 ⟨rfl, rfl⟩
   go_wp2_with fail
   go_ret
   exact ⟨ret_b HV.out, rfl⟩
 ·have HV : Hid (false = r) := hid (by rw [HR.out, decide_eq_false hn]; rfl)
  clear HR
  go_enter Tryz.func129, Tryz.ntmps129
  go_wp2_with fail
  go_ret
  exact ⟨ret_b HV.out, rfl⟩
end

section
open Go.RowKit
def wrtN (h : List TxnV) (y : Int) : Nat := mkS fun j => decide (j < h.length) && decide (y ∈ keysOf (opsAt h j))
theorem wrtN_set (h : List TxnV) (y : Int) : IsSet (wrtN h y) := isSet_mkS _
theorem wrt_eq {h : List TxnV} {K : List KRow} (hc : checkI h = 0) (hK : K.map (·.2) = keysTo h h.length) (hA : AllSet (wrsTo K K.length)) (y : Int) : (wrsTo K K.length y).getD 0 = wrtN h y := by
 have hl := keys_len hK
 have h64 := (check_zero hc).1
 refine mkS_eq (hA y) fun j hj => ?_
 rw [wrsTo_bit K j y K.length (by omega) (Nat.le_refl _), hl]
 by_cases hjn : j < h.length
 ·rw [keys_at hK hjn]
 ·simp [hjn]
theorem reads_key {h : List TxnV} (hc : checkI h = 0) {i : Nat} (hi : i < h.length) {r : Int × Int} (hr : r ∈ readsOf h i) : 0 ≤ r.1 ∧ r.1 < 64 := by
 obtain ⟨_, _, _, hks⟩ := check_zero hc
 unfold readsOf rdFr at hr
 obtain ⟨o, ho, rfl⟩ := List.mem_map.1 hr
 have h1 := (refReads_in (List.mem_filter.1 ho).1).1
 rw [opsAt_eq hi] at h1
 exact hks _ (List.getElem_mem hi) o h1
def readOk (h : List TxnV) (l : List Int) (V : Mat) (i : Nat) (r : Int × Int) : Bool := decide (lastI l (seeTo V (i : Int) 64 &&& wrtN h r.1) = r.2)
def readsOk (h : List TxnV) (l : List Int) (V : Mat) (i k : Nat) : Bool := ((readsOf h i).take k).all (readOk h l V i)
def rightTo (h : List TxnV) (l : List Int) (V : Mat) (k : Nat) : Bool := (List.range k).all fun i => (readsOf h i).all (readOk h l V i)
def rightM (h : List TxnV) (l : List Int) (V : Mat) : Bool := rowOkA (h.length : Int) l && (inM V (chainR l) && rightTo h l V h.length)
theorem readsOk_no {h : List TxnV} {l : List Int} {V : Mat} {i k : Nat} (hi : i < h.length) (hk : k < (readsOf h i).length) (hn : readOk h l V i (readsOf h i)[k] = false) : rightTo h l V h.length = false := by
 unfold rightTo
 rw [List.all_eq_false]
 refine ⟨i, List.mem_range.2 hi, ?_⟩
 rw [Bool.not_eq_true, List.all_eq_false]
 exact ⟨_, List.getElem_mem hk, by rw [hn]; simp⟩
theorem readsOk_succ {h : List TxnV} {l : List Int} {V : Mat} {i k : Nat} (hk : k < (readsOf h i).length) (hy : readOk h l V i (readsOf h i)[k] = true) (hp : readsOk h l V i k = true) : readsOk h l V i (k + 1) = true := by
 unfold readsOk at *
 rw [List.take_succ_eq_append_getElem hk, List.all_append, hp]
 simp [hy]
theorem rightTo_succ {h : List TxnV} {l : List Int} {V : Mat} {k : Nat} (hp : rightTo h l V k = true) (hy : readsOk h l V k (readsOf h k).length = true) : rightTo h l V (k + 1) = true := by
 unfold rightTo readsOk at *
 rw [List.take_length] at hy
 rw [List.range_succ, List.all_append, hp]
 simpa using hy
def RdS (B bm q : Nat) (rk rf : Int) (x : Nat) (w : World) : Prop := w.cell? ⟨B, 193, none⟩ = some (.map (some bm)) ∧ w.cell? ⟨q, 0, none⟩ = some (.int .i64 rk) ∧ w.cell? ⟨q, 1, none⟩ = some (.int .i64 rf) ∧
 Sem.run Tryz.prog (Instr.lookup 99 (.map (some bm)) (.int .i64 rk) false) w = .ok (.int .u64 (x : Int)) w
theorem aright_any (va : Value) (l : List Int) (V : Mat) (h : List TxnV) (B b : Nat) (w : World) (hO : OrdIs w B b h) (hc : checkI h = 0) (hl : Ints w va l) :
  Calls Tryz.prog 120 #[.pointer (some ⟨B, 0, none⟩), va, .agg (rowsA V)] w fun e w' => e = .returned (.bool (rightM h l V)) ∧ Below w.heap.size w w' := by
 have HR : Hid (rightM h l V = (rowOkA (h.length : Int) l && (inM V (chainR l) && rightTo h l V h.length))) := hid rfl
 have HC := hid hc
 obtain ⟨ao, cap, rfl, hal⟩ := hl.form
 have r0 : RelAt (w.alloc (.cells (rowsA V) 98)) w.heap.size 98 V := RelAt.made w _ _ rfl rfl
 have hb0 := box_below w (.cells (rowsA V) 98)
 have HO := hid (fun wx (hx : Below w.heap.size w wx) => hO.below hx)
 have HL := hid (fun wx (hx : Below w.heap.size w wx) => hl.below hx)
 clear hO hc hl
 go_enter Tryz.func120, Tryz.ntmps120
 go_upto_region 1 with fail
 generalize w.alloc (.cells (rowsA V) 98) = w0 at *
 have HB := hid (fun wx (hx : Below w0.heap.size w0 wx) => hb0.trans (hx.mono hb0.size))
 have HS : Hid (∀ wx, Below w0.heap.size w0 wx → OrdB wx B h ∧ RelAt wx w.heap.size 98 V) := hid (fun wx hx => ⟨(HO.out wx (hb0.trans (hx.mono hb0.size))).blk, r0.below hx r0.lt⟩)
 have CR := hid (fun wx (hx : Below w0.heap.size w0 wx) => arow_any (h.length : Int) _ l wx (HL.out wx (hb0.trans (hx.mono hb0.size))))
 have CC := hid (fun wx (hx : Below w0.heap.size w0 wx) => chain_any _ l wx (HL.out wx (hb0.trans (hx.mono hb0.size))))
 have CW := hid (fun wx => withinR_any V (chainR l) wx)
 have kd := (Below.refl w0.heap.size w0).drew
 clear r0 hb0
 cases hrow : rowOkA (h.length : Int) l with
 | false =>
  have HV : Hid (false = rightM h l V) := hid (by rw [HR.out, hrow]; rfl)
  rw [hrow] at CR
  clear hrow HR
  refine wp_region_held_drew (S := fun wx => OrdB wx B h ∧ RelAt wx w.heap.size 98 V) (by kernel_rfl) (HS.out _ kd) (fun hS0 => ?_)
  refine tG3 (some 12) 0 ?ve0 rfl rfl (Or.inl ⟨by rfl, ?he0⟩) hS0 ?re0
  case he0 => (intro w hw; have hn := hw.1.cN; go_simp; try (with_reducible rfl))
  try simp only [Act.put, zA3, zB3, zC3]
  refine tG3 (some 13) 1 ?ve1 rfl rfl (Or.inl ⟨by rfl, ?he1⟩) hS0 ?re1
  case he1 => (intro w hw; have hn := hw.1.cN; go_simp; try (with_reducible rfl))
  try simp only [Act.put, zA3, zB3, zC3]
  refine tG3 (some 14) 2 ?ve2 rfl rfl (Or.inl ⟨by rfl, ?he2⟩) hS0 ?re2
  case he2 => (intro w hw; have hn := hw.1.cN; go_simp; try (with_reducible rfl))
  try simp only [Act.put, zA3, zB3, zC3]
  refine tG3 (some 15) 3 ?ve3 rfl rfl (Or.inl ⟨by rfl, ?he3⟩) hS0 ?re3
  case he3 => (intro w hw; have hn := hw.1.cN; go_simp; try (with_reducible rfl))
  try simp only [Act.put, zA3, zB3, zC3]
  refine tG3 (some 16) 4 ?ve4 rfl rfl (Or.inl ⟨by rfl, ?he4⟩) hS0 ?re4
  case he4 => (intro w hw; have hn := hw.1.cN; go_simp; try (with_reducible rfl))
  try simp only [Act.put, zA3, zB3, zC3]
  refine rD3 5 rfl (fun K hK => ?_)
  go_simp
  refine (CR.out _ kd).mono ?_
  rintro e q1 ⟨rfl, rfl⟩
  show K _ _
  refine hK.out _ _ hS0 (fun _ => ?_)
  clear hK K
  refine tA3 (some 18) 6 rfl rfl hS0 ?_
  try simp only [Act.put, zA3, zB3, zC3]
  refine tA3 (some 19) 7 rfl rfl hS0 ?_
  try simp only [Act.put, zA3, zB3, zC3]
  refine tG3 (some 20) 8 undef rfl rfl (Or.inr ⟨by rfl, rfl⟩) hS0 ?_
  try simp only [Act.put, zA3, zB3, zC3]
  refine tG3 (some 21) 9 undef rfl rfl (Or.inr ⟨by rfl, rfl⟩) hS0 ?_
  try simp only [Act.put, zA3, zB3, zC3]
  refine tG3 (some 22) 10 undef rfl rfl (Or.inr ⟨by rfl, rfl⟩) hS0 ?_
  try simp only [Act.put, zA3, zB3, zC3]
  refine tG3 (some 23) 11 undef rfl rfl (Or.inr ⟨by rfl, rfl⟩) hS0 ?_
  try simp only [Act.put, zA3, zB3, zC3]
  refine tG3 (some 24) 12 undef rfl rfl (Or.inr ⟨by rfl, rfl⟩) hS0 ?_
  try simp only [Act.put, zA3, zB3, zC3]
  refine tA3 (some 25) 13 rfl rfl hS0 ?_
  try simp only [Act.put, zA3, zB3, zC3]
  refine wpAnyH_done (by kernel_rfl) ?_ _
  go_wp2_with fail
  go_ret
  exact ⟨ret_b HV.out, HB.out _ kd⟩
 | true =>
  rw [hrow] at CR
  cases hin : inM V (chainR l) with
  | false =>
   have HV : Hid (false = rightM h l V) := hid (by rw [HR.out, hrow, hin]; rfl)
   rw [hin] at CW
   clear hrow hin HR
   refine wp_region_held_drew (S := fun wx => OrdB wx B h ∧ RelAt wx w.heap.size 98 V) (by kernel_rfl) (HS.out _ kd) (fun hS0 => ?_)
   refine tG3 (some 12) 0 ?vf0 rfl rfl (Or.inl ⟨by rfl, ?hf0⟩) hS0 ?rf0
   case hf0 => (intro w hw; have hn := hw.1.cN; go_simp; try (with_reducible rfl))
   try simp only [Act.put, zA3, zB3, zC3]
   refine tG3 (some 13) 1 ?vf1 rfl rfl (Or.inl ⟨by rfl, ?hf1⟩) hS0 ?rf1
   case hf1 => (intro w hw; have hn := hw.1.cN; go_simp; try (with_reducible rfl))
   try simp only [Act.put, zA3, zB3, zC3]
   refine tG3 (some 14) 2 ?vf2 rfl rfl (Or.inl ⟨by rfl, ?hf2⟩) hS0 ?rf2
   case hf2 => (intro w hw; have hn := hw.1.cN; go_simp; try (with_reducible rfl))
   try simp only [Act.put, zA3, zB3, zC3]
   refine tG3 (some 15) 3 ?vf3 rfl rfl (Or.inl ⟨by rfl, ?hf3⟩) hS0 ?rf3
   case hf3 => (intro w hw; have hn := hw.1.cN; go_simp; try (with_reducible rfl))
   try simp only [Act.put, zA3, zB3, zC3]
   refine tG3 (some 16) 4 ?vf4 rfl rfl (Or.inl ⟨by rfl, ?hf4⟩) hS0 ?rf4
   case hf4 => (intro w hw; have hn := hw.1.cN; go_simp; try (with_reducible rfl))
   try simp only [Act.put, zA3, zB3, zC3]
   refine rD3 5 rfl (fun K hK => ?_)
   go_simp
   refine (CR.out _ kd).mono ?_
   rintro e q1 ⟨rfl, rfl⟩
   show K _ _
   refine hK.out _ _ hS0 (fun _ => ?_)
   clear hK K
   refine tA3 (some 18) 6 rfl rfl hS0 ?_
   try simp only [Act.put, zA3, zB3, zC3]
   refine tA3 (some 19) 7 rfl rfl hS0 ?_
   try simp only [Act.put, zA3, zB3, zC3]
   refine tG3 (some 20) 8 _ rfl rfl (yields_rel (by rfl) _ rfl rfl (fun wx hx => hx.2)) hS0 ?_
   try simp only [Act.put, zA3, zB3, zC3]
   refine tA3 (some 21) 9 rfl rfl hS0 ?_
   try simp only [Act.put, zA3, zB3, zC3]
   refine rD3 10 rfl (fun K hK => ?_)
   go_simp
   refine (CC.out _ kd).mono ?_
   rintro e q2 ⟨rfl, hq2⟩
   show K _ _
   have k2 := below_then kd hq2
   have s2 := HS.out _ k2
   refine hK.out _ _ s2 (fun _ => ?_)
   clear hK K
   refine rD3 11 rfl (fun K hK => ?_)
   go_simp
   refine (CW.out q2).mono ?_
   rintro e q3 ⟨rfl, hq3⟩
   show K _ _
   have k3 := below_then k2 hq3
   have s3 := HS.out _ k3
   refine hK.out _ _ s3 (fun _ => ?_)
   clear hK K
   refine tA3 (some 24) 12 rfl rfl s3 ?_
   try simp only [Act.put, zA3, zB3, zC3]
   refine tA3 (some 25) 13 rfl rfl s3 ?_
   try simp only [Act.put, zA3, zB3, zC3]
   refine wpAnyH_done (by kernel_rfl) ?_ _
   go_wp2_with fail
   go_ret
   exact ⟨ret_b HV.out, HB.out _ k3⟩
  | true =>
  have HV : Hid (rightM h l V = rightTo h l V h.length) := hid (by rw [HR.out, hrow, hin]; rfl)
  rw [hin] at CW
  clear hrow hin HR
  refine wp_region_held_drew (S := fun wx => OrdB wx B h ∧ RelAt wx w.heap.size 98 V) (by kernel_rfl) (HS.out _ kd) (fun hS0 => ?_)
  refine tG3 (some 12) 0 ?vg0 rfl rfl (Or.inl ⟨by rfl, ?hg0⟩) hS0 ?rg0
  case hg0 => (intro w hw; have hn := hw.1.cN; go_simp; try (with_reducible rfl))
  try simp only [Act.put, zA3, zB3, zC3]
  refine tG3 (some 13) 1 ?vg1 rfl rfl (Or.inl ⟨by rfl, ?hg1⟩) hS0 ?rg1
  case hg1 => (intro w hw; have hn := hw.1.cN; go_simp; try (with_reducible rfl))
  try simp only [Act.put, zA3, zB3, zC3]
  refine tG3 (some 14) 2 ?vg2 rfl rfl (Or.inl ⟨by rfl, ?hg2⟩) hS0 ?rg2
  case hg2 => (intro w hw; have hn := hw.1.cN; go_simp; try (with_reducible rfl))
  try simp only [Act.put, zA3, zB3, zC3]
  refine tG3 (some 15) 3 ?vg3 rfl rfl (Or.inl ⟨by rfl, ?hg3⟩) hS0 ?rg3
  case hg3 => (intro w hw; have hn := hw.1.cN; go_simp; try (with_reducible rfl))
  try simp only [Act.put, zA3, zB3, zC3]
  refine tG3 (some 16) 4 ?vg4 rfl rfl (Or.inl ⟨by rfl, ?hg4⟩) hS0 ?rg4
  case hg4 => (intro w hw; have hn := hw.1.cN; go_simp; try (with_reducible rfl))
  try simp only [Act.put, zA3, zB3, zC3]
  refine rD3 5 rfl (fun K hK => ?_)
  go_simp
  refine (CR.out _ kd).mono ?_
  rintro e q1 ⟨rfl, rfl⟩
  show K _ _
  refine hK.out _ _ hS0 (fun _ => ?_)
  clear hK K
  refine tA3 (some 18) 6 rfl rfl hS0 ?_
  try simp only [Act.put, zA3, zB3, zC3]
  refine tA3 (some 19) 7 rfl rfl hS0 ?_
  try simp only [Act.put, zA3, zB3, zC3]
  refine tG3 (some 20) 8 _ rfl rfl (yields_rel (by rfl) _ rfl rfl (fun wx hx => hx.2)) hS0 ?_
  try simp only [Act.put, zA3, zB3, zC3]
  refine tA3 (some 21) 9 rfl rfl hS0 ?_
  try simp only [Act.put, zA3, zB3, zC3]
  refine rD3 10 rfl (fun K hK => ?_)
  go_simp
  refine (CC.out _ kd).mono ?_
  rintro e q2 ⟨rfl, hq2⟩
  show K _ _
  have k2 := below_then kd hq2
  have s2 := HS.out _ k2
  refine hK.out _ _ s2 (fun _ => ?_)
  clear hK K
  refine rD3 11 rfl (fun K hK => ?_)
  go_simp
  refine (CW.out q2).mono ?_
  rintro e q3 ⟨rfl, hq3⟩
  show K _ _
  have k3 := below_then k2 hq3
  have s3 := HS.out _ k3
  refine hK.out _ _ s3 (fun _ => ?_)
  clear hK K
  refine tA3 (some 24) 12 rfl rfl s3 ?_
  try simp only [Act.put, zA3, zB3, zC3]
  refine tA3 (some 25) 13 rfl rfl s3 ?_
  try simp only [Act.put, zA3, zB3, zC3]
  refine wpAnyH_done (by kernel_rfl) ?_ _
  have hO3 := HO.out _ (HB.out _ k3)
  have hRV := s3.2
  have hb3 := HB.out _ k3
  clear kd hS0 k2 s2 s3 k3 CR CC CW HS HB hq2 hq3
  obtain ⟨bm, mm, mc, vk, vr, KK, RR, h1, h2, h3, h4, h5, h6⟩ := hO3
  have hlR : RR.length = h.length := by have := congrArg List.length h6; simpa [readsTo] using this
  have HLR := hid hlR
  have HAT : Hid (∀ i (hi : i < RR.length), RR[i].2 = readsOf h i) := hid (fun i hi => by
   have := congrArg (·[i]?) h6
   simp only [List.getElem?_map, List.getElem?_eq_getElem hi, readsTo, List.getElem?_range (show i < h.length by omega), Option.map_some] at this
   exact Option.some.inj this)
  obtain ⟨ar, cr, rfl⟩ := h4.frws.form
  have hF := h4.frws
  have HFR := hid (fun wx (hx : Below q3.heap.size q3 wx) => hF.below hx)
  have HM := hid (fun wx (hx : Below q3.heap.size q3 wx) => h2.below hx)
  have HOA := hid (fun wx (hx : Below q3.heap.size q3 wx) => h1.below hx h1.lt)
  have HRV := hid (fun wx (hx : Below q3.heap.size q3 wx) => hRV.below hx hRV.lt)
  have HL3 := hid (fun wx (hx : Below q3.heap.size q3 wx) => HL.out wx (hb3.trans (hx.mono hb3.size)))
  have HB3 := hid (fun wx (hx : Below q3.heap.size q3 wx) => hb3.trans (hx.mono hb3.size))
  have HWR : Hid (∀ y, (wrsTo KK KK.length y).getD 0 = wrtN h y) := hid (wrt_eq HC.out h5 h3)
  have c3 := h1.cR
  clear h1 h2 h3 h4 h5 h6 hF hRV hb3 hlR HO HL
  go_wp2_with fail
  clear c3
  go_loopw [31] (fun i wr => ∃ k : Nat, k ≤ RR.length ∧ i = .int .i64 k ∧ rightTo h l V k = true ∧ Below q3.heap.size q3 wr) (fun i _ => RR.length - (intOf i).toNat)
  case atStart => exact ⟨0, by omega, rfl, rfl, Below.refl _ _⟩
  case round =>
   obtain ⟨i, hi, rfl, hrt, hb⟩ := hrel
   have HRT := hid hrt
   clear hrt
   by_cases hlt : i < RR.length
   ·have hki : (i : Int) < (RR.length : Int) := by omega
    have hih : i < h.length := by have := HLR.out; omega
    have hi64 : (i : Int) < 64 := by have := (check_zero HC.out).1; omega
    obtain ⟨g, o, hao, c0, hfr⟩ := (HFR.out _ hb).at hlt
    cases hao
    rw [HAT.out i hlt] at hfr
    have HFI := hid (fun wx (hx : Below wr.heap.size wr wx) => hfr.below hx)
    obtain ⟨ai, ci, hvi, hri⟩ := hfr.form
    rw [hvi] at c0 HFI
    clear hvi hfr
    have y0 := HRV.out _ hb
    go_wp2_with (with_reducible refine wpList_load_rel y0 rfl _ rfl rfl ?_)
    refine (asees_any V (i : Int) _).mono ?_
    rintro e w1 ⟨rfl, hb1⟩
    have hbi := below_then hb hb1
    have HF1 := hid (fun wx (hx : Below w1.heap.size w1 wx) => HFI.out wx (below_then hb1 hx))
    have hset := seeTo_set V (i : Int) 64
    clear y0 c0 HFI hb1
    have HSN : Hid (∃ sn, sn = seeTo V (i : Int) 64) := hid ⟨_, rfl⟩
    obtain ⟨sn, hsn⟩ := HSN.out
    rw [← hsn] at hset ⊢
    have HSN := hid hsn
    clear hsn
    have hb1 := Below.refl w1.heap.size w1
    go_wp2_with fail
    go_loopw [41] (fun j wx => ∃ k : Nat, k ≤ (readsOf h i).length ∧ j = .int .i64 k ∧ readsOk h l V i k = true ∧ Below w1.heap.size w1 wx) (fun j _ => (readsOf h i).length - (intOf j).toNat)
    case atStart => exact ⟨0, by omega, rfl, rfl, hb1⟩
    case round =>
     obtain ⟨k, hk, rfl, hro, hbk⟩ := hrel
     have HRO := hid hro
     clear hro hb1
     by_cases hlk : k < (readsOf h i).length
     ·have hkk : (k : Int) < ((readsOf h i).length : Int) := by omega
      obtain ⟨gk, ok, hao, e0, e1⟩ := (HF1.out _ hbk).at hlk
      cases hao
      have hkey := reads_key HC.out hih (List.getElem_mem hlk)
      have HRD : Hid (readOk h l V i (readsOf h i)[k] = decide (lastI l (sn &&& wrtN h (readsOf h i)[k].1) = (readsOf h i)[k].2)) := hid (by rw [HSN.out]; rfl)
      have HNO := hid (fun hn => readsOk_no (l := l) (V := V) hih hlk hn)
      have HYE := hid (fun hy => readsOk_succ (l := l) (V := V) hlk hy HRO.out)
      generalize readOk h l V i (readsOf h i)[k] = rb at *
      generalize (readsOf h i)[k] = rr at *
      obtain ⟨rk, rf⟩ := rr
      simp only at e0 e1 hkey HRD
      have hkI : InI rk := inI_of (by unfold IntOk; omega)
      have hbq := hbk.alloc hbk.size (.cells #[.int .i64 rk, .int .i64 rf] 111)
      have hbq3 := below_then hbi hbk
      have hbq4 := hbq3.alloc hbq3.size (.cells #[.int .i64 rk, .int .i64 rf] 111)
      obtain ⟨d0, d1⟩ : (wr.alloc (.cells #[.int .i64 rk, .int .i64 rf] 111)).cell? ⟨wr.heap.size, 0, none⟩ = some (.int .i64 rk) ∧ (wr.alloc (.cells #[.int .i64 rk, .int .i64 rf] 111)).cell? ⟨wr.heap.size, 1, none⟩ = some (.int .i64 rf) := by
       constructor <;> (rw [cell_of_row _ _ _ _ _ _ (heap_alloc_new wr _)]; rfl)
      go_upto_region 10 with fail
      clear e0 e1 hbk hbq3
      generalize wr.alloc (.cells #[.int .i64 rk, .int .i64 rf] 111) = w5 at *
      generalize wr.heap.size = q at *
      have kd := (Below.refl w5.heap.size w5).drew
      have hx : Hid (∃ x, x = wrtN h rk) := hid ⟨_, rfl⟩
      obtain ⟨x, hx⟩ := hx.out
      have hxs : IsSet x := by rw [hx]; exact wrtN_set h rk
      have HX := hid hx
      rw [← hx] at HRD
      clear hx
      have HS2 : Hid (∀ wx, Below w5.heap.size w5 wx → RdS B bm q rk rf x wx) := hid (fun wx hx => by
       have hbw := below_then hbq4 hx
       refine ⟨(HOA.out wx hbw).cM, (hx.cell (p := ⟨q, 0, none⟩) (block_lt d0)).trans d0, (hx.cell (p := ⟨q, 1, none⟩) (block_lt d1)).trans d1, ?_⟩
       have hK := lookI_run (t := 99) (el := 96) (w := wx) false keyI mapIS 0 (zeroS _) (HM.out wx hbw) hkI
       rw [HWR.out rk, ← HX.out] at hK
       simpa only [Bool.false_eq_true, if_false, eS] using hK)
      have HAND := hid (Go.bits_and_u64_nat sn x hset hxs)
      have hand := HAND.out
      have CL := hid (fun wx (hx : Below w5.heap.size w5 wx) => alast_any _ l (sn &&& x) wx (isSet_and hset) (HL3.out wx (below_then hbq4 hx)))
      generalize sn &&& x = sx at *
      generalize lastI l sx = lv at *
      have HBK := hid (fun wx (hx : Below w5.heap.size w5 wx) => And.intro (below_then hbq hx) (HB3.out wx (below_then hbq4 hx)))
      clear d0 d1 hbq hbq4 HX HRO
      cases rb with
      | true =>
       have hlv : lv = rf := of_decide_eq_true HRD.out.symm
       rw [hlv] at CL
       clear hlv
       have HY := hid (HYE.out rfl)
       clear HRD HNO HYE
       ·skip
        refine wp_region_held_drew (S := RdS B bm q rk rf x) (by kernel_rfl) (HS2.out _ kd) (fun hS0 => ?_)
        refine tG3 (some 45) 0 ?vb00 rfl rfl (Or.inl ⟨by rfl, ?hb00⟩) hS0 ?rb00
        case hb00 => (intro w hw; obtain ⟨n0, n1, n2, n3⟩ := hw; go_simp; try (with_reducible rfl))
        try simp only [Act.put, zA3, zB3, zC3]
        refine tG3 (some 46) 1 ?vb01 rfl rfl (Or.inl ⟨by rfl, ?hb01⟩) hS0 ?rb01
        case hb01 => (intro w hw; obtain ⟨n0, n1, n2, n3⟩ := hw; go_simp; try (with_reducible rfl))
        try simp only [Act.put, zA3, zB3, zC3]
        refine tG3 (some 47) 2 ?vb02 rfl rfl (Or.inl ⟨by rfl, ?hb02⟩) hS0 ?rb02
        case hb02 => (intro w hw; obtain ⟨n0, n1, n2, n3⟩ := hw; go_simp; try (with_reducible rfl))
        try simp only [Act.put, zA3, zB3, zC3]
        refine tG3 (some 48) 3 ?vb03 rfl rfl (Or.inl ⟨by rfl, ?hb03⟩) hS0 ?rb03
        case hb03 => (intro w hw; obtain ⟨n0, n1, n2, n3⟩ := hw; go_simp; try (with_reducible rfl))
        try simp only [Act.put, zA3, zB3, zC3]
        refine tG3 (some 49) 4 ?vb04 rfl rfl (Or.inl ⟨by rfl, ?hb04⟩) hS0 ?rb04
        case hb04 => (intro w hw; obtain ⟨n0, n1, n2, n3⟩ := hw; go_simp; try (with_reducible rfl))
        try simp only [Act.put, zA3, zB3, zC3]
        refine tG3 (some 50) 5 ?vb05 rfl rfl (Or.inl ⟨by rfl, ?hb05⟩) hS0 ?rb05
        case hb05 => (intro w hw; obtain ⟨n0, n1, n2, n3⟩ := hw; go_simp; try (with_reducible rfl))
        try simp only [Act.put, zA3, zB3, zC3]
        refine tG3 (some 51) 6 ?vb06 rfl rfl (Or.inl ⟨by rfl, ?hb06⟩) hS0 ?rb06
        case hb06 => (intro w hw; obtain ⟨n0, n1, n2, n3⟩ := hw; go_simp; try (with_reducible rfl))
        try simp only [Act.put, zA3, zB3, zC3]
        refine tG3 (some 52) 7 ?vb07 rfl rfl (Or.inl ⟨by rfl, ?hb07⟩) hS0 ?rb07
        case hb07 => (intro w hw; obtain ⟨n0, n1, n2, n3⟩ := hw; go_simp; try (with_reducible rfl))
        try simp only [Act.put, zA3, zB3, zC3]
        refine tG3 (some 53) 8 ?vb08 rfl rfl (Or.inl ⟨by rfl, ?hb08⟩) hS0 ?rb08
        case hb08 => (intro w hw; obtain ⟨n0, n1, n2, n3⟩ := hw; go_simp; try (with_reducible rfl))
        try simp only [Act.put, zA3, zB3, zC3]
        refine tG3 (some 54) 9 ?vb09 rfl rfl (Or.inl ⟨by rfl, ?hb09⟩) hS0 ?rb09
        case hb09 => (intro w hw; obtain ⟨n0, n1, n2, n3⟩ := hw; go_simp; try (with_reducible rfl))
        try simp only [Act.put, zA3, zB3, zC3]
        refine tG3 (some 56) 11 ?vb011 rfl rfl (Or.inl ⟨by rfl, ?hb011⟩) hS0 ?rb011
        case hb011 => (intro w hw; obtain ⟨n0, n1, n2, n3⟩ := hw; go_simp; try (with_reducible rfl))
        try simp only [Act.put, zA3, zB3, zC3]
        refine tG3 (some 57) 12 ?vb012 rfl rfl (Or.inl ⟨by rfl, ?hb012⟩) hS0 ?rb012
        case hb012 => (intro w hw; obtain ⟨n0, n1, n2, n3⟩ := hw; go_simp; try (with_reducible rfl))
        try simp only [Act.put, zA3, zB3, zC3]
        refine rD3 10 rfl (fun K hK => ?_)
        go_simp
        refine (CL.out _ kd).mono ?_
        rintro e q2 ⟨rfl, hq2⟩
        show K _ _
        have k2 := below_then kd hq2
        have s2 := HS2.out _ k2
        refine hK.out _ _ s2 (fun _ => ?_)
        clear hK K
        refine tA3 (some 58) 13 rfl rfl s2 ?_
        try simp only [Act.put, zA3, zB3, zC3]
        refine wpAnyH_done (by kernel_rfl) ?_ _
        obtain ⟨hz1, _⟩ := HBK.out _ k2
        clear HBK CL HS2 s2 k2 kd hS0 hand HAND
        go_wp2_with fail
        go_roundw
        case rel => exact ⟨k + 1, by omega, by go_num, HY.out, hz1⟩
        case measure => simp [intOf]; omega
      | false =>
       have hlv : ¬ lv = rf := of_decide_eq_false HRD.out.symm
       have HY := hid (HNO.out rfl)
       clear HRD HNO HYE
       ·skip
        refine wp_region_held_drew (S := RdS B bm q rk rf x) (by kernel_rfl) (HS2.out _ kd) (fun hS0 => ?_)
        refine tG3 (some 45) 0 ?vc00 rfl rfl (Or.inl ⟨by rfl, ?hc00⟩) hS0 ?rc00
        case hc00 => (intro w hw; obtain ⟨n0, n1, n2, n3⟩ := hw; go_simp; try (with_reducible rfl))
        try simp only [Act.put, zA3, zB3, zC3]
        refine tG3 (some 46) 1 ?vc01 rfl rfl (Or.inl ⟨by rfl, ?hc01⟩) hS0 ?rc01
        case hc01 => (intro w hw; obtain ⟨n0, n1, n2, n3⟩ := hw; go_simp; try (with_reducible rfl))
        try simp only [Act.put, zA3, zB3, zC3]
        refine tG3 (some 47) 2 ?vc02 rfl rfl (Or.inl ⟨by rfl, ?hc02⟩) hS0 ?rc02
        case hc02 => (intro w hw; obtain ⟨n0, n1, n2, n3⟩ := hw; go_simp; try (with_reducible rfl))
        try simp only [Act.put, zA3, zB3, zC3]
        refine tG3 (some 48) 3 ?vc03 rfl rfl (Or.inl ⟨by rfl, ?hc03⟩) hS0 ?rc03
        case hc03 => (intro w hw; obtain ⟨n0, n1, n2, n3⟩ := hw; go_simp; try (with_reducible rfl))
        try simp only [Act.put, zA3, zB3, zC3]
        refine tG3 (some 49) 4 ?vc04 rfl rfl (Or.inl ⟨by rfl, ?hc04⟩) hS0 ?rc04
        case hc04 => (intro w hw; obtain ⟨n0, n1, n2, n3⟩ := hw; go_simp; try (with_reducible rfl))
        try simp only [Act.put, zA3, zB3, zC3]
        refine tG3 (some 50) 5 ?vc05 rfl rfl (Or.inl ⟨by rfl, ?hc05⟩) hS0 ?rc05
        case hc05 => (intro w hw; obtain ⟨n0, n1, n2, n3⟩ := hw; go_simp; try (with_reducible rfl))
        try simp only [Act.put, zA3, zB3, zC3]
        refine tG3 (some 51) 6 ?vc06 rfl rfl (Or.inl ⟨by rfl, ?hc06⟩) hS0 ?rc06
        case hc06 => (intro w hw; obtain ⟨n0, n1, n2, n3⟩ := hw; go_simp; try (with_reducible rfl))
        try simp only [Act.put, zA3, zB3, zC3]
        refine tG3 (some 52) 7 ?vc07 rfl rfl (Or.inl ⟨by rfl, ?hc07⟩) hS0 ?rc07
        case hc07 => (intro w hw; obtain ⟨n0, n1, n2, n3⟩ := hw; go_simp; try (with_reducible rfl))
        try simp only [Act.put, zA3, zB3, zC3]
        refine tG3 (some 53) 8 ?vc08 rfl rfl (Or.inl ⟨by rfl, ?hc08⟩) hS0 ?rc08
        case hc08 => (intro w hw; obtain ⟨n0, n1, n2, n3⟩ := hw; go_simp; try (with_reducible rfl))
        try simp only [Act.put, zA3, zB3, zC3]
        refine tG3 (some 54) 9 ?vc09 rfl rfl (Or.inl ⟨by rfl, ?hc09⟩) hS0 ?rc09
        case hc09 => (intro w hw; obtain ⟨n0, n1, n2, n3⟩ := hw; go_simp; try (with_reducible rfl))
        try simp only [Act.put, zA3, zB3, zC3]
        refine tG3 (some 56) 11 ?vc011 rfl rfl (Or.inl ⟨by rfl, ?hc011⟩) hS0 ?rc011
        case hc011 => (intro w hw; obtain ⟨n0, n1, n2, n3⟩ := hw; go_simp; try (with_reducible rfl))
        try simp only [Act.put, zA3, zB3, zC3]
        refine tG3 (some 57) 12 ?vc012 rfl rfl (Or.inl ⟨by rfl, ?hc012⟩) hS0 ?rc012
        case hc012 => (intro w hw; obtain ⟨n0, n1, n2, n3⟩ := hw; go_simp; try (with_reducible rfl))
        try simp only [Act.put, zA3, zB3, zC3]
        refine rD3 10 rfl (fun K hK => ?_)
        go_simp
        refine (CL.out _ kd).mono ?_
        rintro e q2 ⟨rfl, hq2⟩
        show K _ _
        have k2 := below_then kd hq2
        have s2 := HS2.out _ k2
        refine hK.out _ _ s2 (fun _ => ?_)
        clear hK K
        refine tA3 (some 58) 13 rfl rfl s2 ?_
        try simp only [Act.put, zA3, zB3, zC3]
        refine wpAnyH_done (by kernel_rfl) ?_ _
        obtain ⟨_, hz2⟩ := HBK.out _ k2
        clear HBK CL HS2 s2 k2 kd hS0 hand HAND
        have HVV : Hid (false = rightM h l V) := hid (by rw [HV.out, HY.out])
        go_wp2_with fail
        go_ret
        exact ⟨ret_b HVV.out, hz2⟩
     ·have hk2 : k = (readsOf h i).length := by omega
      subst hk2
      have HY := hid (rightTo_succ HRT.out HRO.out)
      have hbb := below_then hbi hbk
      go_wp2_with fail
      go_roundw
      case rel => exact ⟨i + 1, by omega, by go_num, HY.out, hbb⟩
      case measure => simp [intOf]; omega
   ·have hi2 : i = RR.length := by omega
    subst hi2
    have HVV : Hid (true = rightM h l V) := hid (by rw [HV.out, ← HLR.out, HRT.out])
    have hbz := HB3.out _ hb
    go_wp2_with fail
    go_ret
    exact ⟨ret_b HVV.out, hbz⟩
end

section
open Go.RowKit
def askC (k : Int) (M : Mat) : Array Value := ((Value.int .i64 k) :: (rowsA M).toList).toArray
theorem built_ask (k : Int) (M : Mat) : Tryz.prog.built 215 [(0, .int .i64 k), (1, .agg (rowsA M))] = some (askC k M) := by kernel_rfl
theorem askC_size (k : Int) (M : Mat) : (askC k M).size = 65 := by
 unfold askC; simp [rowsA_size]
theorem infoAsk : (Tryz.prog.info? 215).map (fun i => (i.zero, i.size, i.bytes)) = some (some (.agg ((Value.int .i64 0 :: List.replicate 64 (Value.int .u64 0)).toArray)), 65, 520) := by kernel_rfl
def asksA (M1 M2 M3 M4 M5 M6 : Mat) : Array Value := ((askC 1 M1).toList ++ ((askC 2 M2).toList ++ ((askC 4 M3).toList ++ ((askC 8 M4).toList ++ ((askC 16 M5).toList ++ (askC 32 M6).toList))))).toArray
theorem fill_asks (M1 M2 M3 M4 M5 M6 : Mat) :
  Instr.fill (fun i => some (i * 65, 65)) ((Array.range (6 * 65)).map ((Value.agg ((Value.int .i64 0 :: List.replicate 64 (Value.int .u64 0)).toArray)).cells[· % (Value.agg ((Value.int .i64 0 :: List.replicate 64 (Value.int .u64 0)).toArray)).cells.size]!)) [(0, .agg (askC 1 M1)), (1, .agg (askC 2 M2)), (2, .agg (askC 4 M3)), (3, .agg (askC 8 M4)), (4, .agg (askC 16 M5)), (5, .agg (askC 32 M6))] = some (asksA M1 M2 M3 M4 M5 M6) := by
 kernel_rfl
def bitA (k : Nat) : Nat := [1, 2, 4, 8, 16, 32].getD k 0
theorem ask_at0 (M : Nat → Mat) : ((asksA (M 0) (M 1) (M 2) (M 3) (M 4) (M 5)).extract (0 * 65) (0 * 65 + 65)).toList = (askC ((bitA 0 : Nat) : Int) (M 0)).toList := by kernel_rfl
theorem ask_at1 (M : Nat → Mat) : ((asksA (M 0) (M 1) (M 2) (M 3) (M 4) (M 5)).extract (1 * 65) (1 * 65 + 65)).toList = (askC ((bitA 1 : Nat) : Int) (M 1)).toList := by kernel_rfl
theorem ask_at2 (M : Nat → Mat) : ((asksA (M 0) (M 1) (M 2) (M 3) (M 4) (M 5)).extract (2 * 65) (2 * 65 + 65)).toList = (askC ((bitA 2 : Nat) : Int) (M 2)).toList := by kernel_rfl
theorem ask_at3 (M : Nat → Mat) : ((asksA (M 0) (M 1) (M 2) (M 3) (M 4) (M 5)).extract (3 * 65) (3 * 65 + 65)).toList = (askC ((bitA 3 : Nat) : Int) (M 3)).toList := by kernel_rfl
theorem ask_at4 (M : Nat → Mat) : ((asksA (M 0) (M 1) (M 2) (M 3) (M 4) (M 5)).extract (4 * 65) (4 * 65 + 65)).toList = (askC ((bitA 4 : Nat) : Int) (M 4)).toList := by kernel_rfl
theorem ask_at5 (M : Nat → Mat) : ((asksA (M 0) (M 1) (M 2) (M 3) (M 4) (M 5)).extract (5 * 65) (5 * 65 + 65)).toList = (askC ((bitA 5 : Nat) : Int) (M 5)).toList := by kernel_rfl
theorem ask_at (M : Nat → Mat) : ∀ (k : Nat) (_ : k < 6), ((asksA (M 0) (M 1) (M 2) (M 3) (M 4) (M 5)).extract (k * 65) (k * 65 + 65)).toList = (askC ((bitA k : Nat) : Int) (M k)).toList
 | 0, _ => ask_at0 M
 | 1, _ => ask_at1 M
 | 2, _ => ask_at2 M
 | 3, _ => ask_at3 M
 | 4, _ => ask_at4 M
 | 5, _ => ask_at5 M
 | k + 6, h => absurd h (by omega)
theorem ask_must (k : Int) (M : Mat) : ((askC k M).extract 1 (1 + 64)).toList = (rowsA M).toList := by kernel_rfl
theorem ask_one (k : Int) (M : Mat) : (askC k M).all (·.oneCell') = true := by
 rw [Array.all_eq_true_iff_forall_mem]
 intro v hv
 have : v ∈ (askC k M).toList := by simpa using hv
 unfold askC at this
 rw [List.toList_toArray] at this
 rcases List.mem_cons.1 this with rfl | h
 ·rfl
 ·have := rows_one M
  rw [Array.all_eq_true_iff_forall_mem] at this
  exact this v (by simpa using h)
theorem yields_ask {ops : Array Oper} {S : World → Prop} {o : Oper} {a : Act} {k : Int} {M : Mat} (hw : Region.wanted o (yielded ops a.tmps) = true) (x : Operand) (ho : o.op = .build 215 #[(0, .const (.int .i64 k)), (1, x)])
  (hx : a.eval x = .agg (rowsA M)) : YieldsIf Tryz.prog ops S o (.agg (askC k M)) a :=
 .inl ⟨hw, fun w _ => by
  have h := run_build w 215 #[(0, .int .i64 k), (1, .agg (rowsA M))] _ (built_ask k M)
  unfold execOp
  simp only [ho, Sem.run_bind]
  have e : (#[(0, Operand.const (Value.int .i64 k)), (1, x)].map fun (p : Nat × Operand) => (p.1, a.eval p.2)) = #[(0, Value.int .i64 k), (1, Value.agg (rowsA M))] := by
   rw [List.map_toArray, List.map_cons, List.map_cons, List.map_nil, hx]; rfl
  first | (rw [e, h]; rfl) | (simp only [e, h, Result.andThen_ok]; rfl)⟩
end

section
open Go.RowKit
theorem wp_buildSliceD {P : Program} {o : Oper} {a : Act} {w : World} {K : Act → World → Prop} {Q : Exit → Act → World → Prop} (d : Option Tmp) (hd : o.dst = d) (t e : TypeId) (len : Nat) (parts : Array (Nat × Operand)) (ho : o.op = .buildSlice t len parts)
  (cells : Array Value) (ie : TypeInfo) (z : Value)
  (hu : P.underlying t = some (.slice e)) (hie : P.info? e = some ie) (hz : ie.zero = some z) (hsmall : ¬ len * ie.size > 2 ^ 24) (hpos : ¬ len * ie.size = 0)
  (hf : Instr.fill (fun i => some (i * ie.size, ie.size)) ((Array.range (len * ie.size)).map (z.cells[· % z.cells.size]!)) (parts.map fun (i, x) => (i, a.eval x)).toList = some cells)
  (h : K (a.put d (.slice (some ⟨w.heap.size, 0, none⟩) len len)) (w.alloc (.cells cells e))) : o.wp P a w K Q := by
 subst hd; exact wp_buildSlice t e len parts ho cells ie z hu hie hz hsmall hpos hf h
theorem map6 {f : Nat × Operand → Nat × Value} (a0 a1 a2 a3 a4 a5 : Nat × Operand) : (Array.map f #[a0, a1, a2, a3, a4, a5]).toList = [f a0, f a1, f a2, f a3, f a4, f a5] := by simp
def keptM (h : List TxnV) (A V : Mat) (k : Nat) : Mat := match k with
 | 0 => sesM h
 | 1 => thenR V V
 | 2 => thenR A V
 | 3 => rivM h A
 | 4 => A
 | _ => timM h
def keptTo (M : Nat → Mat) (V : Mat) (k : Nat) : Nat := (List.range k).foldl (fun (s : Nat) (i : Nat) => if inM (M i) V then s ||| bitA i else s) 0
theorem keptTo_succ (M : Nat → Mat) (V : Mat) (k : Nat) : keptTo M V (k + 1) = if inM (M k) V then keptTo M V k ||| bitA k else keptTo M V k := by
 unfold keptTo; rw [List.range_succ, List.foldl_append]; rfl
theorem bitA_lt (k : Nat) : bitA k < 64 := by
 by_cases hk : k < 6
 ·have h : k = 0 ∨ k = 1 ∨ k = 2 ∨ k = 3 ∨ k = 4 ∨ k = 5 := by omega
  rcases h with rfl | rfl | rfl | rfl | rfl | rfl <;> decide
 ·unfold bitA; rw [List.getD_eq_getElem?_getD, List.getElem?_eq_none (by simp; omega)]; decide
theorem keptTo_lt (M : Nat → Mat) (V : Mat) : ∀ k, keptTo M V k < 64
 | 0 => by unfold keptTo; simp
 | k + 1 => by
  rw [keptTo_succ]
  split
  ·exact Nat.or_lt_two_pow (n := 6) (keptTo_lt M V k) (bitA_lt k)
  ·exact keptTo_lt M V k
theorem infoAsk' (k : Int) (M : Mat) : (Tryz.prog.info? 215).map (·.size) = some (askC k M).size := by
 obtain ⟨i, hi, _, h1, _⟩ := info_parts infoAsk
 rw [hi, askC_size]; simp [h1]
theorem wpList_load_ask {ops : Array Oper} {rest : List Oper} {o : Oper} {a : Act} {w : World} {Q : Exit → Act → World → Prop} {g p : Nat} {k : Int} {M : Mat} (h : w.rangeAt g p (askC k M).toList) (hgd : o.guard = none) (x : Operand) (ho : o.op = .load 215 x)
  (hx : a.eval x = .pointer (some ⟨g, p, none⟩)) (hn : wpList Tryz.prog ops Q rest (a.put o.dst (.agg (askC k M))) w) : wpList Tryz.prog ops Q (o :: rest) a w := by
 refine wpList_load_mid hgd 215 x ho g p hx (askC k M).toList _ h Tryz.underlying215 rfl (by rw [Array.length_toList]; exact infoAsk' k M) ?_
 rw [Array.toArray_toList]
 exact hn
theorem ask_block (w : World) : (w.alloc (.cells Tryz.zeroCells215 215)).heap[w.heap.size]? = some (.cells Tryz.zeroCells215 215 (0, 0)) := heap_alloc_new w _
theorem wpList_store_ask {ops : Array Oper} {rest : List Oper} {o : Oper} {a : Act} {w : World} {Q : Exit → Act → World → Prop} {g : Nat} {k : Int} {M : Mat} (h : w.heap[g]? = some (.cells Tryz.zeroCells215 215 (0, 0))) (hgd : o.guard = none) (x y : Operand) (ho : o.op = .store 215 x y)
  (hx : a.eval x = .pointer (some ⟨g, 0, none⟩)) (hy : a.eval y = .agg (askC k M)) (hn : wpList Tryz.prog ops Q rest (a.put o.dst undef) (w.setRow g (askC k M))) : wpList Tryz.prog ops Q (o :: rest) a w :=
 wpList_store_row hgd 215 x y ho g (askC k M) hx hy _ _ h (infoAsk' k M) (by rw [askC_size]; kernel_rfl) (ask_one k M) hn
def keptN (h : List TxnV) (l : List Int) (V : Mat) : Nat := keptTo (keptM h (chainR l) V) V 6
theorem akept_any (va : Value) (l : List Int) (V : Mat) (h : List TxnV) (B b : Nat) (w : World) (hO : OrdIs w B b h) (hc : checkI h = 0) (ht : Tab w) (hl : Ints w va l) :
  Calls Tryz.prog 121 #[.pointer (some ⟨B, 0, none⟩), va, .agg (rowsA V)] w fun e w' => e = .returned (.int .i64 (keptN h l V)) ∧ Below w.heap.size w w' := by
 have hg := ht.pos
 have HT : Hid (∀ wx, Below w.heap.size w wx → Tab wx) := hid (fun wx hb => ht.below hb hg)
 have HO := hid (fun wx (hx : Below w.heap.size w wx) => hO.below hx)
 have HC := hid hc
 obtain ⟨ie, hie, hz0, hz1, hz2⟩ := info_parts infoAsk
 have r0 : RelAt (w.alloc (.cells (rowsA V) 98)) w.heap.size 98 V := RelAt.made w _ _ rfl rfl
 have hb0 := box_below w (.cells (rowsA V) 98)
 have CH := hid (chain_any va l _ (hl.below hb0))
 obtain ⟨ao, cap, rfl, hal⟩ := hl.form
 have HQ : Hid (keptN h l V = keptTo (keptM h (chainR l) V) V 6) := hid rfl
 generalize chainR l = A at *
 clear hO hc ht hl
 go_enter Tryz.func121, Tryz.ntmps121
 go_wp2_with fail
 refine (CH.out).mono ?_
 rintro e w1 ⟨rfl, hb1⟩
 have r0 := r0.below hb1 r0.lt
 have hb2 := below_then hb0 hb1
 clear hb1 hb0 CH
 have hs1 := hb2.size
 have hl0 := r0.lt
 have z7 := zero_block w1
 have r0 := (r0.alloc (.cells #[.int .u64 0, .int .u64 0, .int .u64 0, .int .u64 0, .int .u64 0, .int .u64 0, .int .u64 0, .int .u64 0, .int .u64 0, .int .u64 0, .int .u64 0, .int .u64 0, .int .u64 0, .int .u64 0, .int .u64 0, .int .u64 0, .int .u64 0, .int .u64 0, .int .u64 0, .int .u64 0, .int .u64 0, .int .u64 0, .int .u64 0, .int .u64 0, .int .u64 0, .int .u64 0, .int .u64 0, .int .u64 0, .int .u64 0, .int .u64 0, .int .u64 0, .int .u64 0, .int .u64 0, .int .u64 0, .int .u64 0, .int .u64 0, .int .u64 0, .int .u64 0, .int .u64 0, .int .u64 0, .int .u64 0, .int .u64 0, .int .u64 0, .int .u64 0, .int .u64 0, .int .u64 0, .int .u64 0, .int .u64 0, .int .u64 0, .int .u64 0, .int .u64 0, .int .u64 0, .int .u64 0, .int .u64 0, .int .u64 0, .int .u64 0, .int .u64 0, .int .u64 0, .int .u64 0, .int .u64 0, .int .u64 0, .int .u64 0, .int .u64 0, .int .u64 0] 98)).far (g' := w1.heap.size) (by omega) (rowsA A)
 have hb3 := below_setRow (hb2.alloc hb2.size (.cells #[.int .u64 0, .int .u64 0, .int .u64 0, .int .u64 0, .int .u64 0, .int .u64 0, .int .u64 0, .int .u64 0, .int .u64 0, .int .u64 0, .int .u64 0, .int .u64 0, .int .u64 0, .int .u64 0, .int .u64 0, .int .u64 0, .int .u64 0, .int .u64 0, .int .u64 0, .int .u64 0, .int .u64 0, .int .u64 0, .int .u64 0, .int .u64 0, .int .u64 0, .int .u64 0, .int .u64 0, .int .u64 0, .int .u64 0, .int .u64 0, .int .u64 0, .int .u64 0, .int .u64 0, .int .u64 0, .int .u64 0, .int .u64 0, .int .u64 0, .int .u64 0, .int .u64 0, .int .u64 0, .int .u64 0, .int .u64 0, .int .u64 0, .int .u64 0, .int .u64 0, .int .u64 0, .int .u64 0, .int .u64 0, .int .u64 0, .int .u64 0, .int .u64 0, .int .u64 0, .int .u64 0, .int .u64 0, .int .u64 0, .int .u64 0, .int .u64 0, .int .u64 0, .int .u64 0, .int .u64 0, .int .u64 0, .int .u64 0, .int .u64 0, .int .u64 0] 98)) (g := w1.heap.size) (by omega) (rowsA A)
 clear hb2
 go_upto_region 3 with (with_reducible refine wpList_store_rel z7 A rfl _ _ rfl rfl rfl ?_)
 have z7 := z7.setRow A
 generalize (w1.alloc (.cells #[.int .u64 0, .int .u64 0, .int .u64 0, .int .u64 0, .int .u64 0, .int .u64 0, .int .u64 0, .int .u64 0, .int .u64 0, .int .u64 0, .int .u64 0, .int .u64 0, .int .u64 0, .int .u64 0, .int .u64 0, .int .u64 0, .int .u64 0, .int .u64 0, .int .u64 0, .int .u64 0, .int .u64 0, .int .u64 0, .int .u64 0, .int .u64 0, .int .u64 0, .int .u64 0, .int .u64 0, .int .u64 0, .int .u64 0, .int .u64 0, .int .u64 0, .int .u64 0, .int .u64 0, .int .u64 0, .int .u64 0, .int .u64 0, .int .u64 0, .int .u64 0, .int .u64 0, .int .u64 0, .int .u64 0, .int .u64 0, .int .u64 0, .int .u64 0, .int .u64 0, .int .u64 0, .int .u64 0, .int .u64 0, .int .u64 0, .int .u64 0, .int .u64 0, .int .u64 0, .int .u64 0, .int .u64 0, .int .u64 0, .int .u64 0, .int .u64 0, .int .u64 0, .int .u64 0, .int .u64 0, .int .u64 0, .int .u64 0, .int .u64 0, .int .u64 0] 98)).setRow w1.heap.size (rowsA A) = w3 at *
 generalize hp7 : w1.heap.size = p7 at *
 clear hp7
 have HS : Hid (∀ wx, Below w3.heap.size w3 wx → OrdB wx B h ∧ RelAt wx w.heap.size 98 V ∧ RelAt wx p7 98 A) := hid (fun wx hx => ⟨(HO.out wx (hb3.trans (hx.mono hb3.size))).blk, r0.below hx r0.lt, z7.below hx z7.lt⟩)
 have CT1 := hid (fun wx (hx : Below w3.heap.size w3 wx) => then_any V V wx (HT.out _ (hb3.trans (hx.mono hb3.size))))
 have CT2 := hid (fun wx (hx : Below w3.heap.size w3 wx) => then_any A V wx (HT.out _ (hb3.trans (hx.mono hb3.size))))
 have CR := hid (fun wx (hx : Below w3.heap.size w3 wx) => arivals_any A h B b wx (HO.out wx (hb3.trans (hx.mono hb3.size))) HC.out)
 have HB := hid (fun wx (hx : Below w3.heap.size w3 wx) => hb3.trans (hx.mono hb3.size))
 have kd := (Below.refl w3.heap.size w3).drew
 clear r0 z7 hb3
 refine wp_region_held_drew (S := fun wx => OrdB wx B h ∧ RelAt wx w.heap.size 98 V ∧ RelAt wx p7 98 A) (by kernel_rfl) (HS.out _ kd) (fun hS0 => ?_)
 refine tG3 (some 13) 0 ?vk0 rfl rfl (Or.inl ⟨by rfl, ?hk0⟩) hS0 ?rk0
 case hk0 => (intro w hw; have hn := hw.1.cN; go_simp; try (with_reducible rfl))
 try simp only [Act.put, zA3, zB3, zC3]
 refine tG3 (some 14) 1 ?vk1 rfl rfl (Or.inl ⟨by rfl, ?hk1⟩) hS0 ?rk1
 case hk1 => (intro w hw; have hn := hw.1.cN; go_simp; try (with_reducible rfl))
 try simp only [Act.put, zA3, zB3, zC3]
 refine tG3 (some 15) 2 ?vk2 rfl rfl (Or.inl ⟨by rfl, ?hk2⟩) hS0 ?rk2
 case hk2 => (intro w hw; have hn := hw.1.cN; go_simp; try (with_reducible rfl))
 try simp only [Act.put, zA3, zB3, zC3]
 refine tA3 (some 39) 26 rfl rfl hS0 ?_
 try simp only [Act.put, zA3, zB3, zC3]
 refine tG3 (some 16) 3 _ rfl rfl (yields_load_part (by rfl) _ rfl rfl (fun wx hx => hx.1.rS)) hS0 ?_
 try simp only [Act.put, zA3, zB3, zC3]
 refine tG3 (some 17) 4 _ rfl rfl (yields_ask (k := 1) (by rfl) _ rfl rfl) hS0 ?_
 try simp only [Act.put, zA3, zB3, zC3]
 refine tG3 (some 18) 5 _ rfl rfl (yields_rel (by rfl) _ rfl rfl (fun wx hx => hx.2.1)) hS0 ?_
 try simp only [Act.put, zA3, zB3, zC3]
 refine tG3 (some 19) 6 _ rfl rfl (yields_rel (by rfl) _ rfl rfl (fun wx hx => hx.2.1)) hS0 ?_
 try simp only [Act.put, zA3, zB3, zC3]
 refine tG3 (some 22) 9 _ rfl rfl (yields_rel (by rfl) _ rfl rfl (fun wx hx => hx.2.2)) hS0 ?_
 try simp only [Act.put, zA3, zB3, zC3]
 refine tG3 (some 23) 10 _ rfl rfl (yields_rel (by rfl) _ rfl rfl (fun wx hx => hx.2.1)) hS0 ?_
 try simp only [Act.put, zA3, zB3, zC3]
 refine tG3 (some 26) 13 ?vk13 rfl rfl (Or.inl ⟨by rfl, ?hk13⟩) hS0 ?rk13
 case hk13 => (intro w hw; have hn := hw.1.cN; go_simp; try (with_reducible rfl))
 try simp only [Act.put, zA3, zB3, zC3]
 refine tG3 (some 27) 14 _ rfl rfl (yields_rel (by rfl) _ rfl rfl (fun wx hx => hx.2.2)) hS0 ?_
 try simp only [Act.put, zA3, zB3, zC3]
 refine tG3 (some 30) 17 _ rfl rfl (yields_rel (by rfl) _ rfl rfl (fun wx hx => hx.2.2)) hS0 ?_
 try simp only [Act.put, zA3, zB3, zC3]
 refine tG3 (some 31) 18 _ rfl rfl (yields_ask (k := 16) (by rfl) _ rfl rfl) hS0 ?_
 try simp only [Act.put, zA3, zB3, zC3]
 refine tG3 (some 32) 19 ?vk19 rfl rfl (Or.inl ⟨by rfl, ?hk19⟩) hS0 ?rk19
 case hk19 => (intro w hw; have hn := hw.1.cN; go_simp; try (with_reducible rfl))
 try simp only [Act.put, zA3, zB3, zC3]
 refine tG3 (some 33) 20 ?vk20 rfl rfl (Or.inl ⟨by rfl, ?hk20⟩) hS0 ?rk20
 case hk20 => (intro w hw; have hn := hw.1.cN; go_simp; try (with_reducible rfl))
 try simp only [Act.put, zA3, zB3, zC3]
 refine tG3 (some 34) 21 ?vk21 rfl rfl (Or.inl ⟨by rfl, ?hk21⟩) hS0 ?rk21
 case hk21 => (intro w hw; have hn := hw.1.cN; go_simp; try (with_reducible rfl))
 try simp only [Act.put, zA3, zB3, zC3]
 refine tG3 (some 35) 22 _ rfl rfl (yields_load_part (by rfl) _ rfl rfl (fun wx hx => hx.1.rT)) hS0 ?_
 try simp only [Act.put, zA3, zB3, zC3]
 refine tG3 (some 36) 23 _ rfl rfl (yields_ask (k := 32) (by rfl) _ rfl rfl) hS0 ?_
 try simp only [Act.put, zA3, zB3, zC3]
 refine rD3 7 rfl (fun K hK => ?_)
 go_simp
 refine (CT1.out _ kd).mono ?_
 rintro e q1 ⟨rfl, hq1⟩
 show K _ _
 have k1 := below_then kd hq1
 have s1 := HS.out _ k1
 refine hK.out _ _ s1 (fun _ => ?_)
 clear hK K
 refine tG3 (some 21) 8 _ rfl rfl (yields_ask (k := 2) (by rfl) _ rfl rfl) s1 ?_
 try simp only [Act.put, zA3, zB3, zC3]
 refine rD3 11 rfl (fun K hK => ?_)
 go_simp
 refine (CT2.out _ k1).mono ?_
 rintro e q2 ⟨rfl, hq2⟩
 show K _ _
 have k2 := below_then k1 hq2
 have s2 := HS.out _ k2
 refine hK.out _ _ s2 (fun _ => ?_)
 clear hK K
 refine tG3 (some 25) 12 _ rfl rfl (yields_ask (k := 4) (by rfl) _ rfl rfl) s2 ?_
 try simp only [Act.put, zA3, zB3, zC3]
 refine rD3 15 rfl (fun K hK => ?_)
 go_simp
 refine (CR.out _ k2).mono ?_
 rintro e q3 ⟨rfl, hq3⟩
 show K _ _
 have k3 := below_then k2 hq3
 have s3 := HS.out _ k3
 refine hK.out _ _ s3 (fun _ => ?_)
 clear hK K
 refine tG3 (some 29) 16 _ rfl rfl (yields_ask (k := 8) (by rfl) _ rfl rfl) s3 ?_
 try simp only [Act.put, zA3, zB3, zC3]
 refine rD3 24 rfl (fun K hK => ?_)
 rw [if_pos (by rfl)]
 refine wp_buildSliceD (some 37) rfl 217 215 6 _ rfl (asksA (sesM h) (thenR V V) (thenR A V) (rivM h A) A (timM h)) ie (.agg ((Value.int .i64 0 :: List.replicate 64 (Value.int .u64 0)).toArray)) Tryz.underlying217 hie hz0 (by rw [hz1]; omega) (by rw [hz1]; omega) (by rw [hz1, map6]; exact fill_asks (sesM h) (thenR V V) (thenR A V) (rivM h A) A (timM h)) ?_
 have k4 := k3.alloc k3.size (.cells (asksA (sesM h) (thenR V V) (thenR A V) (rivM h A) A (timM h)) 215)
 have s4 := HS.out _ k4
 refine hK.out _ _ s4 (fun _ => ?_)
 clear hK K
 try simp only [Act.put, zA3, zB3, zC3]
 refine tA3 (some 38) 25 rfl rfl s4 ?_
 try simp only [Act.put, zA3, zB3, zC3]
 refine wpAnyH_done (by kernel_rfl) ?_ _
 have hbk := heap_alloc_new q3 (.cells (asksA (sesM h) (thenR V V) (thenR A V) (rivM h A) A (timM h)) 215)
 have hb5 := HB.out _ k4
 have hV5 := s4.2.1
 clear kd hS0 k1 s1 k2 s2 k3 s3 k4 s4 HS CT1 CT2 CR HB hq1 hq2 hq3
 generalize q3.alloc (.cells (asksA (sesM h) (thenR V V) (thenR A V) (rivM h A) A (timM h)) 215) = w5 at *
 generalize q3.heap.size = g at *
 have HBK : Hid (∀ wx, Below w5.heap.size w5 wx → ∀ k, k < 6 → wx.rangeAt g (k * 65) (askC ((bitA k : Nat) : Int) (keptM h A V k)).toList) := hid (fun wx hx k hk => by
  have hlt : g < w5.heap.size := by
   by_cases h0 : g < w5.heap.size
   ·exact h0
   ·rw [Array.getElem?_eq_none (Nat.le_of_not_lt h0)] at hbk; cases hbk
  have h1 := (hx.block g hlt).trans hbk
  have h2 := World.rangeAt_of_block h1 (k * 65) 65
  rw [show asksA (sesM h) (thenR V V) (thenR A V) (rivM h A) A (timM h) = asksA (keptM h A V 0) (keptM h A V 1) (keptM h A V 2) (keptM h A V 3) (keptM h A V 4) (keptM h A V 5) from rfl, ask_at (keptM h A V) k hk] at h2
  exact h2)
 have HV5 := hid (fun wx (hx : Below w5.heap.size w5 wx) => hV5.below hx hV5.lt)
 have HB5 := hid (fun wx (hx : Below w5.heap.size w5 wx) => hb5.trans (hx.mono hb5.size))
 have HQ2 : Hid (keptN h l V = keptTo (keptM h A V) V 6) := hid HQ.out
 clear hbk hV5 hb5 HQ
 generalize keptM h A V = M at *
 go_wp2_with fail
 go_loopw [8, 39] (fun s i wr => ∃ k : Nat, k ≤ 6 ∧ i = .int .i64 k ∧ s = .int .i64 ((keptTo M V k : Nat) : Int) ∧ Below w5.heap.size w5 wr) (fun _ i _ => 6 - (intOf i).toNat)
 case atStart => exact ⟨0, by omega, rfl, rfl, Below.refl _ _⟩
 case round =>
  obtain ⟨k, hk, rfl, rfl, hb⟩ := hrel
  by_cases hlt : k < 6
  ·have hki : (k : Int) < 6 := by omega
   have hrg := HBK.out _ hb k hlt
   have hkl := keptTo_lt M V k
   have hbl := bitA_lt k
   have HS := hid (keptTo_succ M V k)
   have hor := i64_or_nat (keptTo M V k) (bitA k) (by omega) (by omega)
   have HOR := hid hor
   have CW := hid (fun wx => withinR_any (M k) V wx)
   have hz := ask_block wr
   have hbz := box_below wr (.cells Tryz.zeroCells215 215)
   have hgr := setRow_heap _ _ _ (askC ((bitA k : Nat) : Int) (M k)) _ _ hz
   have hbg := below_setRow hbz (Nat.le_refl _) (askC ((bitA k : Nat) : Int) (M k))
   have HBF := hid (fun wx (hx : Below ((wr.alloc (.cells Tryz.zeroCells215 215)).setRow wr.heap.size (askC ((bitA k : Nat) : Int) (M k))).heap.size ((wr.alloc (.cells Tryz.zeroCells215 215)).setRow wr.heap.size (askC ((bitA k : Nat) : Int) (M k))) wx) => below_then (below_then hb hbg) hx)
   clear hor hbz hbg
   generalize bitA k = bt1 at *
   generalize M k = Mk at *
   generalize keptTo M V k = kp at *
   go_upto_region 6 with (first | (with_reducible refine wpList_load_ask hrg rfl _ rfl rfl ?_) | (with_reducible refine wpList_store_ask hz rfl _ _ rfl rfl rfl ?_))
   clear hz hrg
   generalize (wr.alloc (.cells Tryz.zeroCells215 215)).setRow wr.heap.size (askC (bt1 : Int) Mk) = w6 at *
   have hrm := World.rangeAt_of_block hgr 1 64
   rw [ask_must] at hrm
   have hc0 : w6.cell? ⟨wr.heap.size, 0, none⟩ = some (.int .i64 bt1) := by rw [cell_of_row _ _ _ _ _ _ hgr]; rfl
   have k0 := Below.refl w6.heap.size w6
   have y5 := HV5.out _ (HBF.out _ k0)
   clear hgr hb
   simp only [Act.put]
   go_wp2_with (first | (with_reducible refine wpList_load_part hrm _ rfl (by kernel_rfl) rfl ?_) | (with_reducible refine wpList_load_rel y5 rfl _ rfl rfl ?_))
   refine (CW.out _).mono ?_
   rintro e w7 ⟨rfl, hb7⟩
   have hc0 := (hb7.cell (p := ⟨wr.heap.size, 0, none⟩) (block_lt hc0)).trans hc0
   have hb8 := HBF.out _ hb7
   clear hrm y5 HBF hb7 k0 CW
   cases hin : inM Mk V with
   | true =>
    have HV := hid (show keptTo M V (k + 1) = kp ||| bt1 by rw [HS.out, hin]; rfl)
    have hor := HOR.out
    clear hin HS HOR
    go_wp2_with fail
    go_roundw
    case rel => exact ⟨k + 1, by omega, by go_num, by rw [HV.out], hb8⟩
    case measure => simp [intOf]; omega
   | false =>
    have HV := hid (show keptTo M V (k + 1) = kp by rw [HS.out, hin]; rfl)
    clear hin HS HOR
    go_wp2_with fail
    go_roundw
    case rel => exact ⟨k + 1, by omega, by go_num, by rw [HV.out], hb8⟩
    case measure => simp [intOf]; omega
  ·have hk6 : k = 6 := by omega
   subst hk6
   have HE := hid HQ2.out.symm
   have hbz := HB5.out _ hb
   go_wp2_with fail
   go_ret
   exact ⟨by rw [← HE.out]; rfl, hbz⟩
end

section
open Go.RowKit
def hasT (k t : Nat) : Bool := decide (k / t % 2 = 1)
end

section
open Go.RowKit
theorem block_lt' {w : World} {a : Addr} {v : Value} (h : w.cell? a = some v) : a.block < w.heap.size := by
 by_cases h0 : a.block < w.heap.size
 ·exact h0
 ·simp [World.cell?, Array.getElem?_eq_none (Nat.le_of_not_lt h0)] at h
theorem Kinds.below {w w' : World} (h : Kinds w) (hb : Below w.heap.size w w') : Kinds w' := fun k hk => by
 obtain ⟨h1, h2⟩ := h k hk
 exact ⟨(hb.cell (block_lt' h1)).trans h1, (hb.cell (block_lt' h2)).trans h2⟩
end

section
open Go.RowKit
def lackN (a b : Nat) : Nat := a ^^^ (a &&& b)
def holdsB (h : List TxnV) (lv : Int) (l : List Int) (V : Mat) : Bool := isLv lv && (soundTo h h.length && (rightM h l V && decide (lackN (askN lv) (keptN h l V) = 0)))
theorem aholds_any (lv : Int) (va : Value) (l : List Int) (V : Mat) (h : List TxnV) (B b : Nat) (w : World) (hO : OrdIs w B b h) (hc : checkI h = 0) (ht : Tab w) (hK : Kinds w) (hl : Ints w va l) :
  Calls Tryz.prog 72 #[.pointer (some ⟨B, 0, none⟩), .int .i64 lv, va, .agg (rowsA V)] w fun e w' => e = .returned (.bool (holdsB h lv l V)) ∧ Below w.heap.size w w' := by
 have hg := ht.pos
 have r0 : RelAt (w.alloc (.cells (rowsA V) 98)) w.heap.size 98 V := RelAt.made w _ _ rfl rfl
 have hb0 := box_below w (.cells (rowsA V) 98)
 have HW := hid (fun wx (hx : Below w.heap.size w wx) => And.intro (hO.below hx) (And.intro (ht.below hx hg) (And.intro (hK.below hx) (hl.below hx))))
 have HC := hid hc
 have HR : Hid (holdsB h lv l V = (isLv lv && (soundTo h h.length && (rightM h l V && decide (lackN (askN lv) (keptN h l V) = 0))))) := hid rfl
 obtain ⟨ao, cap, rfl, hal⟩ := hl.form
 clear hO hc ht hK hl
 go_enter Tryz.func72, Tryz.ntmps72
 go_upto_region 1 with fail
 generalize w.alloc (.cells (rowsA V) 98) = w0 at *
 have HB := hid (fun wx (hx : Below w0.heap.size w0 wx) => hb0.trans (hx.mono hb0.size))
 have HS : Hid (∀ wx, Below w0.heap.size w0 wx → OrdB wx B h ∧ RelAt wx w.heap.size 98 V) := hid (fun wx hx => ⟨(HW.out wx (hb0.trans (hx.mono hb0.size))).1.blk, r0.below hx r0.lt⟩)
 have CI := hid (fun wx => lis_any lv wx)
 have CR := hid (fun wx (hx : Below w0.heap.size w0 wx) => aright_any _ l V h B b wx (HW.out wx (hb0.trans (hx.mono hb0.size))).1 HC.out (HW.out wx (hb0.trans (hx.mono hb0.size))).2.2.2)
 have CA := hid (fun wx (hx : Below w0.heap.size w0 wx) => lasks_any lv wx (HW.out wx (hb0.trans (hx.mono hb0.size))).2.2.1)
 have CK := hid (fun wx (hx : Below w0.heap.size w0 wx) => akept_any _ l V h B b wx (HW.out wx (hb0.trans (hx.mono hb0.size))).1 HC.out (HW.out wx (hb0.trans (hx.mono hb0.size))).2.1 (HW.out wx (hb0.trans (hx.mono hb0.size))).2.2.2)
 have kd := (Below.refl w0.heap.size w0).drew
 have hka := askN_lt lv
 have hkk : keptN h l V < 64 := keptTo_lt _ _ _
 have HLK := hid (i64_andNot_nat (askN lv) (keptN h l V) (by omega) (by omega))
 clear r0 hb0 HW
 generalize rightM h l V = rt at *
 generalize askN lv = na at *
 generalize keptN h l V = nk at *
 generalize isLv lv = il at *
 cases il with
 | false =>
  have HV : Hid (false = holdsB h lv l V) := hid (by rw [HR.out]; rfl)
  clear HR
  refine wp_region_held_drew (S := fun wx => OrdB wx B h ∧ RelAt wx w.heap.size 98 V) (by kernel_rfl) (HS.out _ kd) (fun hS0 => ?_)
  refine tA3 (some 9) 0 rfl rfl hS0 ?_
  try simp only [Act.put, zA3, zB3, zC3]
  refine rD3 1 rfl (fun K hK => ?_)
  go_simp
  refine (CI.out _).mono ?_
  rintro e q1 ⟨rfl, rfl⟩
  show K _ _
  refine hK.out _ _ hS0 (fun _ => ?_)
  clear hK K
  refine tA3 (some 11) 2 rfl rfl hS0 ?_
  try simp only [Act.put, zA3, zB3, zC3]
  refine tG3 (some 12) 3 undef rfl rfl (Or.inr ⟨by rfl, rfl⟩) hS0 ?_
  try simp only [Act.put, zA3, zB3, zC3]
  refine tG3 (some 13) 4 undef rfl rfl (Or.inr ⟨by rfl, rfl⟩) hS0 ?_
  try simp only [Act.put, zA3, zB3, zC3]
  refine tG3 (some 14) 5 undef rfl rfl (Or.inr ⟨by rfl, rfl⟩) hS0 ?_
  try simp only [Act.put, zA3, zB3, zC3]
  refine tG3 (some 15) 6 undef rfl rfl (Or.inr ⟨by rfl, rfl⟩) hS0 ?_
  try simp only [Act.put, zA3, zB3, zC3]
  refine tA3 (some 16) 7 rfl rfl hS0 ?_
  try simp only [Act.put, zA3, zB3, zC3]
  refine tA3 (some 17) 8 rfl rfl hS0 ?_
  try simp only [Act.put, zA3, zB3, zC3]
  refine tG3 (some 18) 9 undef rfl rfl (Or.inr ⟨by rfl, rfl⟩) hS0 ?_
  try simp only [Act.put, zA3, zB3, zC3]
  refine tG3 (some 19) 10 undef rfl rfl (Or.inr ⟨by rfl, rfl⟩) hS0 ?_
  try simp only [Act.put, zA3, zB3, zC3]
  refine tG3 (some 20) 11 undef rfl rfl (Or.inr ⟨by rfl, rfl⟩) hS0 ?_
  try simp only [Act.put, zA3, zB3, zC3]
  refine tG3 (some 21) 12 undef rfl rfl (Or.inr ⟨by rfl, rfl⟩) hS0 ?_
  try simp only [Act.put, zA3, zB3, zC3]
  refine tA3 (some 22) 13 rfl rfl hS0 ?_
  try simp only [Act.put, zA3, zB3, zC3]
  refine tA3 (some 23) 14 rfl rfl hS0 ?_
  try simp only [Act.put, zA3, zB3, zC3]
  refine tG3 (some 24) 15 undef rfl rfl (Or.inr ⟨by rfl, rfl⟩) hS0 ?_
  try simp only [Act.put, zA3, zB3, zC3]
  refine tG3 (some 25) 16 undef rfl rfl (Or.inr ⟨by rfl, rfl⟩) hS0 ?_
  try simp only [Act.put, zA3, zB3, zC3]
  refine tG3 (some 26) 17 undef rfl rfl (Or.inr ⟨by rfl, rfl⟩) hS0 ?_
  try simp only [Act.put, zA3, zB3, zC3]
  refine tG3 (some 27) 18 undef rfl rfl (Or.inr ⟨by rfl, rfl⟩) hS0 ?_
  try simp only [Act.put, zA3, zB3, zC3]
  refine tG3 (some 28) 19 undef rfl rfl (Or.inr ⟨by rfl, rfl⟩) hS0 ?_
  try simp only [Act.put, zA3, zB3, zC3]
  refine tG3 (some 29) 20 undef rfl rfl (Or.inr ⟨by rfl, rfl⟩) hS0 ?_
  try simp only [Act.put, zA3, zB3, zC3]
  refine tG3 (some 30) 21 undef rfl rfl (Or.inr ⟨by rfl, rfl⟩) hS0 ?_
  try simp only [Act.put, zA3, zB3, zC3]
  refine tG3 (some 31) 22 undef rfl rfl (Or.inr ⟨by rfl, rfl⟩) hS0 ?_
  try simp only [Act.put, zA3, zB3, zC3]
  refine tA3 (some 32) 23 rfl rfl hS0 ?_
  try simp only [Act.put, zA3, zB3, zC3]
  refine tA3 (some 8) 24 rfl rfl hS0 ?_
  try simp only [Act.put, zA3, zB3, zC3]
  refine wpAnyH_done (by kernel_rfl) ?_ _
  go_wp2_with fail
  go_ret
  exact ⟨ret_b HV.out, HB.out _ kd⟩
 | true =>
 cases hsd : soundTo h h.length with
 | false =>
  have HSD := hid hsd
  have HV : Hid (false = holdsB h lv l V) := hid (by rw [HR.out, hsd]; rfl)
  clear hsd
  clear HR
  refine wp_region_held_drew (S := fun wx => OrdB wx B h ∧ RelAt wx w.heap.size 98 V) (by kernel_rfl) (HS.out _ kd) (fun hS0 => ?_)
  refine tA3 (some 9) 0 rfl rfl hS0 ?_
  try simp only [Act.put, zA3, zB3, zC3]
  refine rD3 1 rfl (fun K hK => ?_)
  go_simp
  refine (CI.out _).mono ?_
  rintro e q1 ⟨rfl, rfl⟩
  show K _ _
  refine hK.out _ _ hS0 (fun _ => ?_)
  clear hK K
  refine tA3 (some 11) 2 rfl rfl hS0 ?_
  try simp only [Act.put, zA3, zB3, zC3]
  refine tG3 (some 12) 3 ?vb3 rfl rfl (Or.inl ⟨by rfl, ?hb3⟩) hS0 ?rb3
  case hb3 => (intro w hw; have hn := hw.1.cS; rw [HSD.out] at hn; have hm := hw.1.cN; go_simp; try (with_reducible rfl))
  try simp only [Act.put, zA3, zB3, zC3]
  refine tG3 (some 13) 4 ?vb4 rfl rfl (Or.inl ⟨by rfl, ?hb4⟩) hS0 ?rb4
  case hb4 => (intro w hw; have hn := hw.1.cS; rw [HSD.out] at hn; have hm := hw.1.cN; go_simp; try (with_reducible rfl))
  try simp only [Act.put, zA3, zB3, zC3]
  refine tG3 (some 14) 5 ?vb5 rfl rfl (Or.inl ⟨by rfl, ?hb5⟩) hS0 ?rb5
  case hb5 => (intro w hw; have hn := hw.1.cS; rw [HSD.out] at hn; have hm := hw.1.cN; go_simp; try (with_reducible rfl))
  try simp only [Act.put, zA3, zB3, zC3]
  refine tG3 (some 15) 6 ?vb6 rfl rfl (Or.inl ⟨by rfl, ?hb6⟩) hS0 ?rb6
  case hb6 => (intro w hw; have hn := hw.1.cS; rw [HSD.out] at hn; have hm := hw.1.cN; go_simp; try (with_reducible rfl))
  try simp only [Act.put, zA3, zB3, zC3]
  refine tA3 (some 16) 7 rfl rfl hS0 ?_
  try simp only [Act.put, zA3, zB3, zC3]
  refine tA3 (some 17) 8 rfl rfl hS0 ?_
  try simp only [Act.put, zA3, zB3, zC3]
  refine tG3 (some 18) 9 undef rfl rfl (Or.inr ⟨by rfl, rfl⟩) hS0 ?_
  try simp only [Act.put, zA3, zB3, zC3]
  refine tG3 (some 19) 10 undef rfl rfl (Or.inr ⟨by rfl, rfl⟩) hS0 ?_
  try simp only [Act.put, zA3, zB3, zC3]
  refine tG3 (some 20) 11 undef rfl rfl (Or.inr ⟨by rfl, rfl⟩) hS0 ?_
  try simp only [Act.put, zA3, zB3, zC3]
  refine tG3 (some 21) 12 undef rfl rfl (Or.inr ⟨by rfl, rfl⟩) hS0 ?_
  try simp only [Act.put, zA3, zB3, zC3]
  refine tA3 (some 22) 13 rfl rfl hS0 ?_
  try simp only [Act.put, zA3, zB3, zC3]
  refine tA3 (some 23) 14 rfl rfl hS0 ?_
  try simp only [Act.put, zA3, zB3, zC3]
  refine tG3 (some 24) 15 undef rfl rfl (Or.inr ⟨by rfl, rfl⟩) hS0 ?_
  try simp only [Act.put, zA3, zB3, zC3]
  refine tG3 (some 25) 16 undef rfl rfl (Or.inr ⟨by rfl, rfl⟩) hS0 ?_
  try simp only [Act.put, zA3, zB3, zC3]
  refine tG3 (some 26) 17 undef rfl rfl (Or.inr ⟨by rfl, rfl⟩) hS0 ?_
  try simp only [Act.put, zA3, zB3, zC3]
  refine tG3 (some 27) 18 undef rfl rfl (Or.inr ⟨by rfl, rfl⟩) hS0 ?_
  try simp only [Act.put, zA3, zB3, zC3]
  refine tG3 (some 28) 19 undef rfl rfl (Or.inr ⟨by rfl, rfl⟩) hS0 ?_
  try simp only [Act.put, zA3, zB3, zC3]
  refine tG3 (some 29) 20 undef rfl rfl (Or.inr ⟨by rfl, rfl⟩) hS0 ?_
  try simp only [Act.put, zA3, zB3, zC3]
  refine tG3 (some 30) 21 undef rfl rfl (Or.inr ⟨by rfl, rfl⟩) hS0 ?_
  try simp only [Act.put, zA3, zB3, zC3]
  refine tG3 (some 31) 22 undef rfl rfl (Or.inr ⟨by rfl, rfl⟩) hS0 ?_
  try simp only [Act.put, zA3, zB3, zC3]
  refine tA3 (some 32) 23 rfl rfl hS0 ?_
  try simp only [Act.put, zA3, zB3, zC3]
  refine tA3 (some 8) 24 rfl rfl hS0 ?_
  try simp only [Act.put, zA3, zB3, zC3]
  refine wpAnyH_done (by kernel_rfl) ?_ _
  go_wp2_with fail
  go_ret
  exact ⟨ret_b HV.out, HB.out _ kd⟩
 | true =>
 have HSD := hid hsd
 cases rt with
 | false =>
  have HV : Hid (false = holdsB h lv l V) := hid (by rw [HR.out, hsd]; rfl)
  clear hsd
  clear HR
  refine wp_region_held_drew (S := fun wx => OrdB wx B h ∧ RelAt wx w.heap.size 98 V) (by kernel_rfl) (HS.out _ kd) (fun hS0 => ?_)
  refine tA3 (some 9) 0 rfl rfl hS0 ?_
  try simp only [Act.put, zA3, zB3, zC3]
  refine rD3 1 rfl (fun K hK => ?_)
  go_simp
  refine (CI.out _).mono ?_
  rintro e q1 ⟨rfl, rfl⟩
  show K _ _
  refine hK.out _ _ hS0 (fun _ => ?_)
  clear hK K
  refine tA3 (some 11) 2 rfl rfl hS0 ?_
  try simp only [Act.put, zA3, zB3, zC3]
  refine tG3 (some 12) 3 ?vc3 rfl rfl (Or.inl ⟨by rfl, ?hc3⟩) hS0 ?rc3
  case hc3 => (intro w hw; have hn := hw.1.cS; rw [HSD.out] at hn; have hm := hw.1.cN; go_simp; try (with_reducible rfl))
  try simp only [Act.put, zA3, zB3, zC3]
  refine tG3 (some 13) 4 ?vc4 rfl rfl (Or.inl ⟨by rfl, ?hc4⟩) hS0 ?rc4
  case hc4 => (intro w hw; have hn := hw.1.cS; rw [HSD.out] at hn; have hm := hw.1.cN; go_simp; try (with_reducible rfl))
  try simp only [Act.put, zA3, zB3, zC3]
  refine tG3 (some 14) 5 ?vc5 rfl rfl (Or.inl ⟨by rfl, ?hc5⟩) hS0 ?rc5
  case hc5 => (intro w hw; have hn := hw.1.cS; rw [HSD.out] at hn; have hm := hw.1.cN; go_simp; try (with_reducible rfl))
  try simp only [Act.put, zA3, zB3, zC3]
  refine tG3 (some 15) 6 ?vc6 rfl rfl (Or.inl ⟨by rfl, ?hc6⟩) hS0 ?rc6
  case hc6 => (intro w hw; have hn := hw.1.cS; rw [HSD.out] at hn; have hm := hw.1.cN; go_simp; try (with_reducible rfl))
  try simp only [Act.put, zA3, zB3, zC3]
  refine tA3 (some 16) 7 rfl rfl hS0 ?_
  try simp only [Act.put, zA3, zB3, zC3]
  refine tA3 (some 17) 8 rfl rfl hS0 ?_
  try simp only [Act.put, zA3, zB3, zC3]
  refine tA3 (some 18) 9 rfl rfl hS0 ?_
  try simp only [Act.put, zA3, zB3, zC3]
  refine tA3 (some 19) 10 rfl rfl hS0 ?_
  try simp only [Act.put, zA3, zB3, zC3]
  refine tG3 (some 20) 11 _ rfl rfl (yields_rel (by rfl) _ rfl rfl (fun wx hx => hx.2)) hS0 ?_
  try simp only [Act.put, zA3, zB3, zC3]
  refine rD3 12 rfl (fun K hK => ?_)
  go_simp
  refine (CR.out _ kd).mono ?_
  rintro e q2 ⟨rfl, hq2⟩
  show K _ _
  have k2 := below_then kd hq2
  have s2 := HS.out _ k2
  refine hK.out _ _ s2 (fun _ => ?_)
  clear hK K
  refine tA3 (some 22) 13 rfl rfl s2 ?_
  try simp only [Act.put, zA3, zB3, zC3]
  refine tA3 (some 23) 14 rfl rfl s2 ?_
  try simp only [Act.put, zA3, zB3, zC3]
  refine tG3 (some 24) 15 undef rfl rfl (Or.inr ⟨by rfl, rfl⟩) s2 ?_
  try simp only [Act.put, zA3, zB3, zC3]
  refine tG3 (some 25) 16 undef rfl rfl (Or.inr ⟨by rfl, rfl⟩) s2 ?_
  try simp only [Act.put, zA3, zB3, zC3]
  refine tG3 (some 26) 17 undef rfl rfl (Or.inr ⟨by rfl, rfl⟩) s2 ?_
  try simp only [Act.put, zA3, zB3, zC3]
  refine tG3 (some 27) 18 undef rfl rfl (Or.inr ⟨by rfl, rfl⟩) s2 ?_
  try simp only [Act.put, zA3, zB3, zC3]
  refine tG3 (some 28) 19 undef rfl rfl (Or.inr ⟨by rfl, rfl⟩) s2 ?_
  try simp only [Act.put, zA3, zB3, zC3]
  refine tG3 (some 29) 20 undef rfl rfl (Or.inr ⟨by rfl, rfl⟩) s2 ?_
  try simp only [Act.put, zA3, zB3, zC3]
  refine tG3 (some 30) 21 undef rfl rfl (Or.inr ⟨by rfl, rfl⟩) s2 ?_
  try simp only [Act.put, zA3, zB3, zC3]
  refine tG3 (some 31) 22 undef rfl rfl (Or.inr ⟨by rfl, rfl⟩) s2 ?_
  try simp only [Act.put, zA3, zB3, zC3]
  refine tA3 (some 32) 23 rfl rfl s2 ?_
  try simp only [Act.put, zA3, zB3, zC3]
  refine tA3 (some 8) 24 rfl rfl s2 ?_
  try simp only [Act.put, zA3, zB3, zC3]
  refine wpAnyH_done (by kernel_rfl) ?_ _
  go_wp2_with fail
  go_ret
  exact ⟨ret_b HV.out, HB.out _ k2⟩
 | true =>
 by_cases h0 : lackN na nk = 0
 ·have HV : Hid (true = holdsB h lv l V) := hid (by rw [HR.out, hsd, decide_eq_true h0]; rfl)
  have hlk : bits .andNot .i64 (na : Int) (nk : Int) = 0 := by rw [HLK.out]; exact congrArg Nat.cast h0
  clear HR h0 hsd
  refine wp_region_held_drew (S := fun wx => OrdB wx B h ∧ RelAt wx w.heap.size 98 V) (by kernel_rfl) (HS.out _ kd) (fun hS0 => ?_)
  refine tA3 (some 9) 0 rfl rfl hS0 ?_
  try simp only [Act.put, zA3, zB3, zC3]
  refine rD3 1 rfl (fun K hK => ?_)
  go_simp
  refine (CI.out _).mono ?_
  rintro e q1 ⟨rfl, rfl⟩
  show K _ _
  refine hK.out _ _ hS0 (fun _ => ?_)
  clear hK K
  refine tA3 (some 11) 2 rfl rfl hS0 ?_
  try simp only [Act.put, zA3, zB3, zC3]
  refine tG3 (some 12) 3 ?vd3 rfl rfl (Or.inl ⟨by rfl, ?hd3⟩) hS0 ?rd3
  case hd3 => (intro w hw; have hn := hw.1.cS; rw [HSD.out] at hn; have hm := hw.1.cN; go_simp; try (with_reducible rfl))
  try simp only [Act.put, zA3, zB3, zC3]
  refine tG3 (some 13) 4 ?vd4 rfl rfl (Or.inl ⟨by rfl, ?hd4⟩) hS0 ?rd4
  case hd4 => (intro w hw; have hn := hw.1.cS; rw [HSD.out] at hn; have hm := hw.1.cN; go_simp; try (with_reducible rfl))
  try simp only [Act.put, zA3, zB3, zC3]
  refine tG3 (some 14) 5 ?vd5 rfl rfl (Or.inl ⟨by rfl, ?hd5⟩) hS0 ?rd5
  case hd5 => (intro w hw; have hn := hw.1.cS; rw [HSD.out] at hn; have hm := hw.1.cN; go_simp; try (with_reducible rfl))
  try simp only [Act.put, zA3, zB3, zC3]
  refine tG3 (some 15) 6 ?vd6 rfl rfl (Or.inl ⟨by rfl, ?hd6⟩) hS0 ?rd6
  case hd6 => (intro w hw; have hn := hw.1.cS; rw [HSD.out] at hn; have hm := hw.1.cN; go_simp; try (with_reducible rfl))
  try simp only [Act.put, zA3, zB3, zC3]
  refine tA3 (some 16) 7 rfl rfl hS0 ?_
  try simp only [Act.put, zA3, zB3, zC3]
  refine tA3 (some 17) 8 rfl rfl hS0 ?_
  try simp only [Act.put, zA3, zB3, zC3]
  refine tA3 (some 18) 9 rfl rfl hS0 ?_
  try simp only [Act.put, zA3, zB3, zC3]
  refine tA3 (some 19) 10 rfl rfl hS0 ?_
  try simp only [Act.put, zA3, zB3, zC3]
  refine tG3 (some 20) 11 _ rfl rfl (yields_rel (by rfl) _ rfl rfl (fun wx hx => hx.2)) hS0 ?_
  try simp only [Act.put, zA3, zB3, zC3]
  refine rD3 12 rfl (fun K hK => ?_)
  go_simp
  refine (CR.out _ kd).mono ?_
  rintro e q2 ⟨rfl, hq2⟩
  show K _ _
  have k2 := below_then kd hq2
  have s2 := HS.out _ k2
  refine hK.out _ _ s2 (fun _ => ?_)
  clear hK K
  refine tA3 (some 22) 13 rfl rfl s2 ?_
  try simp only [Act.put, zA3, zB3, zC3]
  refine tA3 (some 23) 14 rfl rfl s2 ?_
  try simp only [Act.put, zA3, zB3, zC3]
  refine tA3 (some 24) 15 rfl rfl s2 ?_
  try simp only [Act.put, zA3, zB3, zC3]
  refine tA3 (some 26) 17 rfl rfl s2 ?_
  try simp only [Act.put, zA3, zB3, zC3]
  refine tA3 (some 27) 18 rfl rfl s2 ?_
  try simp only [Act.put, zA3, zB3, zC3]
  refine tG3 (some 28) 19 _ rfl rfl (yields_rel (by rfl) _ rfl rfl (fun wx hx => hx.2)) s2 ?_
  try simp only [Act.put, zA3, zB3, zC3]
  refine rD3 16 rfl (fun K hK => ?_)
  go_simp
  refine (CA.out _ k2).mono ?_
  rintro e q3 ⟨rfl, rfl⟩
  show K _ _
  refine hK.out _ _ s2 (fun _ => ?_)
  clear hK K
  refine rD3 20 rfl (fun K hK => ?_)
  go_simp
  refine (CK.out _ k2).mono ?_
  rintro e q4 ⟨rfl, hq4⟩
  show K _ _
  have k4 := below_then k2 hq4
  have s4 := HS.out _ k4
  refine hK.out _ _ s4 (fun _ => ?_)
  clear hK K
  refine tA3 (some 30) 21 rfl rfl s4 ?_
  try simp only [Act.put, zA3, zB3, zC3]
  refine tA3 (some 31) 22 rfl rfl s4 ?_
  try simp only [Act.put, zA3, zB3, zC3]
  refine tA3 (some 32) 23 rfl rfl s4 ?_
  try simp only [Act.put, zA3, zB3, zC3]
  refine tA3 (some 8) 24 rfl rfl s4 ?_
  try simp only [Act.put, zA3, zB3, zC3]
  refine wpAnyH_done (by kernel_rfl) ?_ _
  go_wp2_with fail
  go_ret
  exact ⟨ret_b HV.out, HB.out _ k4⟩
 ·have HV : Hid (false = holdsB h lv l V) := hid (by rw [HR.out, hsd, decide_eq_false h0]; rfl)
  obtain ⟨z, hz⟩ : ∃ z, z = lackN na nk := ⟨_, rfl⟩
  have hlk : bits .andNot .i64 (na : Int) (nk : Int) = (z : Int) := by rw [HLK.out, hz]; rfl
  have hz0 : ¬ (z : Int) = 0 := by rw [hz]; omega
  clear HR h0 hz hsd
  refine wp_region_held_drew (S := fun wx => OrdB wx B h ∧ RelAt wx w.heap.size 98 V) (by kernel_rfl) (HS.out _ kd) (fun hS0 => ?_)
  refine tA3 (some 9) 0 rfl rfl hS0 ?_
  try simp only [Act.put, zA3, zB3, zC3]
  refine rD3 1 rfl (fun K hK => ?_)
  go_simp
  refine (CI.out _).mono ?_
  rintro e q1 ⟨rfl, rfl⟩
  show K _ _
  refine hK.out _ _ hS0 (fun _ => ?_)
  clear hK K
  refine tA3 (some 11) 2 rfl rfl hS0 ?_
  try simp only [Act.put, zA3, zB3, zC3]
  refine tG3 (some 12) 3 ?ve3 rfl rfl (Or.inl ⟨by rfl, ?he3⟩) hS0 ?re3
  case he3 => (intro w hw; have hn := hw.1.cS; rw [HSD.out] at hn; have hm := hw.1.cN; go_simp; try (with_reducible rfl))
  try simp only [Act.put, zA3, zB3, zC3]
  refine tG3 (some 13) 4 ?ve4 rfl rfl (Or.inl ⟨by rfl, ?he4⟩) hS0 ?re4
  case he4 => (intro w hw; have hn := hw.1.cS; rw [HSD.out] at hn; have hm := hw.1.cN; go_simp; try (with_reducible rfl))
  try simp only [Act.put, zA3, zB3, zC3]
  refine tG3 (some 14) 5 ?ve5 rfl rfl (Or.inl ⟨by rfl, ?he5⟩) hS0 ?re5
  case he5 => (intro w hw; have hn := hw.1.cS; rw [HSD.out] at hn; have hm := hw.1.cN; go_simp; try (with_reducible rfl))
  try simp only [Act.put, zA3, zB3, zC3]
  refine tG3 (some 15) 6 ?ve6 rfl rfl (Or.inl ⟨by rfl, ?he6⟩) hS0 ?re6
  case he6 => (intro w hw; have hn := hw.1.cS; rw [HSD.out] at hn; have hm := hw.1.cN; go_simp; try (with_reducible rfl))
  try simp only [Act.put, zA3, zB3, zC3]
  refine tA3 (some 16) 7 rfl rfl hS0 ?_
  try simp only [Act.put, zA3, zB3, zC3]
  refine tA3 (some 17) 8 rfl rfl hS0 ?_
  try simp only [Act.put, zA3, zB3, zC3]
  refine tA3 (some 18) 9 rfl rfl hS0 ?_
  try simp only [Act.put, zA3, zB3, zC3]
  refine tA3 (some 19) 10 rfl rfl hS0 ?_
  try simp only [Act.put, zA3, zB3, zC3]
  refine tG3 (some 20) 11 _ rfl rfl (yields_rel (by rfl) _ rfl rfl (fun wx hx => hx.2)) hS0 ?_
  try simp only [Act.put, zA3, zB3, zC3]
  refine rD3 12 rfl (fun K hK => ?_)
  go_simp
  refine (CR.out _ kd).mono ?_
  rintro e q2 ⟨rfl, hq2⟩
  show K _ _
  have k2 := below_then kd hq2
  have s2 := HS.out _ k2
  refine hK.out _ _ s2 (fun _ => ?_)
  clear hK K
  refine tA3 (some 22) 13 rfl rfl s2 ?_
  try simp only [Act.put, zA3, zB3, zC3]
  refine tA3 (some 23) 14 rfl rfl s2 ?_
  try simp only [Act.put, zA3, zB3, zC3]
  refine tA3 (some 24) 15 rfl rfl s2 ?_
  try simp only [Act.put, zA3, zB3, zC3]
  refine tA3 (some 26) 17 rfl rfl s2 ?_
  try simp only [Act.put, zA3, zB3, zC3]
  refine tA3 (some 27) 18 rfl rfl s2 ?_
  try simp only [Act.put, zA3, zB3, zC3]
  refine tG3 (some 28) 19 _ rfl rfl (yields_rel (by rfl) _ rfl rfl (fun wx hx => hx.2)) s2 ?_
  try simp only [Act.put, zA3, zB3, zC3]
  refine rD3 16 rfl (fun K hK => ?_)
  go_simp
  refine (CA.out _ k2).mono ?_
  rintro e q3 ⟨rfl, rfl⟩
  show K _ _
  refine hK.out _ _ s2 (fun _ => ?_)
  clear hK K
  refine rD3 20 rfl (fun K hK => ?_)
  go_simp
  refine (CK.out _ k2).mono ?_
  rintro e q4 ⟨rfl, hq4⟩
  show K _ _
  have k4 := below_then k2 hq4
  have s4 := HS.out _ k4
  refine hK.out _ _ s4 (fun _ => ?_)
  clear hK K
  refine tA3 (some 30) 21 rfl rfl s4 ?_
  try simp only [Act.put, zA3, zB3, zC3]
  refine tA3 (some 31) 22 rfl rfl s4 ?_
  try simp only [Act.put, zA3, zB3, zC3]
  refine tA3 (some 32) 23 rfl rfl s4 ?_
  try simp only [Act.put, zA3, zB3, zC3]
  refine tA3 (some 8) 24 rfl rfl s4 ?_
  try simp only [Act.put, zA3, zB3, zC3]
  refine wpAnyH_done (by kernel_rfl) ?_ _
  go_wp2_with fail
  go_ret
  exact ⟨ret_b (((beq_eq_false_iff_ne).2 hz0).trans HV.out), HB.out _ k4⟩
end

section
theorem must_mono {S S' A : Mat} {tr tr' pf pf' : Bool} (hS : ∀ i j, S i j = true → S' i j = true) (ht : tr = true → tr' = true) (hp : pf = true → pf' = true) {i j : Nat} (h : Must S A tr pf i j) : Must S' A tr' pf' i j := by
 induction h with
 | base h => exact .base (hS _ _ h)
 | trans h1 hm _ _ ih1 ih2 => exact .trans (ht h1) hm ih1 ih2
 | pre h1 hm ha _ ih => exact .pre (hp h1) hm ha ih
theorem must_in {S A : Mat} {tr pf : Bool} {V : Nat → Nat → Prop} (hS : ∀ i j, i < 64 → j < 64 → S i j = true → V i j) (ht : tr = true → ∀ i m j, i < 64 → m < 64 → j < 64 → V i m → V m j → V i j)
  (hp : pf = true → ∀ i m j, i < 64 → m < 64 → j < 64 → A i m = true → V m j → V i j) {i j : Nat} (h : Must S A tr pf i j) (hi : i < 64) (hj : j < 64) : V i j := by
 induction h with
 | base h => exact hS _ _ hi hj h
 | trans h1 hm _ _ ih1 ih2 => exact ht h1 _ _ _ hi hm hj (ih1 hi hm) (ih2 hm hj)
 | pre h1 hm ha _ ih => exact hp h1 _ _ _ hi hm hj ha (ih hm hj)
theorem must_closed {S S' A : Mat} {tr tr' pf pf' tot : Bool} (hA : ∀ i j, i < 64 → j < 64 → Must S A tr pf i j → A i j = true) (hAt : ∀ i m j, i < 64 → m < 64 → j < 64 → A i m = true → A m j = true → A i j = true)
  (htot : tot = true → ∀ i j, i < 64 → j < 64 → A i j = true → S i j = true) (hS : ∀ i j, i < 64 → j < 64 → S' i j = true → S i j = true ∨ (tot = true ∧ A i j = true))
  (ht : tr' = true → tr = true ∨ pf = true ∨ tot = true) (hp : pf' = true → pf = true ∨ tot = true) {i j : Nat} (h : Must S' A tr' pf' i j) (hi : i < 64) (hj : j < 64) : Must S A tr pf i j := by
 refine must_in (V := fun i j => Must S A tr pf i j) ?_ ?_ ?_ h hi hj
 ·intro i j hi hj h
  rcases hS i j hi hj h with h | ⟨h1, h2⟩
  ·exact .base h
  ·exact .base (htot h1 i j hi hj h2)
 ·intro h i m j hi hm hj h1 h2
  rcases ht h with h | h | h
  ·exact .trans h hm h1 h2
  ·exact .pre h hm (hA i m hi hm h1) h2
  ·exact .base (htot h i j hi hj (hAt i m j hi hm hj (hA i m hi hm h1) (hA m j hm hj h2)))
 ·intro h i m j hi hm hj h1 h2
  rcases hp h with h | h
  ·exact .pre h hm h1 h2
  ·exact .base (htot h i j hi hj (hAt i m j hi hm hj h1 (hA m j hm hj h2)))
end

section
open Go.RowKit
def Ahead : List Int → Int → Int → Prop
 | [], _, _ => False
 | c :: L, a, b => Ahead L a b ∨ (c = a ∧ b ∈ L)
theorem Ahead.mem {a b : Int} : ∀ {L : List Int}, Ahead L a b → a ∈ L ∧ b ∈ L
 | [], h => h.elim
 | c :: L, h => by
  rcases h with h | ⟨rfl, h⟩
  ·exact ⟨List.mem_cons_of_mem _ (Ahead.mem h).1, List.mem_cons_of_mem _ (Ahead.mem h).2⟩
  ·exact ⟨List.mem_cons_self, List.mem_cons_of_mem _ h⟩
theorem ahead_at {a b : Int} : ∀ {L : List Int}, Ahead L a b ↔ ∃ i, i < L.length ∧ L.getD i 0 = a ∧ b ∈ L.drop (i + 1)
 | [] => by simp [Ahead]
 | c :: L => by
  unfold Ahead
  rw [ahead_at]
  constructor
  ·rintro (⟨i, hi, h1, h2⟩ | ⟨rfl, h⟩)
   ·exact ⟨i + 1, by simpa using hi, by simpa using h1, by simpa using h2⟩
   ·exact ⟨0, by simp, by simp, by simpa using h⟩
  ·rintro ⟨i, hi, h1, h2⟩
   cases i with
   | zero => exact .inr ⟨by simpa using h1, by simpa using h2⟩
   | succ i => exact .inl ⟨i, by simpa using hi, by simpa using h1, by simpa using h2⟩
theorem Ahead.trans {a m b : Int} : ∀ {L : List Int}, Ahead L a m → Ahead L m b → ¬ Ahead L m m → Ahead L a b
 | [], h, _, _ => h.elim
 | c :: L, h, k, hno => by
  rcases h with h | ⟨rfl, h⟩
  ·rcases k with k | ⟨rfl, k⟩
   ·exact .inl (Ahead.trans h k fun x => hno (.inl x))
   ·exact absurd (.inr ⟨rfl, h.mem.2⟩) hno
  ·rcases k with k | ⟨rfl, k⟩
   ·exact .inr ⟨rfl, k.mem.2⟩
   ·exact .inr ⟨rfl, k⟩
theorem behB_iff (L : List Int) (j : Nat) : behB L j = true ↔ (j : Int) ∈ L := by
 unfold behB
 rw [List.any_eq_true]
 constructor
 ·rintro ⟨a, ha, e⟩; rw [beq_iff_eq] at e; exact e ▸ ha
 ·intro h; exact ⟨_, h, by simp⟩
theorem chainR_iff (i j : Nat) : ∀ (L : List Int), chainR L i j = true ↔ Ahead L i j
 | [] => by simp [chainR, noR, Ahead]
 | c :: L => by
  show (chainR L i j || (c == (i : Int) && behB L j)) = true ↔ _
  rw [Bool.or_eq_true, Bool.and_eq_true, chainR_iff i j L, beq_iff_eq, behB_iff]; rfl
end

section
open Go.RowKit
theorem bc_of {h : List TxnV} (hc : checkI h = 0) {i : Nat} (hi : i < h.length) : h[i].b < h[i].c := by
 have h1 := (rowR_iff.1 (may_rows (may_of hc) i hi)).1
 unfold mayT at h1
 simp only [Bool.and_eq_true, decide_eq_true_eq] at h1
 omega
theorem ses_tim {h : List TxnV} (hc : checkI h = 0) {i k : Nat} (hi : i < h.length) (hk : k < h.length) (hik : i < k) (hs : h[i].s = h[k].s) : h[i].c < h[k].b := by
 have h1 := (rowR_iff.1 (may_rows (may_of hc) k hk)).2.1
 have h2 : h[i] ∈ h.take k := by
  rw [List.mem_take_iff_getElem]
  exact ⟨i, by omega, rfl⟩
 obtain ⟨⟨_, _, h3, _⟩, h4⟩ := (apartB_iff _ _).1 (List.all_eq_true.1 h1 _ h2)
 by_cases e : h[k].b < h[i].c
 ·exact absurd ⟨hs, e⟩ h4
 ·omega
theorem ses_in_tim {h : List TxnV} (hc : checkI h = 0) : inM (sesM h) (timM h) = true := by
 unfold inM inMTo
 rw [List.all_eq_true]
 intro i hi
 have hi := List.mem_range.1 hi
 rw [inB_iff (isSet_mkS _)]
 intro j hj hb
 rw [testBit_mkS] at hb ⊢
 simp only [hj, decide_true, Bool.true_and] at hb ⊢
 obtain ⟨h1, h2, h3⟩ := (prsTo_iff (sesP h) h.length i j hi hj h.length).1 hb
 refine (prsTo_iff (timP h) h.length i j hi hj h.length).2 ⟨h1, h2, ?_⟩
 unfold sesP at h3
 unfold timP
 rw [sAt_eq h1, sAt_eq h2] at h3
 simp only [Bool.and_eq_true, decide_eq_true_eq] at h3
 rw [cAt_eq h1, bAt_eq h2]
 exact decide_eq_true (ses_tim hc h1 h2 h3.1 h3.2)
end

end Go.Proofs.YtmcicfdnmfbimaaGreatDoor
