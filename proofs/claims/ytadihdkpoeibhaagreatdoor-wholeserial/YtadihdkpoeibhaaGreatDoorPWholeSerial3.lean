/- Walks and plain facts that the proof of the statement WholeSerial uses, joined: HisR OrdV OrdZ OrdAC LeaD RelS RelT LeaE RelX RelY LeaF LeaG AxiA. Conditions: each theorem's own. -/
import Derived.Deep.AppendLies
import Derived.Deep.LoopGhost
import Derived.ChangeKeysEq
import Derived.Deep.RegionLaw
import Derived.Test.YtadihdkpoeibhaaGreatDoorPWholeSerial2
namespace Go.Proofs.YtadihdkpoeibhaaGreatDoor
set_option maxHeartbeats 32000000
set_option maxRecDepth 100000
open Lib (hid)
section
open Go.RowKit
theorem wrI_at {key x : Int} {h : List TxnV} (hn : ¬ wrI key x h < 0) : ∃ i, ∃ hi : i < h.length, wrI key x h = i ∧ ∃ o ∈ h[i].l, isWr key x o = true := by
 unfold wrI at hn ⊢
 cases hf : h.findIdx? (fun t => t.l.any (isWr key x)) with
 | none => rw [hf] at hn; exact absurd (by decide) hn
 | some i =>
  rw [List.findIdx?_eq_some_iff_getElem] at hf
  obtain ⟨hi, h1, _⟩ := hf
  obtain ⟨o, ho, hw⟩ := List.any_eq_true.1 h1
  exact ⟨i, hi, rfl, o, ho, hw⟩
theorem isWr_iff {key x : Int} {o : OpV} : isWr key x o = true ↔ o.wr = true ∧ o.key = key ∧ o.val = x := by unfold isWr; simp
theorem may_rows {h : List TxnV} (hm : mayRef h = true) : ∀ k, ∀ hk : k < h.length, rowR h k h[k] = true := fun k hk => by
 have := List.all_eq_true.1 hm k (List.mem_range.2 hk)
 rwa [List.getElem?_eq_getElem hk] at this
theorem rowR_iff {h : List TxnV} {k : Nat} {t : TxnV} : rowR h k t = true ↔ mayT t.s t.b t.c t.l = true ∧ (h.take k).all (fun a => apartB a t) = true ∧ ∀ o ∈ t.l, opR h o = true := by
 unfold rowR
 rw [Bool.and_eq_true, Bool.and_eq_true, List.all_eq_true (p := opR h)]
theorem may_wr {h : List TxnV} (hm : mayRef h = true) {i : Nat} (hi : i < h.length) {o : OpV} (ho : o ∈ h[i].l) (wo : o.wr = true) : wrTo h h.length o.val = some ⟨i, o.key, vOf h[i].l o.key == o.val⟩ := by
 obtain ⟨hw, hk⟩ := may_parts hm
 exact wrTo_at hk h.length (Nat.le_refl _) (by rw [List.take_length]; unfold okW at hw; simpa using hw) i hi hi o ho wo
theorem reads_F {h : List TxnV} (hm : mayRef h = true) {k : Nat} (hk : k < h.length) {o : OpV} (ho : o ∈ h[k].l) (wo : o.wr = false) :
  (o.val = 0 ∧ wrTo h h.length 0 = none) ∨ (o.val ≠ 0 ∧ ∃ u, wrTo h h.length o.val = some u ∧ u.key = o.key ∧ wrI o.key o.val h = u.i) := by
 by_cases h0 : o.val = 0
 ·refine .inl ⟨h0, ?_⟩
  cases hF : wrTo h h.length 0 with
  | none => rfl
  | some u =>
   obtain ⟨p, hp, hpv, _⟩ := real_wr h h.length (Nat.le_refl _) 0 u hF
   obtain ⟨t, ht, hpt, hpw⟩ := wrs_mem.1 hp
   obtain ⟨i, hi, rfl⟩ := List.getElem_of_mem ht
   have h1 := (rowR_iff.1 (may_rows hm i hi)).1
   unfold mayT at h1
   simp only [Bool.and_eq_true] at h1
   have h2 := (mayO_iff p).1 (List.all_eq_true.1 h1.2 p hpt)
   exact absurd hpv (h2.2.2 hpw)
 ·refine .inr ⟨h0, ?_⟩
  have h1 := (rowR_iff.1 (may_rows hm k hk)).2.2 o ho
  unfold opR at h1
  rw [wo] at h1
  have h2 : ¬ wrI o.key o.val h < 0 := by simpa [h0] using h1
  obtain ⟨i, hi, he, p, hp, hpw⟩ := wrI_at h2
  obtain ⟨q1, q2, q3⟩ := isWr_iff.1 hpw
  have h3 := may_wr hm hi hp q1
  rw [q3, q2] at h3
  exact ⟨_, h3, rfl, he⟩
end

section
open Go.RowKit
theorem may_of {h : List TxnV} (hc : checkI h = 0) : mayRef h = true := by
 rw [← right_ref]
 unfold checkI at hc
 split at hc
 ·cases hc
 ·cases hr : rightB h with
  | true => rfl
  | false => rw [hr] at hc; cases hc
theorem from_same {h : List TxnV} (hc : checkI h = 0) {k : Nat} (hk : k < h.length) {o : OpV} (ho : o ∈ h[k].l) (wo : o.wr = false) : fromO (wrTo h h.length) o.val = fromR h o := by
 unfold fromO fromR
 rcases reads_F (may_of hc) hk ho wo with ⟨h0, hn⟩ | ⟨h0, u, hu, _, hw⟩
 ·rw [if_pos h0, h0, hn]; rfl
 ·rw [if_neg h0, hu, hw]; rfl
theorem rd_congr {h : List TxnV} {F : Int → Option WV} {i : Int} : ∀ (l : List OpV), (∀ o ∈ l, fromO F o.val = fromR h o) → rdFr F i l = rdR h i l
 | [], _ => rfl
 | a :: l, hl => by
  have ih := rd_congr (i := i) l (fun o ho => hl o (List.mem_cons_of_mem _ ho))
  have ha := hl a List.mem_cons_self
  unfold rdFr rdR at *
  rw [List.filter_cons, List.filter_cons, ha]
  split
  ·rw [List.map_cons, List.map_cons, ih, ha]
  ·exact ih
theorem refReads_in {l : List OpV} {o : OpV} (ho : o ∈ refReads l) : o ∈ l ∧ o.wr = false := by
 obtain ⟨k, _, hk⟩ := upTo_mem.1 ho
 obtain ⟨h1, h2⟩ := rdK_some.1 hk
 exact ⟨(firstO_key h1).2, h2⟩
theorem reads_same {h : List TxnV} (hc : checkI h = 0) {k : Nat} (hk : k < h.length) : readsOf h k = rdR h k (refReads h[k].l) := by
 unfold readsOf
 rw [opsAt_eq hk]
 refine rd_congr _ fun o ho => ?_
 obtain ⟨h1, h2⟩ := refReads_in ho
 exact from_same hc hk h1 h2
end

section
open Go.RowKit
theorem rivS_bit (F : Int → Option Nat) (j : Nat) : ∀ (xs : List Int) (s : Nat), (xs.foldl (fun s x => s ||| (F x).getD 0) s).testBit j = (s.testBit j || xs.any fun x => ((F x).getD 0).testBit j)
 | [], s => by simp
 | x :: xs, s => by
  rw [List.foldl_cons, rivS_bit F j xs, Nat.testBit_or, List.any_cons, Bool.or_assoc]
theorem wrsRow_bit (i : Nat) (hi : i < 64) (j : Nat) (y : Int) : ∀ (xs : List Int) (F : Int → Option Nat), ((wrsRow i F xs y).getD 0).testBit j = (((F y).getD 0).testBit j || (decide (y ∈ xs) && decide (i = j)))
 | [], F => by simp [wrsRow]
 | x :: xs, F => by
  have ih := wrsRow_bit i hi j y xs (putF F x (withS ((F x).getD 0) i))
  show ((wrsRow i (putF F x (withS ((F x).getD 0) i)) xs y).getD 0).testBit j = _
  rw [ih]
  by_cases e : y = x
  ·subst e
   rw [putF_same, Option.getD_some, testBit_withS, Int.toNat_natCast]
   have : decide (0 ≤ (i : Int) ∧ (i : Int) < 64) = true := by simp; omega
   rw [this]
   cases ((F y).getD 0).testBit j <;> by_cases h : i = j <;> simp [h]
  ·rw [putF_other F _ e]
   simp [e]
theorem wrsTo_bit (K : List KRow) (j : Nat) (y : Int) : ∀ m, m ≤ 64 → m ≤ K.length → ((wrsTo K m y).getD 0).testBit j = (decide (j < m) && decide (y ∈ ((K[j]?).map (·.2)).getD []))
 | 0, _, _ => by simp [wrsTo]
 | m + 1, h64, hm => by
  have ih := wrsTo_bit K j y m (by omega) (by omega)
  have hlt : m < K.length := by omega
  rw [wrsTo_succ hlt, wrsRow_bit m (by omega) j y, ih]
  by_cases e : m = j
  ·subst e
   simp [List.getElem?_eq_getElem hlt]
  ·by_cases h : j < m
   ·have h2 : j < m + 1 := by omega
    simp [h, h2, e]
   ·have h2 : ¬ j < m + 1 := by omega
    simp [h, h2, e]
theorem keysOf_iff {h : List TxnV} (hc : checkI h = 0) {i : Nat} (hi : i < h.length) (y : Int) : y ∈ keysOf (opsAt h i) ↔ wrsR h i y = true := by
 unfold keysOf wrsR vOf
 generalize hl : opsAt h i = l
 rw [opsAt_eq hi] at hl
 constructor
 ·intro hy
  obtain ⟨o, ho, rfl⟩ := List.mem_map.1 hy
  cases hf : (refWrites l).find? (fun p => p.key == o.key) with
  | none => have := List.find?_eq_none.1 hf o ho; simp at this
  | some p =>
   have hp := List.mem_of_find?_eq_some hf
   obtain ⟨h1, h2⟩ := refWrites_mem hp
   have h3 := (rowR_iff.1 (may_rows (may_of hc) i hi)).1
   unfold mayT at h3
   simp only [Bool.and_eq_true] at h3
   have h4 := (mayO_iff p).1 (List.all_eq_true.1 h3.2 p (by rw [hl]; exact h1))
   simpa using h4.2.2 h2
 ·intro hy
  cases hf : (refWrites l).find? (fun p => p.key == y) with
  | none => rw [hf] at hy; simp at hy
  | some p =>
   have hp := List.mem_of_find?_eq_some hf
   have hk := List.find?_some hf
   exact List.mem_map.2 ⟨p, hp, by simpa using hk⟩
theorem keys_at {h : List TxnV} {K : List KRow} (hK : K.map (·.2) = keysTo h h.length) {k : Nat} (hk : k < h.length) : ((K[k]?).map (·.2)).getD [] = keysOf (opsAt h k) := by
 rw [← List.getElem?_map, hK]
 unfold keysTo
 simp [hk]
theorem keys_len {h : List TxnV} {K : List KRow} (hK : K.map (·.2) = keysTo h h.length) : K.length = h.length := by
 have := congrArg List.length hK
 simpa [keysTo] using this
theorem riv_same {h : List TxnV} {K : List KRow} (hc : checkI h = 0) (hK : K.map (·.2) = keysTo h h.length) {i k : Nat} (hi : i < h.length) (hk : k < h.length) (hne : i ≠ k) :
  hasB (woS (rivS (wrsTo K K.length) (((K[i]?).map (·.2)).getD [])) (i : Int)) (k : Int) = rivR h i k := by
 obtain ⟨h64, _, _, hks⟩ := check_zero hc
 have hl := keys_len hK
 unfold hasB
 rw [Int.toNat_natCast, testBit_woS, Int.toNat_natCast]
 have e1 : decide (0 ≤ (k : Int) ∧ (k : Int) < 64) = true := by simp; omega
 rw [e1, Bool.true_and]
 have e2 : decide (i = k) = false := decide_eq_false hne
 rw [e2, Bool.and_false, Bool.not_false, Bool.and_true]
 unfold rivS
 rw [rivS_bit, Nat.zero_testBit, Bool.false_or, keys_at hK hi, Bool.eq_iff_iff, List.any_eq_true]
 unfold rivR
 rw [List.any_eq_true]
 have hb : ∀ y, ((wrsTo K K.length y).getD 0).testBit k = true ↔ wrsR h k y = true := fun y => by
  rw [wrsTo_bit K k y K.length (by omega) (Nat.le_refl _), keys_at hK hk]
  have : k < K.length := by omega
  simp only [this, decide_true, Bool.true_and, decide_eq_true_eq]
  exact keysOf_iff hc hk y
 constructor
 ·rintro ⟨y, hy, hbt⟩
  have h1 := (keysOf_iff hc hi y).1 hy
  have h2 := (hb y).1 hbt
  obtain ⟨o, ho, rfl⟩ := List.mem_map.1 hy
  have h3 := (refWrites_mem ho).1
  rw [opsAt_eq hi] at h3
  obtain ⟨h4, h5⟩ := hks _ (List.getElem_mem hi) o h3
  refine ⟨o.key.toNat, List.mem_range.2 (by omega), ?_⟩
  rw [Int.toNat_of_nonneg h4, h1, h2]; rfl
 ·rintro ⟨n, _, hn⟩
  rw [Bool.and_eq_true] at hn
  exact ⟨(n : Int), (keysOf_iff hc hi _).2 hn.1, (hb _).2 hn.2⟩
end

section
open Go.RowKit
def rivB (h : List TxnV) (i k : Nat) : Bool := decide (i < h.length) && (decide (k < h.length) && (decide (i ≠ k) && rivR h i k))
def rivN (h : List TxnV) (i : Nat) : Nat := mkS (rivB h i)
theorem rivN_set (h : List TxnV) (i : Nat) : IsSet (rivN h i) := isSet_mkS _
theorem rivN_none {h : List TxnV} {i : Nat} (hi : h.length ≤ i) : rivN h i = 0 := by
 unfold rivN
 have : rivB h i = fun _ => false := by
  funext k
  unfold rivB
  rw [decide_eq_false (by omega)]; rfl
 rw [this]; exact mkS_false
theorem keys_int {h : List TxnV} {K : List KRow} (hc : checkI h = 0) (hK : K.map (·.2) = keysTo h h.length) : ∀ p ∈ K, ∀ x ∈ p.2, InI x := by
 obtain ⟨_, _, _, hks⟩ := check_zero hc
 intro p hp x hx
 have h1 : p.2 ∈ keysTo h h.length := by rw [← hK]; exact List.mem_map.2 ⟨p, hp, rfl⟩
 unfold keysTo at h1
 obtain ⟨i, hi, e⟩ := List.mem_map.1 h1
 have hi := List.mem_range.1 hi
 rw [← e] at hx
 unfold keysOf at hx
 obtain ⟨o, ho, rfl⟩ := List.mem_map.1 hx
 have h2 := (refWrites_mem ho).1
 rw [opsAt_eq hi] at h2
 obtain ⟨h3, h4⟩ := hks _ (List.getElem_mem hi) o h2
 refine inI_of ?_
 unfold IntOk
 omega
theorem riv_eq {h : List TxnV} {K : List KRow} (hc : checkI h = 0) (hK : K.map (·.2) = keysTo h h.length) {i : Nat} (hi : i < h.length) (hA : AllSet (wrsTo K K.length)) :
  woS (rivS (wrsTo K K.length) (((K[i]?).map (·.2)).getD [])) (i : Int) = rivN h i := by
 have hl := keys_len hK
 have h64 := (check_zero hc).1
 refine mkS_eq ?_ (fun k hk => ?_)
 ·have h1 : IsSet (rivS (wrsTo K K.length) (((K[i]?).map (·.2)).getD [])) := by
   have := rivS_set hA (((K[i]?).map (·.2)).getD []) (((K[i]?).map (·.2)).getD []).length (Nat.le_refl _)
   rwa [List.take_length] at this
  exact isSet_woS h1
 ·by_cases hkn : k < h.length
  ·by_cases e : i = k
   ·subst e
    unfold rivB
    rw [testBit_woS, Int.toNat_natCast]
    simp; intros; omega
   ·have h2 := riv_same hc hK hi hkn e
    unfold hasB at h2
    rw [Int.toNat_natCast] at h2
    have e1 : decide (0 ≤ (k : Int) ∧ (k : Int) < 64) = true := by simp; omega
    rw [e1, Bool.true_and] at h2
    rw [h2]
    unfold rivB
    simp [hi, hkn, e]
  ·rw [testBit_woS]
   have h3 : (rivS (wrsTo K K.length) (((K[i]?).map (·.2)).getD [])).testBit k = false := by
    unfold rivS
    rw [rivS_bit, Nat.zero_testBit, Bool.false_or]
    refine List.any_eq_false.2 (fun y _ => ?_)
    rw [wrsTo_bit K k y K.length (by omega) (Nat.le_refl _)]
    have : ¬ k < K.length := by omega
    simp [this]
   rw [h3]
   unfold rivB
   simp [hkn]
theorem ordis_rivals {w : World} {B b : Nat} {h : List TxnV} (hO : OrdIs w B b h) (hc : checkI h = 0) (i : Nat) :
  Calls Tryz.prog 209 #[.pointer (some ⟨B, 0, none⟩), .int .i64 i] w fun e w' => e = .returned (.int .u64 ((rivN h i : Nat) : Int)) ∧ Below w.heap.size w w' := by
 obtain ⟨bm, m, c, vk, vr, K, R, h1, h2, h3, h4, h5, h6⟩ := hO
 have hl := keys_len h5
 by_cases hi : i < h.length
 ·have hiK : i < K.length := by omega
  have hh := orivals_any i h1 h2 h3 h4.rws (keys_int hc h5) hiK
  have e := riv_eq hc h5 hi h3
  rw [List.getElem?_eq_getElem hiK] at e
  simp only [Option.map_some, Option.getD_some] at e
  rw [e] at hh
  exact hh
 ·rw [rivN_none (by omega)]
  exact orivals_none (i : Int) h1 h4.rws (.inr (by omega))
end

section
open Go.RowKit
theorem yields_rel {ops : Array Oper} {S : World → Prop} {o : Oper} {a : Act} {g : Nat} {R : Mat} (hw : Region.wanted o (yielded ops a.tmps) = true) (x : Operand) (ho : o.op = .load 117 x)
  (hx : a.eval x = .pointer (some ⟨g, 0, none⟩)) (hS : ∀ w, S w → RelAt w g 117 R) : YieldsIf Tryz.prog ops S o (.agg (rowsA R)) a :=
 .inl ⟨hw, fun w hw' => by
  unfold execOp
  simp only [ho, hx, Instr.loadAt, Instr.sureAddr, Sem.run_bind, Sem.run_pure, Result.andThen_ok, run_loadVar_row w g _ _ _ _ _ (hS w hw') Tryz.underlying117 rfl (infoRel' _)]⟩
def rivM (h : List TxnV) (A : Mat) : Mat := fun i j => A i j && rivB h i j
def rivTo (h : List TxnV) (A : Mat) (k : Nat) : Mat := fun i j => if i < k then A i j && rivB h i j else A i j
theorem rivTo_step (h : List TxnV) (A : Mat) (k : Nat) : rowSet (rivTo h A k) k (fun j => A k j && rivB h k j) = rivTo h A (k + 1) := by
 funext i j
 unfold rowSet rivTo
 by_cases e : i = k
 ·subst e; rw [if_pos rfl, if_pos (by omega)]
 ·rw [if_neg e]
  by_cases e2 : i < k
  ·rw [if_pos e2, if_pos (by omega)]
  ·rw [if_neg e2, if_neg (by omega)]
theorem rivTo_at (h : List TxnV) (A : Mat) (k : Nat) : rivTo h A k k = A k := by funext j; unfold rivTo; rw [if_neg (by omega)]
theorem rivTo_end (h : List TxnV) (A : Mat) : rowsA (rivTo h A 64) = rowsA (rivM h A) := rowsA_congr fun i j hi _ => by unfold rivTo rivM; rw [if_pos hi]
theorem u64_and (p q : Nat → Bool) : Go.bits .and .u64 ((mkS p : Nat) : Int) ((mkS q : Nat) : Int) = ((mkS (fun j => p j && q j) : Nat) : Int) := by
 rw [Go.bits_and_u64_nat _ _ (isSet_mkS p) (isSet_mkS q)]
 congr 1
 refine mkS_eq (isSet_and (isSet_mkS p)) fun i hi => ?_
 rw [Nat.testBit_and, testBit_mkS, testBit_mkS, decide_eq_true hi]; rfl
theorem lrivals_any (A : Mat) (h : List TxnV) (B b : Nat) (w : World) (hO : OrdIs w B b h) (hc : checkI h = 0) :
  Calls Tryz.prog 176 #[.pointer (some ⟨B, 0, none⟩), .agg (rowsA A)] w fun e w' => e = .returned (.agg (rowsA (rivM h A))) ∧ Below w.heap.size w w' := by
 have CRH := hid (fun (i : Nat) wx (hx : Below w.heap.size w wx) => ordis_rivals (hO.below hx) hc i)
 have e0 : rowsA A = rowsA (rivTo h A 0) := rowsA_congr fun i j _ _ => by unfold rivTo; rw [if_neg (by omega)]
 have r0 : RelAt (w.alloc (.cells (rowsA A) 117)) w.heap.size 117 (rivTo h A 0) := RelAt.made w _ _ rfl e0
 have z0 := zero_block (w.alloc (.cells (rowsA A) 117))
 rw [show (w.alloc (.cells (rowsA A) 117)).heap.size = w.heap.size + 1 from by simp] at z0
 have r0 := r0.alloc (.cells #[.int .u64 0, .int .u64 0, .int .u64 0, .int .u64 0, .int .u64 0, .int .u64 0, .int .u64 0, .int .u64 0, .int .u64 0, .int .u64 0, .int .u64 0, .int .u64 0, .int .u64 0, .int .u64 0, .int .u64 0, .int .u64 0, .int .u64 0, .int .u64 0, .int .u64 0, .int .u64 0, .int .u64 0, .int .u64 0, .int .u64 0, .int .u64 0, .int .u64 0, .int .u64 0, .int .u64 0, .int .u64 0, .int .u64 0, .int .u64 0, .int .u64 0, .int .u64 0, .int .u64 0, .int .u64 0, .int .u64 0, .int .u64 0, .int .u64 0, .int .u64 0, .int .u64 0, .int .u64 0, .int .u64 0, .int .u64 0, .int .u64 0, .int .u64 0, .int .u64 0, .int .u64 0, .int .u64 0, .int .u64 0, .int .u64 0, .int .u64 0, .int .u64 0, .int .u64 0, .int .u64 0, .int .u64 0, .int .u64 0, .int .u64 0, .int .u64 0, .int .u64 0, .int .u64 0, .int .u64 0, .int .u64 0, .int .u64 0, .int .u64 0, .int .u64 0] 117)
 have hb0 := (box_below w (.cells (rowsA A) 117)).alloc (by simp) (.cells #[.int .u64 0, .int .u64 0, .int .u64 0, .int .u64 0, .int .u64 0, .int .u64 0, .int .u64 0, .int .u64 0, .int .u64 0, .int .u64 0, .int .u64 0, .int .u64 0, .int .u64 0, .int .u64 0, .int .u64 0, .int .u64 0, .int .u64 0, .int .u64 0, .int .u64 0, .int .u64 0, .int .u64 0, .int .u64 0, .int .u64 0, .int .u64 0, .int .u64 0, .int .u64 0, .int .u64 0, .int .u64 0, .int .u64 0, .int .u64 0, .int .u64 0, .int .u64 0, .int .u64 0, .int .u64 0, .int .u64 0, .int .u64 0, .int .u64 0, .int .u64 0, .int .u64 0, .int .u64 0, .int .u64 0, .int .u64 0, .int .u64 0, .int .u64 0, .int .u64 0, .int .u64 0, .int .u64 0, .int .u64 0, .int .u64 0, .int .u64 0, .int .u64 0, .int .u64 0, .int .u64 0, .int .u64 0, .int .u64 0, .int .u64 0, .int .u64 0, .int .u64 0, .int .u64 0, .int .u64 0, .int .u64 0, .int .u64 0, .int .u64 0, .int .u64 0] 117)
 clear hO hc e0
 go_enter Tryz.func176, Tryz.ntmps176
 go_wp2_with fail
 go_loopw [6] (fun i wr => ∃ k : Nat, k ≤ 64 ∧ i = .int .i64 k ∧ RelAt wr w.heap.size 117 (rivTo h A k) ∧ RelAt wr (w.heap.size + 1) 117 noR ∧ Below w.heap.size w wr) (fun i _ => 64 - (intOf i).toNat)
 case atStart => exact ⟨0, by omega, rfl, r0, z0, hb0⟩
 case round =>
  obtain ⟨k, hk, rfl, hR, hz, hb⟩ := hrel
  clear r0 z0 hb0
  by_cases hlt : k < 64
  ·have hki : (k : Int) < 64 := by omega
   have hda : decide ((k : Int) < 64) = true := decide_eq_true hki
   have kd := (Below.refl wr.heap.size wr).drew
   have HAND : Go.bits .and .u64 ((mkS (rivTo h A k k) : Nat) : Int) ((rivN h k : Nat) : Int) = ((mkS (fun j => A k j && rivB h k j) : Nat) : Int) := by rw [rivTo_at]; exact u64_and _ _
   have HR : Hid (∀ wx, Below wr.heap.size wr wx → RelAt wx w.heap.size 117 (rivTo h A k)) := hid (fun wx hx => hR.below hx hR.lt)
   have CR := hid (fun wx (hx : Below wr.heap.size wr wx) => CRH.out k wx (hb.trans (hx.mono hb.size)))
   have HS : Hid (∀ wx, Below wr.heap.size wr wx → True) := hid (fun _ _ => trivial)
   have HN : Hid (∀ wx, Below wr.heap.size wr wx → RelAt (wx.setCell ⟨w.heap.size, k, none⟩ (.int .u64 ((mkS (fun j => A k j && rivB h k j) : Nat) : Int))) w.heap.size 117 (rivTo h A (k + 1))) := hid (fun wx hx => by
    have := (hR.below hx hR.lt).store k _ (fun j => A k j && rivB h k j) rfl
    rwa [rivTo_step] at this)
   have HBS : Hid (∀ wx, Below wr.heap.size wr wx → Below w.heap.size w (wx.setCell ⟨w.heap.size, k, none⟩ (.int .u64 ((mkS (fun j => A k j && rivB h k j) : Nat) : Int)))) := hid (fun wx hx => (hb.trans (hx.mono hb.size)).setCell (p := ⟨w.heap.size, k, none⟩) (Nat.le_refl _) _)
   have HZS : Hid (∀ wx, Below wr.heap.size wr wx → RelAt (wx.setCell ⟨w.heap.size, k, none⟩ (.int .u64 ((mkS (fun j => A k j && rivB h k j) : Nat) : Int))) (w.heap.size + 1) 117 noR) := hid (fun wx hx => (hz.below hx hz.lt).other (k := ⟨w.heap.size, k, none⟩) (by simp) _)
   clear hR hz hb CRH
   generalize mkS (fun j => A k j && rivB h k j) = z at *
   generalize rivN h k = y at *
   go_wp2_with fail
   refine wp_region_held_drew (S := fun _ => True) (by kernel_rfl) trivial (fun hS0 => ?_)
   refine tG (some 9) 0 ?v0 rfl rfl (Or.inl ⟨by rfl, ?h0⟩) hS0 ?r0
   case h0 => (intro w hw; go_simp; try (with_reducible rfl))
   try simp only [Act.put, zA, zB, zC]
   refine tG (some 10) 1 ?v1 rfl rfl (Or.inl ⟨by rfl, ?h1⟩) hS0 ?r1
   case h1 => (intro w hw; go_simp; try (with_reducible rfl))
   try simp only [Act.put, zA, zB, zC]
   refine tG (some 12) 3 ?v3 rfl rfl (Or.inl ⟨by rfl, ?h3⟩) hS0 ?r3
   case h3 => (intro w hw; go_simp; try (with_reducible rfl))
   try simp only [Act.put, zA, zB, zC]
   refine tG (some 13) 4 ?v4 rfl rfl (Or.inl ⟨by rfl, ?h4⟩) hS0 ?r4
   case h4 => (intro w hw; go_simp; try (with_reducible rfl))
   try simp only [Act.put, zA, zB, zC]
   refine wpAnyH_ready (rs := [2, 5]) (by kernel_rfl) (by simp) ?_
   refine AllReadyH.cons rfl (fun K hK => ?_) (AllReadyH.cons rfl (fun K hK => ?_) AllReadyH.nil)
   ·
    have hc2 := (HR.out _ kd).cell hlt
    go_simp
    refine hK.out _ _ hS0 (fun _ => ?_)
    clear hK K hc2
    refine rD 5 rfl (fun K hK => ?_)
    go_simp
    refine (CR.out _ kd).mono ?_
    rintro e q1 ⟨rfl, hq1⟩
    show K _ _
    have k1 := below_then kd hq1
    have s1 := HS.out _ k1
    refine hK.out _ _ s1 (fun _ => ?_)
    clear hK K
    refine rD 6 rfl (fun K hK => ?_)
    go_simp
    refine hK.out _ _ s1 (fun _ => ?_)
    clear hK K
    refine rD 7 rfl (fun K hK => ?_)
    go_simp
    refine hK.out _ _ s1 (fun _ => ?_)
    clear hK K
    refine rD 8 rfl (fun K hK => ?_)
    have hc8 := (HR.out _ k1).cell hlt
    have hf8 := (HR.out _ k1).free k
    go_simp
    refine hK.out _ _ trivial (fun _ => ?_)
    clear hK K hc8 hf8
    refine wpAnyH_done (by kernel_rfl) ?_ _
    have hR9 := HN.out _ k1
    have hb9 := HBS.out _ k1
    have hz9 := HZS.out _ k1
    clear HR CR HN HBS HZS HS kd
    go_wp2_with fail
    go_roundw
    case rel => exact ⟨k + 1, by omega, by go_num, hR9, hz9, hb9⟩
    case measure => simp [intOf]; omega
   ·
    go_simp
    refine (CR.out _ kd).mono ?_
    rintro e q2 ⟨rfl, hq2⟩
    show K _ _
    have k2 := below_then kd hq2
    have s2 := HS.out _ k2
    refine hK.out _ _ s2 (fun _ => ?_)
    clear hK K
    refine rD 2 rfl (fun K hK => ?_)
    have hc2 := (HR.out _ k2).cell hlt
    go_simp
    refine hK.out _ _ s2 (fun _ => ?_)
    clear hK K hc2
    refine rD 6 rfl (fun K hK => ?_)
    go_simp
    refine hK.out _ _ s2 (fun _ => ?_)
    clear hK K
    refine rD 7 rfl (fun K hK => ?_)
    go_simp
    refine hK.out _ _ s2 (fun _ => ?_)
    clear hK K
    refine rD 8 rfl (fun K hK => ?_)
    have hc8 := (HR.out _ k2).cell hlt
    have hf8 := (HR.out _ k2).free k
    go_simp
    refine hK.out _ _ trivial (fun _ => ?_)
    clear hK K hc8 hf8
    refine wpAnyH_done (by kernel_rfl) ?_ _
    have hR9 := HN.out _ k2
    have hb9 := HBS.out _ k2
    have hz9 := HZS.out _ k2
    clear HR CR HN HBS HZS HS kd
    go_wp2_with fail
    go_roundw
    case rel => exact ⟨k + 1, by omega, by go_num, hR9, hz9, hb9⟩
    case measure => simp [intOf]; omega
  ·have hk64 : k = 64 := by omega
   subst hk64
   go_wp2_with (first
    | (with_reducible refine wpList_load_rel hR rfl _ rfl rfl ?_)
    | (with_reducible refine wpList_store_rel hz (rivTo h A 64) rfl _ _ rfl rfl rfl ?_))
   have h3 := hz.setRow (rivTo h A 64)
   rw [rivTo_end] at h3
   exact bodyPost_ret (results_rel rfl _ _ _ _ rfl h3) rfl ⟨rfl, below_setRow hb (by omega) _⟩
def trB (x : Int) : Bool := decide (¬ bits .and .i64 x 2 = 0)
def pfB (x : Int) : Bool := decide (¬ bits .and .i64 x 4 = 0)
theorem lmore_any (x : Int) (V A : Mat) (w : World) (ht : Tab w) :
  Calls Tryz.prog 177 #[.agg (rowsA V), .agg (rowsA A), .int .i64 x] w fun e w' => e = .returned (.agg (rowsA (moreM V A (trB x) (pfB x)))) ∧ Below w.heap.size w w' := by
 have hg := ht.pos
 have HT : Hid (∀ wx, Below w.heap.size w wx → Tab wx) := hid (fun wx hb => ht.below hb hg)
 obtain ⟨q2, h2⟩ : ∃ q, bits .and .i64 x 2 = q := ⟨_, rfl⟩
 obtain ⟨q4, h4⟩ : ∃ q, bits .and .i64 x 4 = q := ⟨_, rfl⟩
 have HP2 : Hid (trB x = decide (¬ q2 = 0)) := hid (by unfold trB; rw [h2])
 have HP : Hid (pfB x = decide (¬ q4 = 0)) := hid (by unfold pfB; rw [h4])
 have z0 := (RelAt.made w 117 V rfl rfl)
 have z0 := (z0.alloc (.cells (rowsA A) 117)).alloc (.cells #[.int .u64 0, .int .u64 0, .int .u64 0, .int .u64 0, .int .u64 0, .int .u64 0, .int .u64 0, .int .u64 0, .int .u64 0, .int .u64 0, .int .u64 0, .int .u64 0, .int .u64 0, .int .u64 0, .int .u64 0, .int .u64 0, .int .u64 0, .int .u64 0, .int .u64 0, .int .u64 0, .int .u64 0, .int .u64 0, .int .u64 0, .int .u64 0, .int .u64 0, .int .u64 0, .int .u64 0, .int .u64 0, .int .u64 0, .int .u64 0, .int .u64 0, .int .u64 0, .int .u64 0, .int .u64 0, .int .u64 0, .int .u64 0, .int .u64 0, .int .u64 0, .int .u64 0, .int .u64 0, .int .u64 0, .int .u64 0, .int .u64 0, .int .u64 0, .int .u64 0, .int .u64 0, .int .u64 0, .int .u64 0, .int .u64 0, .int .u64 0, .int .u64 0, .int .u64 0, .int .u64 0, .int .u64 0, .int .u64 0, .int .u64 0, .int .u64 0, .int .u64 0, .int .u64 0, .int .u64 0, .int .u64 0, .int .u64 0, .int .u64 0, .int .u64 0] 117)
 have z1 := (RelAt.made (w.alloc (.cells (rowsA V) 117)) 117 A (g := w.heap.size + 1) (by simp) rfl).alloc (.cells #[.int .u64 0, .int .u64 0, .int .u64 0, .int .u64 0, .int .u64 0, .int .u64 0, .int .u64 0, .int .u64 0, .int .u64 0, .int .u64 0, .int .u64 0, .int .u64 0, .int .u64 0, .int .u64 0, .int .u64 0, .int .u64 0, .int .u64 0, .int .u64 0, .int .u64 0, .int .u64 0, .int .u64 0, .int .u64 0, .int .u64 0, .int .u64 0, .int .u64 0, .int .u64 0, .int .u64 0, .int .u64 0, .int .u64 0, .int .u64 0, .int .u64 0, .int .u64 0, .int .u64 0, .int .u64 0, .int .u64 0, .int .u64 0, .int .u64 0, .int .u64 0, .int .u64 0, .int .u64 0, .int .u64 0, .int .u64 0, .int .u64 0, .int .u64 0, .int .u64 0, .int .u64 0, .int .u64 0, .int .u64 0, .int .u64 0, .int .u64 0, .int .u64 0, .int .u64 0, .int .u64 0, .int .u64 0, .int .u64 0, .int .u64 0, .int .u64 0, .int .u64 0, .int .u64 0, .int .u64 0, .int .u64 0, .int .u64 0, .int .u64 0, .int .u64 0] 117)
 have z2 := zero_block ((w.alloc (.cells (rowsA V) 117)).alloc (.cells (rowsA A) 117))
 rw [show ((w.alloc (.cells (rowsA V) 117)).alloc (.cells (rowsA A) 117)).heap.size = w.heap.size + 2 from by simp] at z2
 have hb := ((box_below w (.cells (rowsA V) 117)).alloc (by simp) (.cells (rowsA A) 117)).alloc (by simp; omega) (.cells #[.int .u64 0, .int .u64 0, .int .u64 0, .int .u64 0, .int .u64 0, .int .u64 0, .int .u64 0, .int .u64 0, .int .u64 0, .int .u64 0, .int .u64 0, .int .u64 0, .int .u64 0, .int .u64 0, .int .u64 0, .int .u64 0, .int .u64 0, .int .u64 0, .int .u64 0, .int .u64 0, .int .u64 0, .int .u64 0, .int .u64 0, .int .u64 0, .int .u64 0, .int .u64 0, .int .u64 0, .int .u64 0, .int .u64 0, .int .u64 0, .int .u64 0, .int .u64 0, .int .u64 0, .int .u64 0, .int .u64 0, .int .u64 0, .int .u64 0, .int .u64 0, .int .u64 0, .int .u64 0, .int .u64 0, .int .u64 0, .int .u64 0, .int .u64 0, .int .u64 0, .int .u64 0, .int .u64 0, .int .u64 0, .int .u64 0, .int .u64 0, .int .u64 0, .int .u64 0, .int .u64 0, .int .u64 0, .int .u64 0, .int .u64 0, .int .u64 0, .int .u64 0, .int .u64 0, .int .u64 0, .int .u64 0, .int .u64 0, .int .u64 0, .int .u64 0] 117)
 clear ht
 go_enter Tryz.func177, Tryz.ntmps177
 go_upto_region 1 with fail
 generalize ((w.alloc (.cells (rowsA V) 117)).alloc (.cells (rowsA A) 117)).alloc (.cells #[.int .u64 0, .int .u64 0, .int .u64 0, .int .u64 0, .int .u64 0, .int .u64 0, .int .u64 0, .int .u64 0, .int .u64 0, .int .u64 0, .int .u64 0, .int .u64 0, .int .u64 0, .int .u64 0, .int .u64 0, .int .u64 0, .int .u64 0, .int .u64 0, .int .u64 0, .int .u64 0, .int .u64 0, .int .u64 0, .int .u64 0, .int .u64 0, .int .u64 0, .int .u64 0, .int .u64 0, .int .u64 0, .int .u64 0, .int .u64 0, .int .u64 0, .int .u64 0, .int .u64 0, .int .u64 0, .int .u64 0, .int .u64 0, .int .u64 0, .int .u64 0, .int .u64 0, .int .u64 0, .int .u64 0, .int .u64 0, .int .u64 0, .int .u64 0, .int .u64 0, .int .u64 0, .int .u64 0, .int .u64 0, .int .u64 0, .int .u64 0, .int .u64 0, .int .u64 0, .int .u64 0, .int .u64 0, .int .u64 0, .int .u64 0, .int .u64 0, .int .u64 0, .int .u64 0, .int .u64 0, .int .u64 0, .int .u64 0, .int .u64 0, .int .u64 0] 117) = w2 at *
 by_cases e2 : q2 = 0
 ·have HU : Hid (V = moreT V (trB x)) := hid (by rw [HP2.out]; unfold moreT; simp [e2])
  subst e2
  go_upto_region 3 with fail
  obtain ⟨w4, hw4⟩ : ∃ w4, w4 = w2 := ⟨_, rfl⟩
  rw [← hw4] at z0 z1 z2 hb ⊢
  clear hw4
  obtain ⟨U, hU⟩ : ∃ U, U = V := ⟨_, rfl⟩
  have HU : Hid (U = moreT V (trB x)) := hid (by rw [hU]; exact HU.out)
  rw [← hU] at z0
  clear hU
  by_cases e4 : q4 = 0
  ·have HE : Hid (U = moreM V A (trB x) (pfB x)) := hid (by rw [HU.out, HP.out]; unfold moreM; simp [e4])
   subst e4
   go_upto_region 5 with fail
   go_wp2_with (first | (with_reducible refine wpList_load_rel z0 rfl _ rfl rfl ?_) | (with_reducible refine wpList_store_rel z2 (U) rfl _ _ rfl rfl rfl ?_))
   have h3 := z2.setRow (U)
   exact bodyPost_ret (results_rel rfl _ _ _ _ rfl h3) rfl ⟨ret_rel HE.out, below_setRow hb (by omega) _⟩
  ·have HE : Hid (orR U (thenR A U) = moreM V A (trB x) (pfB x)) := hid (by rw [HU.out, HP.out]; unfold moreM; simp [e4])
   go_upto_region 4 with fail
   have kd := (Below.refl w4.heap.size w4).drew
   have HV : Hid (∀ wx, Below w4.heap.size w4 wx → RelAt wx w.heap.size 117 U) := hid (fun wx hx => z0.below hx z0.lt)
   have HA : Hid (∀ wx, Below w4.heap.size w4 wx → RelAt wx (w.heap.size + 1) 117 A) := hid (fun wx hx => z1.below hx z1.lt)
   have HZ : Hid (∀ wx, Below w4.heap.size w4 wx → RelAt wx (w.heap.size + 2) 117 noR) := hid (fun wx hx => z2.below hx z2.lt)
   have HB := hid (fun wx (hx : Below w4.heap.size w4 wx) => hb.trans (hx.mono hb.size))
   have CT := hid (fun wx (hx : Below w4.heap.size w4 wx) => then_any A U wx (HT.out _ (hb.trans (hx.mono hb.size))))
   clear z0 z1 z2 hb
   refine wp_region_held_drew (S := fun wx => RelAt wx (w.heap.size + 1) 117 A) (by kernel_rfl) (HA.out _ kd) (fun hS0 => ?_)
   refine tG (some 16) 1 _ rfl rfl (yields_rel (by rfl) _ rfl rfl (fun wx hx => hx)) hS0 ?_
   try simp only [Act.put, zA, zB, zC]
   refine wpAnyH_ready (rs := [0, 2]) (by kernel_rfl) (by simp) ?_
   refine AllReadyH.cons rfl (fun K hK => ?_) (AllReadyH.cons rfl (fun K hK => ?_) AllReadyH.nil)
   ·
    rw [if_pos (by rfl)]
    refine wp_load_rel (HV.out _ kd) _ rfl rfl ?_
    refine hK.out _ _ hS0 (fun _ => ?_)
    clear hK K
    refine rD 2 rfl (fun K hK => ?_)
    rw [if_pos (by rfl)]
    refine wp_load_rel (HV.out _ kd) _ rfl rfl ?_
    refine hK.out _ _ hS0 (fun _ => ?_)
    clear hK K
    refine rD 3 rfl (fun K hK => ?_)
    go_simp
    refine (CT.out _ kd).mono ?_
    rintro e q1 ⟨rfl, hq1⟩
    show K _ _
    have k1 := below_then kd hq1
    have s1 := HA.out _ k1
    refine hK.out _ _ s1 (fun _ => ?_)
    clear hK K
    refine rD 4 rfl (fun K hK => ?_)
    go_simp
    refine (union_any U (thenR A U) _).mono ?_
    rintro e q2 ⟨rfl, hq2⟩
    show K _ _
    have k2 := below_then k1 hq2
    have s2 := HA.out _ k2
    refine hK.out _ _ s2 (fun _ => ?_)
    clear hK K
    refine rD 5 rfl (fun K hK => ?_)
    rw [if_pos (by rfl)]
    refine wp_store_rel (HV.out _ k2) (orR U (thenR A U)) _ _ rfl rfl rfl ?_
    refine hK.out _ _ ((HA.out _ k2).far (by omega) _) (fun _ => ?_)
    clear hK K
    refine wpAnyH_done (by kernel_rfl) ?_ _
    have z0 := (HV.out _ k2).setRow (orR U (thenR A U))
    have z2 := (HZ.out _ k2).far (g' := w.heap.size) (by omega) (rowsA (orR U (thenR A U)))
    have hb := below_setRow (HB.out _ k2) (g := w.heap.size) (by omega) (rowsA (orR U (thenR A U)))
    generalize World.setRow _ _ _ = w5 at *
    clear HV HZ HB HA CT kd
    go_wp2_with (first | (with_reducible refine wpList_load_rel z0 rfl _ rfl rfl ?_) | (with_reducible refine wpList_store_rel z2 (orR U (thenR A U)) rfl _ _ rfl rfl rfl ?_))
    have h3 := z2.setRow (orR U (thenR A U))
    exact bodyPost_ret (results_rel rfl _ _ _ _ rfl h3) rfl ⟨ret_rel HE.out, below_setRow hb (by omega) _⟩
   ·
    rw [if_pos (by rfl)]
    refine wp_load_rel (HV.out _ kd) _ rfl rfl ?_
    refine hK.out _ _ hS0 (fun _ => ?_)
    clear hK K
    refine wpAnyH_ready (rs := [0, 3]) (by kernel_rfl) (by simp) ?_
    refine AllReadyH.cons rfl (fun K hK => ?_) (AllReadyH.cons rfl (fun K hK => ?_) AllReadyH.nil)
    ·
     rw [if_pos (by rfl)]
     refine wp_load_rel (HV.out _ kd) _ rfl rfl ?_
     refine hK.out _ _ hS0 (fun _ => ?_)
     clear hK K
     refine rD 3 rfl (fun K hK => ?_)
     go_simp
     refine (CT.out _ kd).mono ?_
     rintro e q3 ⟨rfl, hq3⟩
     show K _ _
     have k3 := below_then kd hq3
     have s3 := HA.out _ k3
     refine hK.out _ _ s3 (fun _ => ?_)
     clear hK K
     refine rD 4 rfl (fun K hK => ?_)
     go_simp
     refine (union_any U (thenR A U) _).mono ?_
     rintro e q4 ⟨rfl, hq4⟩
     show K _ _
     have k4 := below_then k3 hq4
     have s4 := HA.out _ k4
     refine hK.out _ _ s4 (fun _ => ?_)
     clear hK K
     refine rD 5 rfl (fun K hK => ?_)
     rw [if_pos (by rfl)]
     refine wp_store_rel (HV.out _ k4) (orR U (thenR A U)) _ _ rfl rfl rfl ?_
     refine hK.out _ _ ((HA.out _ k4).far (by omega) _) (fun _ => ?_)
     clear hK K
     refine wpAnyH_done (by kernel_rfl) ?_ _
     have z0 := (HV.out _ k4).setRow (orR U (thenR A U))
     have z2 := (HZ.out _ k4).far (g' := w.heap.size) (by omega) (rowsA (orR U (thenR A U)))
     have hb := below_setRow (HB.out _ k4) (g := w.heap.size) (by omega) (rowsA (orR U (thenR A U)))
     generalize World.setRow _ _ _ = w5 at *
     clear HV HZ HB HA CT kd
     go_wp2_with (first | (with_reducible refine wpList_load_rel z0 rfl _ rfl rfl ?_) | (with_reducible refine wpList_store_rel z2 (orR U (thenR A U)) rfl _ _ rfl rfl rfl ?_))
     have h3 := z2.setRow (orR U (thenR A U))
     exact bodyPost_ret (results_rel rfl _ _ _ _ rfl h3) rfl ⟨ret_rel HE.out, below_setRow hb (by omega) _⟩
    ·
     go_simp
     refine (CT.out _ kd).mono ?_
     rintro e q5 ⟨rfl, hq5⟩
     show K _ _
     have k5 := below_then kd hq5
     have s5 := HA.out _ k5
     refine hK.out _ _ s5 (fun _ => ?_)
     clear hK K
     refine rD 0 rfl (fun K hK => ?_)
     rw [if_pos (by rfl)]
     refine wp_load_rel (HV.out _ k5) _ rfl rfl ?_
     refine hK.out _ _ s5 (fun _ => ?_)
     clear hK K
     refine rD 4 rfl (fun K hK => ?_)
     go_simp
     refine (union_any U (thenR A U) _).mono ?_
     rintro e q6 ⟨rfl, hq6⟩
     show K _ _
     have k6 := below_then k5 hq6
     have s6 := HA.out _ k6
     refine hK.out _ _ s6 (fun _ => ?_)
     clear hK K
     refine rD 5 rfl (fun K hK => ?_)
     rw [if_pos (by rfl)]
     refine wp_store_rel (HV.out _ k6) (orR U (thenR A U)) _ _ rfl rfl rfl ?_
     refine hK.out _ _ ((HA.out _ k6).far (by omega) _) (fun _ => ?_)
     clear hK K
     refine wpAnyH_done (by kernel_rfl) ?_ _
     have z0 := (HV.out _ k6).setRow (orR U (thenR A U))
     have z2 := (HZ.out _ k6).far (g' := w.heap.size) (by omega) (rowsA (orR U (thenR A U)))
     have hb := below_setRow (HB.out _ k6) (g := w.heap.size) (by omega) (rowsA (orR U (thenR A U)))
     generalize World.setRow _ _ _ = w5 at *
     clear HV HZ HB HA CT kd
     go_wp2_with (first | (with_reducible refine wpList_load_rel z0 rfl _ rfl rfl ?_) | (with_reducible refine wpList_store_rel z2 (orR U (thenR A U)) rfl _ _ rfl rfl rfl ?_))
     have h3 := z2.setRow (orR U (thenR A U))
     exact bodyPost_ret (results_rel rfl _ _ _ _ rfl h3) rfl ⟨ret_rel HE.out, below_setRow hb (by omega) _⟩
 ·have HU : Hid (clo V = moreT V (trB x)) := hid (by rw [HP2.out]; unfold moreT; simp [e2])
  go_wp2_with (with_reducible refine wpList_load_rel z0 rfl _ rfl rfl ?_)
  refine (rclos_any V _).mono ?_
  rintro e w3 ⟨rfl, hb3⟩
  have z0 := z0.below hb3 z0.lt
  have z1 := (z1.below hb3 z1.lt).far (g' := w.heap.size) (by omega) (rowsA (clo V))
  have z2 := (z2.below hb3 z2.lt).far (g' := w.heap.size) (by omega) (rowsA (clo V))
  have hb := below_setRow (hb.trans (hb3.mono hb.size)) (g := w.heap.size) (by omega) (rowsA (clo V))
  clear hb3
  go_upto_region 3 with (with_reducible refine wpList_store_rel z0 (clo V) rfl _ _ rfl rfl rfl ?_)
  have z0 := z0.setRow (clo V)
  generalize World.setRow _ _ _ = w4 at *
  generalize clo V = U at *
  by_cases e4 : q4 = 0
  ·have HE : Hid (U = moreM V A (trB x) (pfB x)) := hid (by rw [HU.out, HP.out]; unfold moreM; simp [e4])
   subst e4
   go_upto_region 5 with fail
   go_wp2_with (first | (with_reducible refine wpList_load_rel z0 rfl _ rfl rfl ?_) | (with_reducible refine wpList_store_rel z2 (U) rfl _ _ rfl rfl rfl ?_))
   have h3 := z2.setRow (U)
   exact bodyPost_ret (results_rel rfl _ _ _ _ rfl h3) rfl ⟨ret_rel HE.out, below_setRow hb (by omega) _⟩
  ·have HE : Hid (orR U (thenR A U) = moreM V A (trB x) (pfB x)) := hid (by rw [HU.out, HP.out]; unfold moreM; simp [e4])
   go_upto_region 4 with fail
   have kd := (Below.refl w4.heap.size w4).drew
   have HV : Hid (∀ wx, Below w4.heap.size w4 wx → RelAt wx w.heap.size 117 U) := hid (fun wx hx => z0.below hx z0.lt)
   have HA : Hid (∀ wx, Below w4.heap.size w4 wx → RelAt wx (w.heap.size + 1) 117 A) := hid (fun wx hx => z1.below hx z1.lt)
   have HZ : Hid (∀ wx, Below w4.heap.size w4 wx → RelAt wx (w.heap.size + 2) 117 noR) := hid (fun wx hx => z2.below hx z2.lt)
   have HB := hid (fun wx (hx : Below w4.heap.size w4 wx) => hb.trans (hx.mono hb.size))
   have CT := hid (fun wx (hx : Below w4.heap.size w4 wx) => then_any A U wx (HT.out _ (hb.trans (hx.mono hb.size))))
   clear z0 z1 z2 hb
   refine wp_region_held_drew (S := fun wx => RelAt wx (w.heap.size + 1) 117 A) (by kernel_rfl) (HA.out _ kd) (fun hS0 => ?_)
   refine tG (some 16) 1 _ rfl rfl (yields_rel (by rfl) _ rfl rfl (fun wx hx => hx)) hS0 ?_
   try simp only [Act.put, zA, zB, zC]
   refine wpAnyH_ready (rs := [0, 2]) (by kernel_rfl) (by simp) ?_
   refine AllReadyH.cons rfl (fun K hK => ?_) (AllReadyH.cons rfl (fun K hK => ?_) AllReadyH.nil)
   ·
    rw [if_pos (by rfl)]
    refine wp_load_rel (HV.out _ kd) _ rfl rfl ?_
    refine hK.out _ _ hS0 (fun _ => ?_)
    clear hK K
    refine rD 2 rfl (fun K hK => ?_)
    rw [if_pos (by rfl)]
    refine wp_load_rel (HV.out _ kd) _ rfl rfl ?_
    refine hK.out _ _ hS0 (fun _ => ?_)
    clear hK K
    refine rD 3 rfl (fun K hK => ?_)
    go_simp
    refine (CT.out _ kd).mono ?_
    rintro e q1 ⟨rfl, hq1⟩
    show K _ _
    have k1 := below_then kd hq1
    have s1 := HA.out _ k1
    refine hK.out _ _ s1 (fun _ => ?_)
    clear hK K
    refine rD 4 rfl (fun K hK => ?_)
    go_simp
    refine (union_any U (thenR A U) _).mono ?_
    rintro e q2 ⟨rfl, hq2⟩
    show K _ _
    have k2 := below_then k1 hq2
    have s2 := HA.out _ k2
    refine hK.out _ _ s2 (fun _ => ?_)
    clear hK K
    refine rD 5 rfl (fun K hK => ?_)
    rw [if_pos (by rfl)]
    refine wp_store_rel (HV.out _ k2) (orR U (thenR A U)) _ _ rfl rfl rfl ?_
    refine hK.out _ _ ((HA.out _ k2).far (by omega) _) (fun _ => ?_)
    clear hK K
    refine wpAnyH_done (by kernel_rfl) ?_ _
    have z0 := (HV.out _ k2).setRow (orR U (thenR A U))
    have z2 := (HZ.out _ k2).far (g' := w.heap.size) (by omega) (rowsA (orR U (thenR A U)))
    have hb := below_setRow (HB.out _ k2) (g := w.heap.size) (by omega) (rowsA (orR U (thenR A U)))
    generalize World.setRow _ _ _ = w5 at *
    clear HV HZ HB HA CT kd
    go_wp2_with (first | (with_reducible refine wpList_load_rel z0 rfl _ rfl rfl ?_) | (with_reducible refine wpList_store_rel z2 (orR U (thenR A U)) rfl _ _ rfl rfl rfl ?_))
    have h3 := z2.setRow (orR U (thenR A U))
    exact bodyPost_ret (results_rel rfl _ _ _ _ rfl h3) rfl ⟨ret_rel HE.out, below_setRow hb (by omega) _⟩
   ·
    rw [if_pos (by rfl)]
    refine wp_load_rel (HV.out _ kd) _ rfl rfl ?_
    refine hK.out _ _ hS0 (fun _ => ?_)
    clear hK K
    refine wpAnyH_ready (rs := [0, 3]) (by kernel_rfl) (by simp) ?_
    refine AllReadyH.cons rfl (fun K hK => ?_) (AllReadyH.cons rfl (fun K hK => ?_) AllReadyH.nil)
    ·
     rw [if_pos (by rfl)]
     refine wp_load_rel (HV.out _ kd) _ rfl rfl ?_
     refine hK.out _ _ hS0 (fun _ => ?_)
     clear hK K
     refine rD 3 rfl (fun K hK => ?_)
     go_simp
     refine (CT.out _ kd).mono ?_
     rintro e q3 ⟨rfl, hq3⟩
     show K _ _
     have k3 := below_then kd hq3
     have s3 := HA.out _ k3
     refine hK.out _ _ s3 (fun _ => ?_)
     clear hK K
     refine rD 4 rfl (fun K hK => ?_)
     go_simp
     refine (union_any U (thenR A U) _).mono ?_
     rintro e q4 ⟨rfl, hq4⟩
     show K _ _
     have k4 := below_then k3 hq4
     have s4 := HA.out _ k4
     refine hK.out _ _ s4 (fun _ => ?_)
     clear hK K
     refine rD 5 rfl (fun K hK => ?_)
     rw [if_pos (by rfl)]
     refine wp_store_rel (HV.out _ k4) (orR U (thenR A U)) _ _ rfl rfl rfl ?_
     refine hK.out _ _ ((HA.out _ k4).far (by omega) _) (fun _ => ?_)
     clear hK K
     refine wpAnyH_done (by kernel_rfl) ?_ _
     have z0 := (HV.out _ k4).setRow (orR U (thenR A U))
     have z2 := (HZ.out _ k4).far (g' := w.heap.size) (by omega) (rowsA (orR U (thenR A U)))
     have hb := below_setRow (HB.out _ k4) (g := w.heap.size) (by omega) (rowsA (orR U (thenR A U)))
     generalize World.setRow _ _ _ = w5 at *
     clear HV HZ HB HA CT kd
     go_wp2_with (first | (with_reducible refine wpList_load_rel z0 rfl _ rfl rfl ?_) | (with_reducible refine wpList_store_rel z2 (orR U (thenR A U)) rfl _ _ rfl rfl rfl ?_))
     have h3 := z2.setRow (orR U (thenR A U))
     exact bodyPost_ret (results_rel rfl _ _ _ _ rfl h3) rfl ⟨ret_rel HE.out, below_setRow hb (by omega) _⟩
    ·
     go_simp
     refine (CT.out _ kd).mono ?_
     rintro e q5 ⟨rfl, hq5⟩
     show K _ _
     have k5 := below_then kd hq5
     have s5 := HA.out _ k5
     refine hK.out _ _ s5 (fun _ => ?_)
     clear hK K
     refine rD 0 rfl (fun K hK => ?_)
     rw [if_pos (by rfl)]
     refine wp_load_rel (HV.out _ k5) _ rfl rfl ?_
     refine hK.out _ _ s5 (fun _ => ?_)
     clear hK K
     refine rD 4 rfl (fun K hK => ?_)
     go_simp
     refine (union_any U (thenR A U) _).mono ?_
     rintro e q6 ⟨rfl, hq6⟩
     show K _ _
     have k6 := below_then k5 hq6
     have s6 := HA.out _ k6
     refine hK.out _ _ s6 (fun _ => ?_)
     clear hK K
     refine rD 5 rfl (fun K hK => ?_)
     rw [if_pos (by rfl)]
     refine wp_store_rel (HV.out _ k6) (orR U (thenR A U)) _ _ rfl rfl rfl ?_
     refine hK.out _ _ ((HA.out _ k6).far (by omega) _) (fun _ => ?_)
     clear hK K
     refine wpAnyH_done (by kernel_rfl) ?_ _
     have z0 := (HV.out _ k6).setRow (orR U (thenR A U))
     have z2 := (HZ.out _ k6).far (g' := w.heap.size) (by omega) (rowsA (orR U (thenR A U)))
     have hb := below_setRow (HB.out _ k6) (g := w.heap.size) (by omega) (rowsA (orR U (thenR A U)))
     generalize World.setRow _ _ _ = w5 at *
     clear HV HZ HB HA CT kd
     go_wp2_with (first | (with_reducible refine wpList_load_rel z0 rfl _ rfl rfl ?_) | (with_reducible refine wpList_store_rel z2 (orR U (thenR A U)) rfl _ _ rfl rfl rfl ?_))
     have h3 := z2.setRow (orR U (thenR A U))
     exact bodyPost_ret (results_rel rfl _ _ _ _ rfl h3) rfl ⟨ret_rel HE.out, below_setRow hb (by omega) _⟩
end

section
open Go.RowKit
def behB (L : List Int) (j : Nat) : Bool := L.any fun a => a == (j : Int)
def chainR : List Int → Mat
 | [] => noR
 | a :: L => fun x y => chainR L x y || (a == (x : Int) && behB L y)
theorem chain_row (a : Nat) (L : List Int) : rowsA (rowSet (chainR L) a fun j => chainR L a j || behB L j) = rowsA (chainR ((a : Int) :: L)) :=
 rowsA_congr fun i j _ _ => by
  unfold rowSet
  simp only [chainR]
  by_cases h : i = a
  ·subst h; simp
  ·rw [if_neg h]
   have : ((a : Int) == (i : Int)) = false := by rw [beq_eq_false_iff_ne]; omega
   rw [this]; simp
theorem chain_skip (a : Int) (L : List Int) (h : ¬ (0 ≤ a ∧ a < 64)) : rowsA (chainR L) = rowsA (chainR (a :: L)) :=
 rowsA_congr fun i j hi _ => by
  simp only [chainR]
  have : (a == (i : Int)) = false := by rw [beq_eq_false_iff_ne]; omega
  rw [this]; simp
theorem beh_row (a : Nat) (L : List Int) : mkS (fun j => behB L j || decide (j = a)) = mkS (behB ((a : Int) :: L)) :=
 mkS_congr fun j _ => by
  unfold behB
  rw [List.any_cons, Bool.or_comm]
  congr 1
  rw [Bool.eq_iff_iff, decide_eq_true_iff, beq_iff_eq]; omega
theorem beh_skip (a : Int) (L : List Int) (h : ¬ (0 ≤ a ∧ a < 64)) : mkS (behB L) = mkS (behB (a :: L)) :=
 mkS_congr fun j hj => by
  unfold behB
  rw [List.any_cons]
  have : (a == (j : Int)) = false := by rw [beq_eq_false_iff_ne]; omega
  rw [this]; rfl
theorem RelAt.as {w : World} {g : Nat} {t : TypeId} {R S : Mat} (h : RelAt w g t R) (e : rowsA R = rowsA S) : RelAt w g t S := by
 unfold RelAt at *; rw [← e]; exact h
theorem chain_any (va : Value) (l : List Int) (w : World) (ha : Ints w va l) :
  Calls Tryz.prog 175 #[va] w fun e w' => e = .returned (.agg (rowsA (chainR l))) ∧ Below w.heap.size w w' := by
 obtain ⟨ao, cap, rfl, hlen⟩ := ha.form
 have HA : Hid (∀ wx, Below w.heap.size w wx → Ints wx (.slice ao l.length cap) l) := hid (fun wx hb => ha.below hb)
 clear ha
 go_enter Tryz.func175, Tryz.ntmps175
 go_wp2
 go_loopw [4, 5] (fun v i wr => ∃ k : Nat, k ≤ l.length ∧ i = .int .i64 ((k : Int) - 1) ∧ v = .int .u64 ((mkS (behB (l.drop k)) : Nat) : Int) ∧ RelAt wr (w.heap.size + 1) 117 (chainR (l.drop k)) ∧ RelAt wr w.heap.size 117 noR ∧ Below w.heap.size w wr)
  (fun _ i _ => (intOf i + 1).toNat)
 case atStart =>
  refine ⟨l.length, by omega, rfl, ?_, ?_, ?_, ?_⟩
  ·rw [List.drop_length]
   have : mkS (behB []) = 0 := mkS_false
   rw [this]; rfl
  ·rw [List.drop_length]
   exact RelAt.made _ _ noR (by simp) (by rw [rowsA_none]; rfl)
  ·exact (RelAt.made w _ noR rfl (by rw [rowsA_none]; rfl)).alloc _
  ·exact ((Below.refl w.heap.size w).alloc (Nat.le_refl _) _).alloc (by simp) _
 case round =>
  obtain ⟨k, hk, hi, rfl, h1, h0, hb⟩ := hrel
  cases k with
  | zero =>
   obtain rfl : u5 = .int .i64 (-1) := hi
   rw [List.drop_zero] at h1
   go_wp2_with (first
    | (with_reducible refine wpList_load_rel h1 rfl _ rfl rfl ?_)
    | (with_reducible refine wpList_store_rel h0 (chainR l) rfl _ _ rfl rfl rfl ?_))
   have h3 := h0.setRow (chainR l)
   exact bodyPost_ret (results_rel rfl _ _ _ _ rfl h3) rfl ⟨rfl, below_setRow hb (Nat.le_refl _) _⟩
  | succ k =>
   have hi' : (((k + 1 : Nat) : Int) - 1) = (k : Int) := by omega
   rw [hi'] at hi
   subst hi
   have hki : (k : Int) < (l.length : Int) := by omega
   have hlt : k < l.length := by omega
   have hd : l.drop k = l[k] :: l.drop (k + 1) := List.drop_eq_getElem_cons hlt
   have HD := hid hd
   clear hd
   have HC := hid (fun (wx : World) (hbx : Below w.heap.size w wx) => (HA.out wx hbx).at hlt)
   obtain ⟨p, off, hao, hc⟩ := HC.out _ hb
   cases hao
   generalize l[k] = a at *
   generalize l.drop (k + 1) = L at *
   by_cases ha : 0 ≤ a ∧ a < 64
   ·obtain ⟨n, rfl⟩ := Int.eq_ofNat_of_zero_le ha.1
    have hn : n < 64 := by omega
    have hc1 := h1.cell hn
    have hf := h1.free n
    have HO := u64_or (chainR L n) (behB L)
    have CM := hid (fun wx => may_yes (n : Int) wx ha)
    have HROW := hid (chain_row n L)
    have CW := hid (fun wx => with_any (mkS (behB L)) (n : Int) wx (isSet_mkS _))
    have HBEH := hid ((withS_mkS (behB L) n hn).trans (beh_row n L))
    have HN := hid (h1.store n _ (fun j => chainR L n j || behB L j) rfl)
    have H0 := hid (h0.other (k := ⟨w.heap.size + 1, n, none⟩) (by simp) (.int .u64 ((mkS (fun j => chainR L n j || behB L j) : Nat) : Int)))
    have HB := hid (hb.setCell (p := ⟨w.heap.size + 1, n, none⟩) (by simp) (.int .u64 ((mkS (fun j => chainR L n j || behB L j) : Nat) : Int)))
    clear h1 h0 ha
    generalize mkS (fun j => chainR L n j || behB L j) = z at *
    generalize mkS (chainR L n) = x at *
    generalize mkS (behB L) = y at *
    have hn64 : (n : Int) < 64 := by omega
    go_wp2_with fail
    refine (CM.out _).mono ?_
    rintro e w' ⟨rfl, rfl⟩
    obtain ⟨_, _, hao2, hc2⟩ := HC.out _ HB.out
    cases hao2
    go_wp2_with fail
    refine (CW.out _).mono ?_
    rintro e w' ⟨rfl, rfl⟩
    go_wp2_with fail
    go_roundw
    case rel => exact ⟨k, by omega, by go_num, by rw [HD.out, ← HBEH.out], by rw [HD.out]; exact (RelAt.as HN.out HROW.out), H0.out, HB.out⟩
    case measure => (simp [intOf]) <;> omega
   ·have CM := hid (fun wx => may_no a wx ha)
    have HROW := hid (chain_skip a L ha)
    have HBEH := hid (beh_skip a L ha)
    have H1 := hid h1
    have H0 := hid h0
    clear h1 h0 ha
    generalize mkS (behB L) = y at *
    go_wp2_with fail
    refine (CM.out _).mono ?_
    rintro e w' ⟨rfl, rfl⟩
    go_wp2_with fail
    go_roundw
    case rel => exact ⟨k, by omega, by go_num, by rw [HD.out, ← HBEH.out], by rw [HD.out]; exact (RelAt.as H1.out HROW.out), H0.out, hb⟩
    case measure => (simp [intOf]) <;> omega
end

section
open Go.RowKit
structure Grown (V A : Mat) (tr pf : Bool) (U : Mat) : Prop where
 h : ∀ i j, V i j = true → U i j = true
 m : ∀ i j, i < 64 → j < 64 → U i j = true → Must V A tr pf i j
theorem Grown.start (V A : Mat) (tr pf : Bool) : Grown V A tr pf V := ⟨fun _ _ h => h, fun _ _ _ _ h => .base h⟩
section
variable {V A U : Mat} {tr pf : Bool}
theorem Grown.next (g : Grown V A tr pf U) : Grown V A tr pf (moreM U A tr pf) := ⟨fun i j h => moreM_grows (g.h i j h), fun i j hi hj h => moreM_sound g.m i j hi hj h⟩
theorem Grown.count (_ : Grown V A tr pf U) (hf : rowsA (moreM U A tr pf) ≠ rowsA U) : cntP U < cntP (moreM U A tr pf) := cntP_lt (fun _ _ h => moreM_grows h) (fun e => hf e.symm)
theorem Grown.done (g : Grown V A tr pf U) (hf : rowsA (moreM U A tr pf) = rowsA U) : ∀ i j, i < 64 → j < 64 → (U i j = true ↔ Must V A tr pf i j) := fun i j hi hj => ⟨g.m i j hi hj, fun h => more_done (fun i j _ _ h => g.h i j h) hf h hi hj⟩
end
theorem eq_items (R S : Mat) (w : World) : ∀ (is : List Nat), (∀ i ∈ is, i < 64) → (Op.eqItems 9999 115 1 (rowsA R) (rowsA S) is).run Tryz.prog w = .ok (is.all fun i => mkS (R i) == mkS (S i)) w
 | [], _ => by simp [Op.eqItems]
 | i :: is, h => by
  have hi := h i List.mem_cons_self
  have h1 := rowsA_at R hi
  have h2 := rowsA_at S hi
  have ih := eq_items R S w is (fun j hj => h j (List.mem_cons_of_mem _ hj))
  have hp : (part 115 (rowsA R) (i * 1)).run Tryz.prog w = .ok (.int .u64 ((mkS (R i) : Nat) : Int)) w := by
   simp [part, isAgg, Sem.run_bind, run_underlying Tryz.underlying115 w, h1]
  have hp2 : (part 115 (rowsA S) (i * 1)).run Tryz.prog w = .ok (.int .u64 ((mkS (S i) : Nat) : Int)) w := by
   simp [part, isAgg, Sem.run_bind, run_underlying Tryz.underlying115 w, h2]
  have he : (Op.equalIn (9998 + 1) 115 (.int .u64 ((mkS (R i) : Nat) : Int)) (.int .u64 ((mkS (S i) : Nat) : Int))).run Tryz.prog w = .ok (mkS (R i) == mkS (S i)) w := by
   rw [run_equalIn_int w 9998 115 .u64 .u64 _ _ Tryz.underlying115]
   simp
   rw [Bool.eq_iff_iff, beq_iff_eq, beq_iff_eq]
   omega
  simp only [Op.eqItems, Sem.run_bind, hp, hp2, Result.andThen_ok]
  rw [he]
  simp only [Result.andThen_ok]
  cases hb : (mkS (R i) == mkS (S i)) with
  | true =>
   simp only [Bool.not_true, Bool.false_eq_true, if_false]
   rw [ih]; simp [hb]
  | false => simp [hb]
theorem rows_all (R S : Mat) : ((List.range 64).all fun i => mkS (R i) == mkS (S i)) = true ↔ rowsA R = rowsA S := by
 rw [List.all_eq_true]
 constructor
 ·intro h
  unfold rowsA
  congr 1
  refine List.map_congr_left fun i hi => ?_
  have := h i hi
  simp only [beq_iff_eq] at this
  rw [this]
 ·intro h i hi
  have hi := List.mem_range.1 hi
  have h1 := rowsA_at R hi
  rw [h, rowsA_at S hi] at h1
  have := Option.some.inj h1
  simp only [Value.int.injEq, true_and] at this
  simp; omega
theorem run_eql_yes (R S : Mat) (hf : rowsA R = rowsA S) (w : World) : (binOp .eql 117 (.agg (rowsA R)) (.agg (rowsA S))).run Tryz.prog w = .ok (.bool true) w := by
 obtain ⟨i, hi, _⟩ := Option.map_eq_some_iff.1 infoSet
 have hc : Tryz.prog.cellsOf 115 = 1 := by kernel_rfl
 rw [run_eql_struct, run_equalIn_array w 9999 (rowsA R) (rowsA S) Tryz.underlying117 hi, hc, eq_items R S w _ (fun i hi => List.mem_range.1 hi), (rows_all R S).2 hf]
 rfl
theorem run_eql_no (R S : Mat) (hf : ¬ rowsA R = rowsA S) (w : World) : (binOp .eql 117 (.agg (rowsA R)) (.agg (rowsA S))).run Tryz.prog w = .ok (.bool false) w := by
 obtain ⟨i, hi, _⟩ := Option.map_eq_some_iff.1 infoSet
 have hc : Tryz.prog.cellsOf 115 = 1 := by kernel_rfl
 have hn : ((List.range 64).all fun i => mkS (R i) == mkS (S i)) = false := by
  cases h : ((List.range 64).all fun i => mkS (R i) == mkS (S i)) with
  | false => rfl
  | true => exact absurd ((rows_all R S).1 h) hf
 rw [run_eql_struct, run_equalIn_array w 9999 (rowsA R) (rowsA S) Tryz.underlying117 hi, hc, eq_items R S w _ (fun i hi => List.mem_range.1 hi), hn]
 rfl
theorem run_guard_rel (o : BinOp) (x y : Operand) (R S : Mat) (w : World) : Sem.run Tryz.prog (eqGuard o 117 x y (.agg (rowsA R)) (.agg (rowsA S))) w = .ok () w :=
 run_eqGuard_agg w o 117 x y _ _ (by kernel_rfl)
def startQ (h : List TxnV) (x : Int) (A : Mat) (q8 q16 : Int) : Mat := if q16 = 0 then (if q8 = 0 then baseM h x else orR (baseM h x) (rivM h A)) else orR (if q8 = 0 then baseM h x else orR (baseM h x) (rivM h A)) A
def startM (h : List TxnV) (x : Int) (A : Mat) : Mat := startQ h x A (bits .and .i64 x 8) (bits .and .i64 x 16)
theorem lof_any (x : Int) (va : Value) (l : List Int) (h : List TxnV) (B b : Nat) (w : World) (hO : OrdIs w B b h) (hc : checkI h = 0) (ht : Tab w) (hl : Ints w va l) :
  Calls Tryz.prog 137 #[.pointer (some ⟨B, 0, none⟩), .int .i64 x, va] w fun e w' => (∃ R, e = .returned (.agg (rowsA R)) ∧ ∀ i j, i < 64 → j < 64 → (R i j = true ↔ Must (startM h x (chainR l)) (chainR l) (trB x) (pfB x) i j)) ∧ Below w.heap.size w w' := by
 have hg := ht.pos
 have HT : Hid (∀ wx, Below w.heap.size w wx → Tab wx) := hid (fun wx hb => ht.below hb hg)
 have HO := hid (fun wx (hx : Below w.heap.size w wx) => hO.below hx)
 have HC := hid hc
 obtain ⟨q8, h8⟩ : ∃ q, bits .and .i64 x 8 = q := ⟨_, rfl⟩
 obtain ⟨q16, h16⟩ : ∃ q, bits .and .i64 x 16 = q := ⟨_, rfl⟩
 have hb0 := box_below w (.cells #[.int .u64 0, .int .u64 0, .int .u64 0, .int .u64 0, .int .u64 0, .int .u64 0, .int .u64 0, .int .u64 0, .int .u64 0, .int .u64 0, .int .u64 0, .int .u64 0, .int .u64 0, .int .u64 0, .int .u64 0, .int .u64 0, .int .u64 0, .int .u64 0, .int .u64 0, .int .u64 0, .int .u64 0, .int .u64 0, .int .u64 0, .int .u64 0, .int .u64 0, .int .u64 0, .int .u64 0, .int .u64 0, .int .u64 0, .int .u64 0, .int .u64 0, .int .u64 0, .int .u64 0, .int .u64 0, .int .u64 0, .int .u64 0, .int .u64 0, .int .u64 0, .int .u64 0, .int .u64 0, .int .u64 0, .int .u64 0, .int .u64 0, .int .u64 0, .int .u64 0, .int .u64 0, .int .u64 0, .int .u64 0, .int .u64 0, .int .u64 0, .int .u64 0, .int .u64 0, .int .u64 0, .int .u64 0, .int .u64 0, .int .u64 0, .int .u64 0, .int .u64 0, .int .u64 0, .int .u64 0, .int .u64 0, .int .u64 0, .int .u64 0, .int .u64 0] 117)
 have CH := hid (chain_any va l (w.alloc (.cells #[.int .u64 0, .int .u64 0, .int .u64 0, .int .u64 0, .int .u64 0, .int .u64 0, .int .u64 0, .int .u64 0, .int .u64 0, .int .u64 0, .int .u64 0, .int .u64 0, .int .u64 0, .int .u64 0, .int .u64 0, .int .u64 0, .int .u64 0, .int .u64 0, .int .u64 0, .int .u64 0, .int .u64 0, .int .u64 0, .int .u64 0, .int .u64 0, .int .u64 0, .int .u64 0, .int .u64 0, .int .u64 0, .int .u64 0, .int .u64 0, .int .u64 0, .int .u64 0, .int .u64 0, .int .u64 0, .int .u64 0, .int .u64 0, .int .u64 0, .int .u64 0, .int .u64 0, .int .u64 0, .int .u64 0, .int .u64 0, .int .u64 0, .int .u64 0, .int .u64 0, .int .u64 0, .int .u64 0, .int .u64 0, .int .u64 0, .int .u64 0, .int .u64 0, .int .u64 0, .int .u64 0, .int .u64 0, .int .u64 0, .int .u64 0, .int .u64 0, .int .u64 0, .int .u64 0, .int .u64 0, .int .u64 0, .int .u64 0, .int .u64 0, .int .u64 0] 117)) (hl.below hb0))
 obtain ⟨ao, cap, rfl, hal⟩ := hl.form
 have HQ : Hid (startM h x (chainR l) = startQ h x (chainR l) q8 q16) := hid (by unfold startM; rw [h8, h16])
 generalize chainR l = A at *
 have z6 := zero_block w
 clear hO hc ht hl
 go_enter Tryz.func137, Tryz.ntmps137
 go_wp2_with fail
 refine (CH.out).mono ?_
 rintro e w1 ⟨rfl, hb1⟩
 have z6 := z6.below hb1 (by simp)
 have hb2 := below_then hb0 hb1
 clear hb1 hb0 CH
 have hs1 := hb2.size
 have z7 := zero_block w1
 have hl6 := z6.lt
 have z6 := (z6.alloc (.cells #[.int .u64 0, .int .u64 0, .int .u64 0, .int .u64 0, .int .u64 0, .int .u64 0, .int .u64 0, .int .u64 0, .int .u64 0, .int .u64 0, .int .u64 0, .int .u64 0, .int .u64 0, .int .u64 0, .int .u64 0, .int .u64 0, .int .u64 0, .int .u64 0, .int .u64 0, .int .u64 0, .int .u64 0, .int .u64 0, .int .u64 0, .int .u64 0, .int .u64 0, .int .u64 0, .int .u64 0, .int .u64 0, .int .u64 0, .int .u64 0, .int .u64 0, .int .u64 0, .int .u64 0, .int .u64 0, .int .u64 0, .int .u64 0, .int .u64 0, .int .u64 0, .int .u64 0, .int .u64 0, .int .u64 0, .int .u64 0, .int .u64 0, .int .u64 0, .int .u64 0, .int .u64 0, .int .u64 0, .int .u64 0, .int .u64 0, .int .u64 0, .int .u64 0, .int .u64 0, .int .u64 0, .int .u64 0, .int .u64 0, .int .u64 0, .int .u64 0, .int .u64 0, .int .u64 0, .int .u64 0, .int .u64 0, .int .u64 0, .int .u64 0, .int .u64 0] 117)).far (g' := w1.heap.size) (by omega) (rowsA A)
 have hb3 := below_setRow (hb2.alloc hb2.size (.cells #[.int .u64 0, .int .u64 0, .int .u64 0, .int .u64 0, .int .u64 0, .int .u64 0, .int .u64 0, .int .u64 0, .int .u64 0, .int .u64 0, .int .u64 0, .int .u64 0, .int .u64 0, .int .u64 0, .int .u64 0, .int .u64 0, .int .u64 0, .int .u64 0, .int .u64 0, .int .u64 0, .int .u64 0, .int .u64 0, .int .u64 0, .int .u64 0, .int .u64 0, .int .u64 0, .int .u64 0, .int .u64 0, .int .u64 0, .int .u64 0, .int .u64 0, .int .u64 0, .int .u64 0, .int .u64 0, .int .u64 0, .int .u64 0, .int .u64 0, .int .u64 0, .int .u64 0, .int .u64 0, .int .u64 0, .int .u64 0, .int .u64 0, .int .u64 0, .int .u64 0, .int .u64 0, .int .u64 0, .int .u64 0, .int .u64 0, .int .u64 0, .int .u64 0, .int .u64 0, .int .u64 0, .int .u64 0, .int .u64 0, .int .u64 0, .int .u64 0, .int .u64 0, .int .u64 0, .int .u64 0, .int .u64 0, .int .u64 0, .int .u64 0, .int .u64 0] 117)) (g := w1.heap.size) (by omega) (rowsA A)
 clear hb2
 go_upto_region 2 with (with_reducible refine wpList_store_rel z7 A rfl _ _ rfl rfl rfl ?_)
 have z7 := z7.setRow A
 generalize World.setRow _ _ _ = w2 at *
 generalize w1.heap.size = p7 at *
 have CB := hid (lbase_any x h B w2 (HO.out _ hb3).blk)
 obtain ⟨M0, hM0⟩ : ∃ M0, M0 = baseM h x := ⟨_, rfl⟩
 rw [← hM0] at CB
 have HQ : Hid (startM h x A = if q16 = 0 then (if q8 = 0 then M0 else orR M0 (rivM h A)) else orR (if q8 = 0 then M0 else orR M0 (rivM h A)) A) := hid (by rw [HQ.out, hM0]; rfl)
 clear hM0
 go_wp2_with fail
 refine (CB.out).mono ?_
 rintro e w3 ⟨rfl, hb4⟩
 have z6 := z6.below hb4 z6.lt
 have z7 := z7.below hb4 z7.lt
 have hb5 := hb3.trans (hb4.mono hb3.size)
 clear hb3 hb4 CB
 have hs3 := hb5.size
 have hl7 := z7.lt
 have hl6 := z6.lt
 have z8 := zero_block w3
 have z7 := (z7.alloc (.cells #[.int .u64 0, .int .u64 0, .int .u64 0, .int .u64 0, .int .u64 0, .int .u64 0, .int .u64 0, .int .u64 0, .int .u64 0, .int .u64 0, .int .u64 0, .int .u64 0, .int .u64 0, .int .u64 0, .int .u64 0, .int .u64 0, .int .u64 0, .int .u64 0, .int .u64 0, .int .u64 0, .int .u64 0, .int .u64 0, .int .u64 0, .int .u64 0, .int .u64 0, .int .u64 0, .int .u64 0, .int .u64 0, .int .u64 0, .int .u64 0, .int .u64 0, .int .u64 0, .int .u64 0, .int .u64 0, .int .u64 0, .int .u64 0, .int .u64 0, .int .u64 0, .int .u64 0, .int .u64 0, .int .u64 0, .int .u64 0, .int .u64 0, .int .u64 0, .int .u64 0, .int .u64 0, .int .u64 0, .int .u64 0, .int .u64 0, .int .u64 0, .int .u64 0, .int .u64 0, .int .u64 0, .int .u64 0, .int .u64 0, .int .u64 0, .int .u64 0, .int .u64 0, .int .u64 0, .int .u64 0, .int .u64 0, .int .u64 0, .int .u64 0, .int .u64 0] 117)).far (g' := w3.heap.size) (by omega) (rowsA M0)
 have z6 := (z6.alloc (.cells #[.int .u64 0, .int .u64 0, .int .u64 0, .int .u64 0, .int .u64 0, .int .u64 0, .int .u64 0, .int .u64 0, .int .u64 0, .int .u64 0, .int .u64 0, .int .u64 0, .int .u64 0, .int .u64 0, .int .u64 0, .int .u64 0, .int .u64 0, .int .u64 0, .int .u64 0, .int .u64 0, .int .u64 0, .int .u64 0, .int .u64 0, .int .u64 0, .int .u64 0, .int .u64 0, .int .u64 0, .int .u64 0, .int .u64 0, .int .u64 0, .int .u64 0, .int .u64 0, .int .u64 0, .int .u64 0, .int .u64 0, .int .u64 0, .int .u64 0, .int .u64 0, .int .u64 0, .int .u64 0, .int .u64 0, .int .u64 0, .int .u64 0, .int .u64 0, .int .u64 0, .int .u64 0, .int .u64 0, .int .u64 0, .int .u64 0, .int .u64 0, .int .u64 0, .int .u64 0, .int .u64 0, .int .u64 0, .int .u64 0, .int .u64 0, .int .u64 0, .int .u64 0, .int .u64 0, .int .u64 0, .int .u64 0, .int .u64 0, .int .u64 0, .int .u64 0] 117)).far (g' := w3.heap.size) (by omega) (rowsA M0)
 have hb := below_setRow (hb5.alloc hb5.size (.cells #[.int .u64 0, .int .u64 0, .int .u64 0, .int .u64 0, .int .u64 0, .int .u64 0, .int .u64 0, .int .u64 0, .int .u64 0, .int .u64 0, .int .u64 0, .int .u64 0, .int .u64 0, .int .u64 0, .int .u64 0, .int .u64 0, .int .u64 0, .int .u64 0, .int .u64 0, .int .u64 0, .int .u64 0, .int .u64 0, .int .u64 0, .int .u64 0, .int .u64 0, .int .u64 0, .int .u64 0, .int .u64 0, .int .u64 0, .int .u64 0, .int .u64 0, .int .u64 0, .int .u64 0, .int .u64 0, .int .u64 0, .int .u64 0, .int .u64 0, .int .u64 0, .int .u64 0, .int .u64 0, .int .u64 0, .int .u64 0, .int .u64 0, .int .u64 0, .int .u64 0, .int .u64 0, .int .u64 0, .int .u64 0, .int .u64 0, .int .u64 0, .int .u64 0, .int .u64 0, .int .u64 0, .int .u64 0, .int .u64 0, .int .u64 0, .int .u64 0, .int .u64 0, .int .u64 0, .int .u64 0, .int .u64 0, .int .u64 0, .int .u64 0, .int .u64 0] 117)) (g := w3.heap.size) (by omega) (rowsA M0)
 clear hb5
 go_upto_region 3 with (with_reducible refine wpList_store_rel z8 M0 rfl _ _ rfl rfl rfl ?_)
 have z8 := z8.setRow M0
 generalize World.setRow _ _ _ = w4 at *
 generalize w3.heap.size = p8 at *
 by_cases e8 : q8 = 0
 ·subst e8
  go_upto_region 5 with fail
  by_cases e16 : q16 = 0
  ·have HE2 : Hid ((M0) = startM h x A) := hid (by rw [HQ.out]; rw [if_pos e16, if_pos rfl])
   subst e16
   obtain ⟨V, hV⟩ : ∃ V, V = M0 := ⟨_, rfl⟩
   have HE : Hid (V = startM h x A) := hid (by rw [hV]; exact HE2.out)
   rw [← hV] at z8
   clear hV HE2
   go_wp2_with fail
   go_loopg [] (4096 - cntP V) (fun g wx => ∃ U : Mat, 4096 ≤ g + cntP U ∧ RelAt wx p8 117 U ∧ RelAt wx p7 117 A ∧ RelAt wx w.heap.size 117 noR ∧ Grown V A (trB x) (pfB x) U ∧ Below w.heap.size w wx)
   case atStart => exact ⟨V, by have := cntP_le V; omega, z8, z7, z6, Grown.start V A _ _, hb⟩
   case round =>
    obtain ⟨U, hg, y8, y7, y6, hGr, hbr⟩ := hrel
    clear z8 z7 z6 hb
    have hTr := HT.out _ hbr
    go_wp2_with (first | (with_reducible refine wpList_load_rel y8 rfl _ rfl rfl ?_) | (with_reducible refine wpList_load_rel y7 rfl _ rfl rfl ?_))
    refine (lmore_any x U A _ hTr).mono ?_
    rintro e w5 ⟨rfl, hb5⟩
    have y8 := y8.below hb5 y8.lt
    have y7 := y7.below hb5 y7.lt
    have y6 := y6.below hb5 y6.lt
    have hb6 := hbr.trans (hb5.mono hbr.size)
    have hl8 := y8.lt
    have hGn := hGr.next
    have hGc := hGr.count
    have hGd := hGr.done
    have HG := hid (And.intro hGn (And.intro hGc hGd))
    clear hGn hGc hGd hGr hbr hb5 hTr
    generalize moreM U A (trB x) (pfB x) = N at *
    have z9 := zero_block w5
    have hs6 := hb6.size
    have y8 := (y8.alloc (.cells #[.int .u64 0, .int .u64 0, .int .u64 0, .int .u64 0, .int .u64 0, .int .u64 0, .int .u64 0, .int .u64 0, .int .u64 0, .int .u64 0, .int .u64 0, .int .u64 0, .int .u64 0, .int .u64 0, .int .u64 0, .int .u64 0, .int .u64 0, .int .u64 0, .int .u64 0, .int .u64 0, .int .u64 0, .int .u64 0, .int .u64 0, .int .u64 0, .int .u64 0, .int .u64 0, .int .u64 0, .int .u64 0, .int .u64 0, .int .u64 0, .int .u64 0, .int .u64 0, .int .u64 0, .int .u64 0, .int .u64 0, .int .u64 0, .int .u64 0, .int .u64 0, .int .u64 0, .int .u64 0, .int .u64 0, .int .u64 0, .int .u64 0, .int .u64 0, .int .u64 0, .int .u64 0, .int .u64 0, .int .u64 0, .int .u64 0, .int .u64 0, .int .u64 0, .int .u64 0, .int .u64 0, .int .u64 0, .int .u64 0, .int .u64 0, .int .u64 0, .int .u64 0, .int .u64 0, .int .u64 0, .int .u64 0, .int .u64 0, .int .u64 0, .int .u64 0] 117)).far (g' := w5.heap.size) (by omega) (rowsA N)
    have y7 := (y7.alloc (.cells #[.int .u64 0, .int .u64 0, .int .u64 0, .int .u64 0, .int .u64 0, .int .u64 0, .int .u64 0, .int .u64 0, .int .u64 0, .int .u64 0, .int .u64 0, .int .u64 0, .int .u64 0, .int .u64 0, .int .u64 0, .int .u64 0, .int .u64 0, .int .u64 0, .int .u64 0, .int .u64 0, .int .u64 0, .int .u64 0, .int .u64 0, .int .u64 0, .int .u64 0, .int .u64 0, .int .u64 0, .int .u64 0, .int .u64 0, .int .u64 0, .int .u64 0, .int .u64 0, .int .u64 0, .int .u64 0, .int .u64 0, .int .u64 0, .int .u64 0, .int .u64 0, .int .u64 0, .int .u64 0, .int .u64 0, .int .u64 0, .int .u64 0, .int .u64 0, .int .u64 0, .int .u64 0, .int .u64 0, .int .u64 0, .int .u64 0, .int .u64 0, .int .u64 0, .int .u64 0, .int .u64 0, .int .u64 0, .int .u64 0, .int .u64 0, .int .u64 0, .int .u64 0, .int .u64 0, .int .u64 0, .int .u64 0, .int .u64 0, .int .u64 0, .int .u64 0] 117)).far (g' := w5.heap.size) (by omega) (rowsA N)
    have y6 := (y6.alloc (.cells #[.int .u64 0, .int .u64 0, .int .u64 0, .int .u64 0, .int .u64 0, .int .u64 0, .int .u64 0, .int .u64 0, .int .u64 0, .int .u64 0, .int .u64 0, .int .u64 0, .int .u64 0, .int .u64 0, .int .u64 0, .int .u64 0, .int .u64 0, .int .u64 0, .int .u64 0, .int .u64 0, .int .u64 0, .int .u64 0, .int .u64 0, .int .u64 0, .int .u64 0, .int .u64 0, .int .u64 0, .int .u64 0, .int .u64 0, .int .u64 0, .int .u64 0, .int .u64 0, .int .u64 0, .int .u64 0, .int .u64 0, .int .u64 0, .int .u64 0, .int .u64 0, .int .u64 0, .int .u64 0, .int .u64 0, .int .u64 0, .int .u64 0, .int .u64 0, .int .u64 0, .int .u64 0, .int .u64 0, .int .u64 0, .int .u64 0, .int .u64 0, .int .u64 0, .int .u64 0, .int .u64 0, .int .u64 0, .int .u64 0, .int .u64 0, .int .u64 0, .int .u64 0, .int .u64 0, .int .u64 0, .int .u64 0, .int .u64 0, .int .u64 0, .int .u64 0] 117)).far (g' := w5.heap.size) (by omega) (rowsA N)
    have hb7 := below_setRow (hb6.alloc hb6.size (.cells #[.int .u64 0, .int .u64 0, .int .u64 0, .int .u64 0, .int .u64 0, .int .u64 0, .int .u64 0, .int .u64 0, .int .u64 0, .int .u64 0, .int .u64 0, .int .u64 0, .int .u64 0, .int .u64 0, .int .u64 0, .int .u64 0, .int .u64 0, .int .u64 0, .int .u64 0, .int .u64 0, .int .u64 0, .int .u64 0, .int .u64 0, .int .u64 0, .int .u64 0, .int .u64 0, .int .u64 0, .int .u64 0, .int .u64 0, .int .u64 0, .int .u64 0, .int .u64 0, .int .u64 0, .int .u64 0, .int .u64 0, .int .u64 0, .int .u64 0, .int .u64 0, .int .u64 0, .int .u64 0, .int .u64 0, .int .u64 0, .int .u64 0, .int .u64 0, .int .u64 0, .int .u64 0, .int .u64 0, .int .u64 0, .int .u64 0, .int .u64 0, .int .u64 0, .int .u64 0, .int .u64 0, .int .u64 0, .int .u64 0, .int .u64 0, .int .u64 0, .int .u64 0, .int .u64 0, .int .u64 0, .int .u64 0, .int .u64 0, .int .u64 0, .int .u64 0] 117)) (g := w5.heap.size) (by omega) (rowsA N)
    clear hb6
    go_upto_region 8 with (with_reducible refine wpList_store_rel z9 N rfl _ _ rfl rfl rfl ?_)
    have z9 := z9.setRow N
    generalize World.setRow _ _ _ = w6 at *
    have hl9 := z9.lt
    by_cases hf : rowsA N = rowsA U
    ·have E0 := fun w => run_eql_yes N U hf w
     have G0 := fun (x y : Operand) (w : World) => run_guard_rel .eql x y N U w
     have HF := hid hf
     clear hf
     go_wp2_with (first | (with_reducible refine wpList_load_rel z9 rfl _ rfl rfl ?_) | (with_reducible refine wpList_load_rel y8 rfl _ rfl rfl ?_) | (with_reducible refine wpList_store_rel y6 U rfl _ _ rfl rfl rfl ?_))
     have h3 := y6.setRow U
     exact bodyPost_ret (results_rel rfl _ _ _ _ rfl h3) rfl ⟨⟨U, rfl, by rw [← HE.out]; exact (HG.out.2.2 HF.out)⟩, below_setRow hb7 (Nat.le_refl _) _⟩
    ·have E0 := fun w => run_eql_no N U hf w
     have G0 := fun (x y : Operand) (w : World) => run_guard_rel .eql x y N U w
     have HF := hid hf
     have hcn := HG.out.2.1 hf
     have hcl := cntP_le N
     have hgk : 0 < gk := by omega
     have hgm : 4096 ≤ (gk - 1) + cntP N := by omega
     have y7 := y7.far (g' := p8) (by omega) (rowsA N)
     have y6 := y6.far (g' := p8) (by omega) (rowsA N)
     have hb8 := below_setRow hb7 (g := p8) (by omega) (rowsA N)
     have HG2 := hid HG.out.1
     clear hf hcn hcl HG HF
     go_wp2_with (first | (with_reducible refine wpList_load_rel z9 rfl _ rfl rfl ?_) | (with_reducible refine wpList_load_rel y8 rfl _ rfl rfl ?_) | (with_reducible refine wpList_store_rel y8 N rfl _ _ rfl rfl rfl ?_))
     have y8 := y8.setRow N
     go_roundg (gk - 1)
     case measure => omega
     case rel => exact ⟨N, hgm, y8, y7, y6, HG2.out, hb8⟩
  ·have HE2 : Hid ((orR (M0) A) = startM h x A) := hid (by rw [HQ.out]; rw [if_neg e16, if_pos rfl])
   go_wp2_with (first | (with_reducible refine wpList_load_rel z8 rfl _ rfl rfl ?_) | (with_reducible refine wpList_load_rel z7 rfl _ rfl rfl ?_))
   refine (union_any (M0) A _).mono ?_
   rintro e wu ⟨rfl, hbu⟩
   have z8 := z8.below hbu z8.lt
   have z7 := (z7.below hbu z7.lt).far (g' := p8) (by omega) (rowsA (orR (M0) A))
   have z6 := (z6.below hbu z6.lt).far (g' := p8) (by omega) (rowsA (orR (M0) A))
   have hb := below_setRow (hb.trans (hbu.mono hb.size)) (g := p8) (by omega) (rowsA (orR (M0) A))
   clear hbu
   go_wp2_with (with_reducible refine wpList_store_rel z8 (orR (M0) A) rfl _ _ rfl rfl rfl ?_)
   have z8 := z8.setRow (orR (M0) A)
   generalize World.setRow _ _ _ = wv at *
   obtain ⟨V, hV⟩ : ∃ V, V = orR (M0) A := ⟨_, rfl⟩
   have HE : Hid (V = startM h x A) := hid (by rw [hV]; exact HE2.out)
   rw [← hV] at z8
   clear hV HE2
   simp only [Act.put]
   go_loopg [] (4096 - cntP V) (fun g wx => ∃ U : Mat, 4096 ≤ g + cntP U ∧ RelAt wx p8 117 U ∧ RelAt wx p7 117 A ∧ RelAt wx w.heap.size 117 noR ∧ Grown V A (trB x) (pfB x) U ∧ Below w.heap.size w wx)
   case atStart => exact ⟨V, by have := cntP_le V; omega, z8, z7, z6, Grown.start V A _ _, hb⟩
   case round =>
    obtain ⟨U, hg, y8, y7, y6, hGr, hbr⟩ := hrel
    clear z8 z7 z6 hb
    have hTr := HT.out _ hbr
    go_wp2_with (first | (with_reducible refine wpList_load_rel y8 rfl _ rfl rfl ?_) | (with_reducible refine wpList_load_rel y7 rfl _ rfl rfl ?_))
    refine (lmore_any x U A _ hTr).mono ?_
    rintro e w5 ⟨rfl, hb5⟩
    have y8 := y8.below hb5 y8.lt
    have y7 := y7.below hb5 y7.lt
    have y6 := y6.below hb5 y6.lt
    have hb6 := hbr.trans (hb5.mono hbr.size)
    have hl8 := y8.lt
    have hGn := hGr.next
    have hGc := hGr.count
    have hGd := hGr.done
    have HG := hid (And.intro hGn (And.intro hGc hGd))
    clear hGn hGc hGd hGr hbr hb5 hTr
    generalize moreM U A (trB x) (pfB x) = N at *
    have z9 := zero_block w5
    have hs6 := hb6.size
    have y8 := (y8.alloc (.cells #[.int .u64 0, .int .u64 0, .int .u64 0, .int .u64 0, .int .u64 0, .int .u64 0, .int .u64 0, .int .u64 0, .int .u64 0, .int .u64 0, .int .u64 0, .int .u64 0, .int .u64 0, .int .u64 0, .int .u64 0, .int .u64 0, .int .u64 0, .int .u64 0, .int .u64 0, .int .u64 0, .int .u64 0, .int .u64 0, .int .u64 0, .int .u64 0, .int .u64 0, .int .u64 0, .int .u64 0, .int .u64 0, .int .u64 0, .int .u64 0, .int .u64 0, .int .u64 0, .int .u64 0, .int .u64 0, .int .u64 0, .int .u64 0, .int .u64 0, .int .u64 0, .int .u64 0, .int .u64 0, .int .u64 0, .int .u64 0, .int .u64 0, .int .u64 0, .int .u64 0, .int .u64 0, .int .u64 0, .int .u64 0, .int .u64 0, .int .u64 0, .int .u64 0, .int .u64 0, .int .u64 0, .int .u64 0, .int .u64 0, .int .u64 0, .int .u64 0, .int .u64 0, .int .u64 0, .int .u64 0, .int .u64 0, .int .u64 0, .int .u64 0, .int .u64 0] 117)).far (g' := w5.heap.size) (by omega) (rowsA N)
    have y7 := (y7.alloc (.cells #[.int .u64 0, .int .u64 0, .int .u64 0, .int .u64 0, .int .u64 0, .int .u64 0, .int .u64 0, .int .u64 0, .int .u64 0, .int .u64 0, .int .u64 0, .int .u64 0, .int .u64 0, .int .u64 0, .int .u64 0, .int .u64 0, .int .u64 0, .int .u64 0, .int .u64 0, .int .u64 0, .int .u64 0, .int .u64 0, .int .u64 0, .int .u64 0, .int .u64 0, .int .u64 0, .int .u64 0, .int .u64 0, .int .u64 0, .int .u64 0, .int .u64 0, .int .u64 0, .int .u64 0, .int .u64 0, .int .u64 0, .int .u64 0, .int .u64 0, .int .u64 0, .int .u64 0, .int .u64 0, .int .u64 0, .int .u64 0, .int .u64 0, .int .u64 0, .int .u64 0, .int .u64 0, .int .u64 0, .int .u64 0, .int .u64 0, .int .u64 0, .int .u64 0, .int .u64 0, .int .u64 0, .int .u64 0, .int .u64 0, .int .u64 0, .int .u64 0, .int .u64 0, .int .u64 0, .int .u64 0, .int .u64 0, .int .u64 0, .int .u64 0, .int .u64 0] 117)).far (g' := w5.heap.size) (by omega) (rowsA N)
    have y6 := (y6.alloc (.cells #[.int .u64 0, .int .u64 0, .int .u64 0, .int .u64 0, .int .u64 0, .int .u64 0, .int .u64 0, .int .u64 0, .int .u64 0, .int .u64 0, .int .u64 0, .int .u64 0, .int .u64 0, .int .u64 0, .int .u64 0, .int .u64 0, .int .u64 0, .int .u64 0, .int .u64 0, .int .u64 0, .int .u64 0, .int .u64 0, .int .u64 0, .int .u64 0, .int .u64 0, .int .u64 0, .int .u64 0, .int .u64 0, .int .u64 0, .int .u64 0, .int .u64 0, .int .u64 0, .int .u64 0, .int .u64 0, .int .u64 0, .int .u64 0, .int .u64 0, .int .u64 0, .int .u64 0, .int .u64 0, .int .u64 0, .int .u64 0, .int .u64 0, .int .u64 0, .int .u64 0, .int .u64 0, .int .u64 0, .int .u64 0, .int .u64 0, .int .u64 0, .int .u64 0, .int .u64 0, .int .u64 0, .int .u64 0, .int .u64 0, .int .u64 0, .int .u64 0, .int .u64 0, .int .u64 0, .int .u64 0, .int .u64 0, .int .u64 0, .int .u64 0, .int .u64 0] 117)).far (g' := w5.heap.size) (by omega) (rowsA N)
    have hb7 := below_setRow (hb6.alloc hb6.size (.cells #[.int .u64 0, .int .u64 0, .int .u64 0, .int .u64 0, .int .u64 0, .int .u64 0, .int .u64 0, .int .u64 0, .int .u64 0, .int .u64 0, .int .u64 0, .int .u64 0, .int .u64 0, .int .u64 0, .int .u64 0, .int .u64 0, .int .u64 0, .int .u64 0, .int .u64 0, .int .u64 0, .int .u64 0, .int .u64 0, .int .u64 0, .int .u64 0, .int .u64 0, .int .u64 0, .int .u64 0, .int .u64 0, .int .u64 0, .int .u64 0, .int .u64 0, .int .u64 0, .int .u64 0, .int .u64 0, .int .u64 0, .int .u64 0, .int .u64 0, .int .u64 0, .int .u64 0, .int .u64 0, .int .u64 0, .int .u64 0, .int .u64 0, .int .u64 0, .int .u64 0, .int .u64 0, .int .u64 0, .int .u64 0, .int .u64 0, .int .u64 0, .int .u64 0, .int .u64 0, .int .u64 0, .int .u64 0, .int .u64 0, .int .u64 0, .int .u64 0, .int .u64 0, .int .u64 0, .int .u64 0, .int .u64 0, .int .u64 0, .int .u64 0, .int .u64 0] 117)) (g := w5.heap.size) (by omega) (rowsA N)
    clear hb6
    go_upto_region 8 with (with_reducible refine wpList_store_rel z9 N rfl _ _ rfl rfl rfl ?_)
    have z9 := z9.setRow N
    generalize World.setRow _ _ _ = w6 at *
    have hl9 := z9.lt
    by_cases hf : rowsA N = rowsA U
    ·have E0 := fun w => run_eql_yes N U hf w
     have G0 := fun (x y : Operand) (w : World) => run_guard_rel .eql x y N U w
     have HF := hid hf
     clear hf
     go_wp2_with (first | (with_reducible refine wpList_load_rel z9 rfl _ rfl rfl ?_) | (with_reducible refine wpList_load_rel y8 rfl _ rfl rfl ?_) | (with_reducible refine wpList_store_rel y6 U rfl _ _ rfl rfl rfl ?_))
     have h3 := y6.setRow U
     exact bodyPost_ret (results_rel rfl _ _ _ _ rfl h3) rfl ⟨⟨U, rfl, by rw [← HE.out]; exact (HG.out.2.2 HF.out)⟩, below_setRow hb7 (Nat.le_refl _) _⟩
    ·have E0 := fun w => run_eql_no N U hf w
     have G0 := fun (x y : Operand) (w : World) => run_guard_rel .eql x y N U w
     have HF := hid hf
     have hcn := HG.out.2.1 hf
     have hcl := cntP_le N
     have hgk : 0 < gk := by omega
     have hgm : 4096 ≤ (gk - 1) + cntP N := by omega
     have y7 := y7.far (g' := p8) (by omega) (rowsA N)
     have y6 := y6.far (g' := p8) (by omega) (rowsA N)
     have hb8 := below_setRow hb7 (g := p8) (by omega) (rowsA N)
     have HG2 := hid HG.out.1
     clear hf hcn hcl HG HF
     go_wp2_with (first | (with_reducible refine wpList_load_rel z9 rfl _ rfl rfl ?_) | (with_reducible refine wpList_load_rel y8 rfl _ rfl rfl ?_) | (with_reducible refine wpList_store_rel y8 N rfl _ _ rfl rfl rfl ?_))
     have y8 := y8.setRow N
     go_roundg (gk - 1)
     case measure => omega
     case rel => exact ⟨N, hgm, y8, y7, y6, HG2.out, hb8⟩
 ·go_upto_region 4 with fail
  have kd := (Below.refl w4.heap.size w4).drew
  have HV : Hid (∀ wx, Below w4.heap.size w4 wx → RelAt wx p8 117 (M0)) := hid (fun wx hx => z8.below hx z8.lt)
  have HA : Hid (∀ wx, Below w4.heap.size w4 wx → RelAt wx p7 117 A) := hid (fun wx hx => z7.below hx z7.lt)
  have HZ : Hid (∀ wx, Below w4.heap.size w4 wx → RelAt wx w.heap.size 117 noR) := hid (fun wx hx => z6.below hx z6.lt)
  have HB := hid (fun wx (hx : Below w4.heap.size w4 wx) => hb.trans (hx.mono hb.size))
  have CR := hid (fun wx (hx : Below w4.heap.size w4 wx) => lrivals_any A h B b wx (HO.out wx (hb.trans (hx.mono hb.size))) HC.out)
  clear z6 z7 z8 hb
  refine wp_region_held_drew (S := fun wx => RelAt wx p7 117 A) (by kernel_rfl) (HA.out _ kd) (fun hS0 => ?_)
  refine tG (some 19) 1 ?v1 rfl rfl (Or.inl ⟨by rfl, ?h1⟩) hS0 ?r1
  case h1 => (intro w hw; go_simp; try (with_reducible rfl))
  try simp only [Act.put, zA, zB, zC]
  refine tG (some 20) 2 _ rfl rfl (yields_rel (by rfl) _ rfl rfl (fun wx hx => hx)) hS0 ?_
  try simp only [Act.put, zA, zB, zC]
  refine wpAnyH_ready (rs := [0, 3]) (by kernel_rfl) (by simp) ?_
  refine AllReadyH.cons rfl (fun K hK => ?_) (AllReadyH.cons rfl (fun K hK => ?_) AllReadyH.nil)
  ·
   rw [if_pos (by rfl)]
   refine wp_load_rel (HV.out _ kd) _ rfl rfl ?_
   refine hK.out _ _ hS0 (fun _ => ?_)
   clear hK K
   refine rD 3 rfl (fun K hK => ?_)
   go_simp
   refine (CR.out _ kd).mono ?_
   rintro e q1 ⟨rfl, hq1⟩
   show K _ _
   have k1 := below_then kd hq1
   have s1 := HA.out _ k1
   refine hK.out _ _ s1 (fun _ => ?_)
   clear hK K
   refine rD 4 rfl (fun K hK => ?_)
   go_simp
   refine (union_any (M0) (rivM h A) _).mono ?_
   rintro e q2 ⟨rfl, hq2⟩
   show K _ _
   have k2 := below_then k1 hq2
   have s2 := HA.out _ k2
   refine hK.out _ _ s2 (fun _ => ?_)
   clear hK K
   refine rD 5 rfl (fun K hK => ?_)
   rw [if_pos (by rfl)]
   refine wp_store_rel (HV.out _ k2) (orR (M0) (rivM h A)) _ _ rfl rfl rfl ?_
   refine hK.out _ _ ((HA.out _ k2).far (by omega) _) (fun _ => ?_)
   clear hK K
   refine wpAnyH_done (by kernel_rfl) ?_ _
   have z8 := (HV.out _ k2).setRow (orR (M0) (rivM h A))
   have z7 := (HA.out _ k2).far (g' := p8) (by omega) (rowsA (orR (M0) (rivM h A)))
   have z6 := (HZ.out _ k2).far (g' := p8) (by omega) (rowsA (orR (M0) (rivM h A)))
   have hb := below_setRow (HB.out _ k2) (g := p8) (by omega) (rowsA (orR (M0) (rivM h A)))
   generalize World.setRow _ _ _ = w6 at *
   clear HV HA HZ HB CR kd
   go_upto_region 5 with fail
   by_cases e16 : q16 = 0
   ·have HE2 : Hid ((orR (M0) (rivM h A)) = startM h x A) := hid (by rw [HQ.out]; rw [if_pos e16, if_neg e8])
    subst e16
    obtain ⟨V, hV⟩ : ∃ V, V = orR (M0) (rivM h A) := ⟨_, rfl⟩
    have HE : Hid (V = startM h x A) := hid (by rw [hV]; exact HE2.out)
    rw [← hV] at z8
    clear hV HE2
    go_wp2_with fail
    go_loopg [] (4096 - cntP V) (fun g wx => ∃ U : Mat, 4096 ≤ g + cntP U ∧ RelAt wx p8 117 U ∧ RelAt wx p7 117 A ∧ RelAt wx w.heap.size 117 noR ∧ Grown V A (trB x) (pfB x) U ∧ Below w.heap.size w wx)
    case atStart => exact ⟨V, by have := cntP_le V; omega, z8, z7, z6, Grown.start V A _ _, hb⟩
    case round =>
     obtain ⟨U, hg, y8, y7, y6, hGr, hbr⟩ := hrel
     clear z8 z7 z6 hb
     have hTr := HT.out _ hbr
     go_wp2_with (first | (with_reducible refine wpList_load_rel y8 rfl _ rfl rfl ?_) | (with_reducible refine wpList_load_rel y7 rfl _ rfl rfl ?_))
     refine (lmore_any x U A _ hTr).mono ?_
     rintro e w5 ⟨rfl, hb5⟩
     have y8 := y8.below hb5 y8.lt
     have y7 := y7.below hb5 y7.lt
     have y6 := y6.below hb5 y6.lt
     have hb6 := hbr.trans (hb5.mono hbr.size)
     have hl8 := y8.lt
     have hGn := hGr.next
     have hGc := hGr.count
     have hGd := hGr.done
     have HG := hid (And.intro hGn (And.intro hGc hGd))
     clear hGn hGc hGd hGr hbr hb5 hTr
     generalize moreM U A (trB x) (pfB x) = N at *
     have z9 := zero_block w5
     have hs6 := hb6.size
     have y8 := (y8.alloc (.cells #[.int .u64 0, .int .u64 0, .int .u64 0, .int .u64 0, .int .u64 0, .int .u64 0, .int .u64 0, .int .u64 0, .int .u64 0, .int .u64 0, .int .u64 0, .int .u64 0, .int .u64 0, .int .u64 0, .int .u64 0, .int .u64 0, .int .u64 0, .int .u64 0, .int .u64 0, .int .u64 0, .int .u64 0, .int .u64 0, .int .u64 0, .int .u64 0, .int .u64 0, .int .u64 0, .int .u64 0, .int .u64 0, .int .u64 0, .int .u64 0, .int .u64 0, .int .u64 0, .int .u64 0, .int .u64 0, .int .u64 0, .int .u64 0, .int .u64 0, .int .u64 0, .int .u64 0, .int .u64 0, .int .u64 0, .int .u64 0, .int .u64 0, .int .u64 0, .int .u64 0, .int .u64 0, .int .u64 0, .int .u64 0, .int .u64 0, .int .u64 0, .int .u64 0, .int .u64 0, .int .u64 0, .int .u64 0, .int .u64 0, .int .u64 0, .int .u64 0, .int .u64 0, .int .u64 0, .int .u64 0, .int .u64 0, .int .u64 0, .int .u64 0, .int .u64 0] 117)).far (g' := w5.heap.size) (by omega) (rowsA N)
     have y7 := (y7.alloc (.cells #[.int .u64 0, .int .u64 0, .int .u64 0, .int .u64 0, .int .u64 0, .int .u64 0, .int .u64 0, .int .u64 0, .int .u64 0, .int .u64 0, .int .u64 0, .int .u64 0, .int .u64 0, .int .u64 0, .int .u64 0, .int .u64 0, .int .u64 0, .int .u64 0, .int .u64 0, .int .u64 0, .int .u64 0, .int .u64 0, .int .u64 0, .int .u64 0, .int .u64 0, .int .u64 0, .int .u64 0, .int .u64 0, .int .u64 0, .int .u64 0, .int .u64 0, .int .u64 0, .int .u64 0, .int .u64 0, .int .u64 0, .int .u64 0, .int .u64 0, .int .u64 0, .int .u64 0, .int .u64 0, .int .u64 0, .int .u64 0, .int .u64 0, .int .u64 0, .int .u64 0, .int .u64 0, .int .u64 0, .int .u64 0, .int .u64 0, .int .u64 0, .int .u64 0, .int .u64 0, .int .u64 0, .int .u64 0, .int .u64 0, .int .u64 0, .int .u64 0, .int .u64 0, .int .u64 0, .int .u64 0, .int .u64 0, .int .u64 0, .int .u64 0, .int .u64 0] 117)).far (g' := w5.heap.size) (by omega) (rowsA N)
     have y6 := (y6.alloc (.cells #[.int .u64 0, .int .u64 0, .int .u64 0, .int .u64 0, .int .u64 0, .int .u64 0, .int .u64 0, .int .u64 0, .int .u64 0, .int .u64 0, .int .u64 0, .int .u64 0, .int .u64 0, .int .u64 0, .int .u64 0, .int .u64 0, .int .u64 0, .int .u64 0, .int .u64 0, .int .u64 0, .int .u64 0, .int .u64 0, .int .u64 0, .int .u64 0, .int .u64 0, .int .u64 0, .int .u64 0, .int .u64 0, .int .u64 0, .int .u64 0, .int .u64 0, .int .u64 0, .int .u64 0, .int .u64 0, .int .u64 0, .int .u64 0, .int .u64 0, .int .u64 0, .int .u64 0, .int .u64 0, .int .u64 0, .int .u64 0, .int .u64 0, .int .u64 0, .int .u64 0, .int .u64 0, .int .u64 0, .int .u64 0, .int .u64 0, .int .u64 0, .int .u64 0, .int .u64 0, .int .u64 0, .int .u64 0, .int .u64 0, .int .u64 0, .int .u64 0, .int .u64 0, .int .u64 0, .int .u64 0, .int .u64 0, .int .u64 0, .int .u64 0, .int .u64 0] 117)).far (g' := w5.heap.size) (by omega) (rowsA N)
     have hb7 := below_setRow (hb6.alloc hb6.size (.cells #[.int .u64 0, .int .u64 0, .int .u64 0, .int .u64 0, .int .u64 0, .int .u64 0, .int .u64 0, .int .u64 0, .int .u64 0, .int .u64 0, .int .u64 0, .int .u64 0, .int .u64 0, .int .u64 0, .int .u64 0, .int .u64 0, .int .u64 0, .int .u64 0, .int .u64 0, .int .u64 0, .int .u64 0, .int .u64 0, .int .u64 0, .int .u64 0, .int .u64 0, .int .u64 0, .int .u64 0, .int .u64 0, .int .u64 0, .int .u64 0, .int .u64 0, .int .u64 0, .int .u64 0, .int .u64 0, .int .u64 0, .int .u64 0, .int .u64 0, .int .u64 0, .int .u64 0, .int .u64 0, .int .u64 0, .int .u64 0, .int .u64 0, .int .u64 0, .int .u64 0, .int .u64 0, .int .u64 0, .int .u64 0, .int .u64 0, .int .u64 0, .int .u64 0, .int .u64 0, .int .u64 0, .int .u64 0, .int .u64 0, .int .u64 0, .int .u64 0, .int .u64 0, .int .u64 0, .int .u64 0, .int .u64 0, .int .u64 0, .int .u64 0, .int .u64 0] 117)) (g := w5.heap.size) (by omega) (rowsA N)
     clear hb6
     go_upto_region 8 with (with_reducible refine wpList_store_rel z9 N rfl _ _ rfl rfl rfl ?_)
     have z9 := z9.setRow N
     generalize World.setRow _ _ _ = w6 at *
     have hl9 := z9.lt
     by_cases hf : rowsA N = rowsA U
     ·have E0 := fun w => run_eql_yes N U hf w
      have G0 := fun (x y : Operand) (w : World) => run_guard_rel .eql x y N U w
      have HF := hid hf
      clear hf
      go_wp2_with (first | (with_reducible refine wpList_load_rel z9 rfl _ rfl rfl ?_) | (with_reducible refine wpList_load_rel y8 rfl _ rfl rfl ?_) | (with_reducible refine wpList_store_rel y6 U rfl _ _ rfl rfl rfl ?_))
      have h3 := y6.setRow U
      exact bodyPost_ret (results_rel rfl _ _ _ _ rfl h3) rfl ⟨⟨U, rfl, by rw [← HE.out]; exact (HG.out.2.2 HF.out)⟩, below_setRow hb7 (Nat.le_refl _) _⟩
     ·have E0 := fun w => run_eql_no N U hf w
      have G0 := fun (x y : Operand) (w : World) => run_guard_rel .eql x y N U w
      have HF := hid hf
      have hcn := HG.out.2.1 hf
      have hcl := cntP_le N
      have hgk : 0 < gk := by omega
      have hgm : 4096 ≤ (gk - 1) + cntP N := by omega
      have y7 := y7.far (g' := p8) (by omega) (rowsA N)
      have y6 := y6.far (g' := p8) (by omega) (rowsA N)
      have hb8 := below_setRow hb7 (g := p8) (by omega) (rowsA N)
      have HG2 := hid HG.out.1
      clear hf hcn hcl HG HF
      go_wp2_with (first | (with_reducible refine wpList_load_rel z9 rfl _ rfl rfl ?_) | (with_reducible refine wpList_load_rel y8 rfl _ rfl rfl ?_) | (with_reducible refine wpList_store_rel y8 N rfl _ _ rfl rfl rfl ?_))
      have y8 := y8.setRow N
      go_roundg (gk - 1)
      case measure => omega
      case rel => exact ⟨N, hgm, y8, y7, y6, HG2.out, hb8⟩
   ·have HE2 : Hid ((orR (orR (M0) (rivM h A)) A) = startM h x A) := hid (by rw [HQ.out]; rw [if_neg e16, if_neg e8])
    go_wp2_with (first | (with_reducible refine wpList_load_rel z8 rfl _ rfl rfl ?_) | (with_reducible refine wpList_load_rel z7 rfl _ rfl rfl ?_))
    refine (union_any (orR (M0) (rivM h A)) A _).mono ?_
    rintro e wu ⟨rfl, hbu⟩
    have z8 := z8.below hbu z8.lt
    have z7 := (z7.below hbu z7.lt).far (g' := p8) (by omega) (rowsA (orR (orR (M0) (rivM h A)) A))
    have z6 := (z6.below hbu z6.lt).far (g' := p8) (by omega) (rowsA (orR (orR (M0) (rivM h A)) A))
    have hb := below_setRow (hb.trans (hbu.mono hb.size)) (g := p8) (by omega) (rowsA (orR (orR (M0) (rivM h A)) A))
    clear hbu
    go_wp2_with (with_reducible refine wpList_store_rel z8 (orR (orR (M0) (rivM h A)) A) rfl _ _ rfl rfl rfl ?_)
    have z8 := z8.setRow (orR (orR (M0) (rivM h A)) A)
    generalize World.setRow _ _ _ = wv at *
    obtain ⟨V, hV⟩ : ∃ V, V = orR (orR (M0) (rivM h A)) A := ⟨_, rfl⟩
    have HE : Hid (V = startM h x A) := hid (by rw [hV]; exact HE2.out)
    rw [← hV] at z8
    clear hV HE2
    simp only [Act.put]
    go_loopg [] (4096 - cntP V) (fun g wx => ∃ U : Mat, 4096 ≤ g + cntP U ∧ RelAt wx p8 117 U ∧ RelAt wx p7 117 A ∧ RelAt wx w.heap.size 117 noR ∧ Grown V A (trB x) (pfB x) U ∧ Below w.heap.size w wx)
    case atStart => exact ⟨V, by have := cntP_le V; omega, z8, z7, z6, Grown.start V A _ _, hb⟩
    case round =>
     obtain ⟨U, hg, y8, y7, y6, hGr, hbr⟩ := hrel
     clear z8 z7 z6 hb
     have hTr := HT.out _ hbr
     go_wp2_with (first | (with_reducible refine wpList_load_rel y8 rfl _ rfl rfl ?_) | (with_reducible refine wpList_load_rel y7 rfl _ rfl rfl ?_))
     refine (lmore_any x U A _ hTr).mono ?_
     rintro e w5 ⟨rfl, hb5⟩
     have y8 := y8.below hb5 y8.lt
     have y7 := y7.below hb5 y7.lt
     have y6 := y6.below hb5 y6.lt
     have hb6 := hbr.trans (hb5.mono hbr.size)
     have hl8 := y8.lt
     have hGn := hGr.next
     have hGc := hGr.count
     have hGd := hGr.done
     have HG := hid (And.intro hGn (And.intro hGc hGd))
     clear hGn hGc hGd hGr hbr hb5 hTr
     generalize moreM U A (trB x) (pfB x) = N at *
     have z9 := zero_block w5
     have hs6 := hb6.size
     have y8 := (y8.alloc (.cells #[.int .u64 0, .int .u64 0, .int .u64 0, .int .u64 0, .int .u64 0, .int .u64 0, .int .u64 0, .int .u64 0, .int .u64 0, .int .u64 0, .int .u64 0, .int .u64 0, .int .u64 0, .int .u64 0, .int .u64 0, .int .u64 0, .int .u64 0, .int .u64 0, .int .u64 0, .int .u64 0, .int .u64 0, .int .u64 0, .int .u64 0, .int .u64 0, .int .u64 0, .int .u64 0, .int .u64 0, .int .u64 0, .int .u64 0, .int .u64 0, .int .u64 0, .int .u64 0, .int .u64 0, .int .u64 0, .int .u64 0, .int .u64 0, .int .u64 0, .int .u64 0, .int .u64 0, .int .u64 0, .int .u64 0, .int .u64 0, .int .u64 0, .int .u64 0, .int .u64 0, .int .u64 0, .int .u64 0, .int .u64 0, .int .u64 0, .int .u64 0, .int .u64 0, .int .u64 0, .int .u64 0, .int .u64 0, .int .u64 0, .int .u64 0, .int .u64 0, .int .u64 0, .int .u64 0, .int .u64 0, .int .u64 0, .int .u64 0, .int .u64 0, .int .u64 0] 117)).far (g' := w5.heap.size) (by omega) (rowsA N)
     have y7 := (y7.alloc (.cells #[.int .u64 0, .int .u64 0, .int .u64 0, .int .u64 0, .int .u64 0, .int .u64 0, .int .u64 0, .int .u64 0, .int .u64 0, .int .u64 0, .int .u64 0, .int .u64 0, .int .u64 0, .int .u64 0, .int .u64 0, .int .u64 0, .int .u64 0, .int .u64 0, .int .u64 0, .int .u64 0, .int .u64 0, .int .u64 0, .int .u64 0, .int .u64 0, .int .u64 0, .int .u64 0, .int .u64 0, .int .u64 0, .int .u64 0, .int .u64 0, .int .u64 0, .int .u64 0, .int .u64 0, .int .u64 0, .int .u64 0, .int .u64 0, .int .u64 0, .int .u64 0, .int .u64 0, .int .u64 0, .int .u64 0, .int .u64 0, .int .u64 0, .int .u64 0, .int .u64 0, .int .u64 0, .int .u64 0, .int .u64 0, .int .u64 0, .int .u64 0, .int .u64 0, .int .u64 0, .int .u64 0, .int .u64 0, .int .u64 0, .int .u64 0, .int .u64 0, .int .u64 0, .int .u64 0, .int .u64 0, .int .u64 0, .int .u64 0, .int .u64 0, .int .u64 0] 117)).far (g' := w5.heap.size) (by omega) (rowsA N)
     have y6 := (y6.alloc (.cells #[.int .u64 0, .int .u64 0, .int .u64 0, .int .u64 0, .int .u64 0, .int .u64 0, .int .u64 0, .int .u64 0, .int .u64 0, .int .u64 0, .int .u64 0, .int .u64 0, .int .u64 0, .int .u64 0, .int .u64 0, .int .u64 0, .int .u64 0, .int .u64 0, .int .u64 0, .int .u64 0, .int .u64 0, .int .u64 0, .int .u64 0, .int .u64 0, .int .u64 0, .int .u64 0, .int .u64 0, .int .u64 0, .int .u64 0, .int .u64 0, .int .u64 0, .int .u64 0, .int .u64 0, .int .u64 0, .int .u64 0, .int .u64 0, .int .u64 0, .int .u64 0, .int .u64 0, .int .u64 0, .int .u64 0, .int .u64 0, .int .u64 0, .int .u64 0, .int .u64 0, .int .u64 0, .int .u64 0, .int .u64 0, .int .u64 0, .int .u64 0, .int .u64 0, .int .u64 0, .int .u64 0, .int .u64 0, .int .u64 0, .int .u64 0, .int .u64 0, .int .u64 0, .int .u64 0, .int .u64 0, .int .u64 0, .int .u64 0, .int .u64 0, .int .u64 0] 117)).far (g' := w5.heap.size) (by omega) (rowsA N)
     have hb7 := below_setRow (hb6.alloc hb6.size (.cells #[.int .u64 0, .int .u64 0, .int .u64 0, .int .u64 0, .int .u64 0, .int .u64 0, .int .u64 0, .int .u64 0, .int .u64 0, .int .u64 0, .int .u64 0, .int .u64 0, .int .u64 0, .int .u64 0, .int .u64 0, .int .u64 0, .int .u64 0, .int .u64 0, .int .u64 0, .int .u64 0, .int .u64 0, .int .u64 0, .int .u64 0, .int .u64 0, .int .u64 0, .int .u64 0, .int .u64 0, .int .u64 0, .int .u64 0, .int .u64 0, .int .u64 0, .int .u64 0, .int .u64 0, .int .u64 0, .int .u64 0, .int .u64 0, .int .u64 0, .int .u64 0, .int .u64 0, .int .u64 0, .int .u64 0, .int .u64 0, .int .u64 0, .int .u64 0, .int .u64 0, .int .u64 0, .int .u64 0, .int .u64 0, .int .u64 0, .int .u64 0, .int .u64 0, .int .u64 0, .int .u64 0, .int .u64 0, .int .u64 0, .int .u64 0, .int .u64 0, .int .u64 0, .int .u64 0, .int .u64 0, .int .u64 0, .int .u64 0, .int .u64 0, .int .u64 0] 117)) (g := w5.heap.size) (by omega) (rowsA N)
     clear hb6
     go_upto_region 8 with (with_reducible refine wpList_store_rel z9 N rfl _ _ rfl rfl rfl ?_)
     have z9 := z9.setRow N
     generalize World.setRow _ _ _ = w6 at *
     have hl9 := z9.lt
     by_cases hf : rowsA N = rowsA U
     ·have E0 := fun w => run_eql_yes N U hf w
      have G0 := fun (x y : Operand) (w : World) => run_guard_rel .eql x y N U w
      have HF := hid hf
      clear hf
      go_wp2_with (first | (with_reducible refine wpList_load_rel z9 rfl _ rfl rfl ?_) | (with_reducible refine wpList_load_rel y8 rfl _ rfl rfl ?_) | (with_reducible refine wpList_store_rel y6 U rfl _ _ rfl rfl rfl ?_))
      have h3 := y6.setRow U
      exact bodyPost_ret (results_rel rfl _ _ _ _ rfl h3) rfl ⟨⟨U, rfl, by rw [← HE.out]; exact (HG.out.2.2 HF.out)⟩, below_setRow hb7 (Nat.le_refl _) _⟩
     ·have E0 := fun w => run_eql_no N U hf w
      have G0 := fun (x y : Operand) (w : World) => run_guard_rel .eql x y N U w
      have HF := hid hf
      have hcn := HG.out.2.1 hf
      have hcl := cntP_le N
      have hgk : 0 < gk := by omega
      have hgm : 4096 ≤ (gk - 1) + cntP N := by omega
      have y7 := y7.far (g' := p8) (by omega) (rowsA N)
      have y6 := y6.far (g' := p8) (by omega) (rowsA N)
      have hb8 := below_setRow hb7 (g := p8) (by omega) (rowsA N)
      have HG2 := hid HG.out.1
      clear hf hcn hcl HG HF
      go_wp2_with (first | (with_reducible refine wpList_load_rel z9 rfl _ rfl rfl ?_) | (with_reducible refine wpList_load_rel y8 rfl _ rfl rfl ?_) | (with_reducible refine wpList_store_rel y8 N rfl _ _ rfl rfl rfl ?_))
      have y8 := y8.setRow N
      go_roundg (gk - 1)
      case measure => omega
      case rel => exact ⟨N, hgm, y8, y7, y6, HG2.out, hb8⟩
  ·
   go_simp
   refine (CR.out _ kd).mono ?_
   rintro e q3 ⟨rfl, hq3⟩
   show K _ _
   have k3 := below_then kd hq3
   have s3 := HA.out _ k3
   refine hK.out _ _ s3 (fun _ => ?_)
   clear hK K
   refine rD 0 rfl (fun K hK => ?_)
   rw [if_pos (by rfl)]
   refine wp_load_rel (HV.out _ k3) _ rfl rfl ?_
   refine hK.out _ _ s3 (fun _ => ?_)
   clear hK K
   refine rD 4 rfl (fun K hK => ?_)
   go_simp
   refine (union_any (M0) (rivM h A) _).mono ?_
   rintro e q4 ⟨rfl, hq4⟩
   show K _ _
   have k4 := below_then k3 hq4
   have s4 := HA.out _ k4
   refine hK.out _ _ s4 (fun _ => ?_)
   clear hK K
   refine rD 5 rfl (fun K hK => ?_)
   rw [if_pos (by rfl)]
   refine wp_store_rel (HV.out _ k4) (orR (M0) (rivM h A)) _ _ rfl rfl rfl ?_
   refine hK.out _ _ ((HA.out _ k4).far (by omega) _) (fun _ => ?_)
   clear hK K
   refine wpAnyH_done (by kernel_rfl) ?_ _
   have z8 := (HV.out _ k4).setRow (orR (M0) (rivM h A))
   have z7 := (HA.out _ k4).far (g' := p8) (by omega) (rowsA (orR (M0) (rivM h A)))
   have z6 := (HZ.out _ k4).far (g' := p8) (by omega) (rowsA (orR (M0) (rivM h A)))
   have hb := below_setRow (HB.out _ k4) (g := p8) (by omega) (rowsA (orR (M0) (rivM h A)))
   generalize World.setRow _ _ _ = w6 at *
   clear HV HA HZ HB CR kd
   go_upto_region 5 with fail
   by_cases e16 : q16 = 0
   ·have HE2 : Hid ((orR (M0) (rivM h A)) = startM h x A) := hid (by rw [HQ.out]; rw [if_pos e16, if_neg e8])
    subst e16
    obtain ⟨V, hV⟩ : ∃ V, V = orR (M0) (rivM h A) := ⟨_, rfl⟩
    have HE : Hid (V = startM h x A) := hid (by rw [hV]; exact HE2.out)
    rw [← hV] at z8
    clear hV HE2
    go_wp2_with fail
    go_loopg [] (4096 - cntP V) (fun g wx => ∃ U : Mat, 4096 ≤ g + cntP U ∧ RelAt wx p8 117 U ∧ RelAt wx p7 117 A ∧ RelAt wx w.heap.size 117 noR ∧ Grown V A (trB x) (pfB x) U ∧ Below w.heap.size w wx)
    case atStart => exact ⟨V, by have := cntP_le V; omega, z8, z7, z6, Grown.start V A _ _, hb⟩
    case round =>
     obtain ⟨U, hg, y8, y7, y6, hGr, hbr⟩ := hrel
     clear z8 z7 z6 hb
     have hTr := HT.out _ hbr
     go_wp2_with (first | (with_reducible refine wpList_load_rel y8 rfl _ rfl rfl ?_) | (with_reducible refine wpList_load_rel y7 rfl _ rfl rfl ?_))
     refine (lmore_any x U A _ hTr).mono ?_
     rintro e w5 ⟨rfl, hb5⟩
     have y8 := y8.below hb5 y8.lt
     have y7 := y7.below hb5 y7.lt
     have y6 := y6.below hb5 y6.lt
     have hb6 := hbr.trans (hb5.mono hbr.size)
     have hl8 := y8.lt
     have hGn := hGr.next
     have hGc := hGr.count
     have hGd := hGr.done
     have HG := hid (And.intro hGn (And.intro hGc hGd))
     clear hGn hGc hGd hGr hbr hb5 hTr
     generalize moreM U A (trB x) (pfB x) = N at *
     have z9 := zero_block w5
     have hs6 := hb6.size
     have y8 := (y8.alloc (.cells #[.int .u64 0, .int .u64 0, .int .u64 0, .int .u64 0, .int .u64 0, .int .u64 0, .int .u64 0, .int .u64 0, .int .u64 0, .int .u64 0, .int .u64 0, .int .u64 0, .int .u64 0, .int .u64 0, .int .u64 0, .int .u64 0, .int .u64 0, .int .u64 0, .int .u64 0, .int .u64 0, .int .u64 0, .int .u64 0, .int .u64 0, .int .u64 0, .int .u64 0, .int .u64 0, .int .u64 0, .int .u64 0, .int .u64 0, .int .u64 0, .int .u64 0, .int .u64 0, .int .u64 0, .int .u64 0, .int .u64 0, .int .u64 0, .int .u64 0, .int .u64 0, .int .u64 0, .int .u64 0, .int .u64 0, .int .u64 0, .int .u64 0, .int .u64 0, .int .u64 0, .int .u64 0, .int .u64 0, .int .u64 0, .int .u64 0, .int .u64 0, .int .u64 0, .int .u64 0, .int .u64 0, .int .u64 0, .int .u64 0, .int .u64 0, .int .u64 0, .int .u64 0, .int .u64 0, .int .u64 0, .int .u64 0, .int .u64 0, .int .u64 0, .int .u64 0] 117)).far (g' := w5.heap.size) (by omega) (rowsA N)
     have y7 := (y7.alloc (.cells #[.int .u64 0, .int .u64 0, .int .u64 0, .int .u64 0, .int .u64 0, .int .u64 0, .int .u64 0, .int .u64 0, .int .u64 0, .int .u64 0, .int .u64 0, .int .u64 0, .int .u64 0, .int .u64 0, .int .u64 0, .int .u64 0, .int .u64 0, .int .u64 0, .int .u64 0, .int .u64 0, .int .u64 0, .int .u64 0, .int .u64 0, .int .u64 0, .int .u64 0, .int .u64 0, .int .u64 0, .int .u64 0, .int .u64 0, .int .u64 0, .int .u64 0, .int .u64 0, .int .u64 0, .int .u64 0, .int .u64 0, .int .u64 0, .int .u64 0, .int .u64 0, .int .u64 0, .int .u64 0, .int .u64 0, .int .u64 0, .int .u64 0, .int .u64 0, .int .u64 0, .int .u64 0, .int .u64 0, .int .u64 0, .int .u64 0, .int .u64 0, .int .u64 0, .int .u64 0, .int .u64 0, .int .u64 0, .int .u64 0, .int .u64 0, .int .u64 0, .int .u64 0, .int .u64 0, .int .u64 0, .int .u64 0, .int .u64 0, .int .u64 0, .int .u64 0] 117)).far (g' := w5.heap.size) (by omega) (rowsA N)
     have y6 := (y6.alloc (.cells #[.int .u64 0, .int .u64 0, .int .u64 0, .int .u64 0, .int .u64 0, .int .u64 0, .int .u64 0, .int .u64 0, .int .u64 0, .int .u64 0, .int .u64 0, .int .u64 0, .int .u64 0, .int .u64 0, .int .u64 0, .int .u64 0, .int .u64 0, .int .u64 0, .int .u64 0, .int .u64 0, .int .u64 0, .int .u64 0, .int .u64 0, .int .u64 0, .int .u64 0, .int .u64 0, .int .u64 0, .int .u64 0, .int .u64 0, .int .u64 0, .int .u64 0, .int .u64 0, .int .u64 0, .int .u64 0, .int .u64 0, .int .u64 0, .int .u64 0, .int .u64 0, .int .u64 0, .int .u64 0, .int .u64 0, .int .u64 0, .int .u64 0, .int .u64 0, .int .u64 0, .int .u64 0, .int .u64 0, .int .u64 0, .int .u64 0, .int .u64 0, .int .u64 0, .int .u64 0, .int .u64 0, .int .u64 0, .int .u64 0, .int .u64 0, .int .u64 0, .int .u64 0, .int .u64 0, .int .u64 0, .int .u64 0, .int .u64 0, .int .u64 0, .int .u64 0] 117)).far (g' := w5.heap.size) (by omega) (rowsA N)
     have hb7 := below_setRow (hb6.alloc hb6.size (.cells #[.int .u64 0, .int .u64 0, .int .u64 0, .int .u64 0, .int .u64 0, .int .u64 0, .int .u64 0, .int .u64 0, .int .u64 0, .int .u64 0, .int .u64 0, .int .u64 0, .int .u64 0, .int .u64 0, .int .u64 0, .int .u64 0, .int .u64 0, .int .u64 0, .int .u64 0, .int .u64 0, .int .u64 0, .int .u64 0, .int .u64 0, .int .u64 0, .int .u64 0, .int .u64 0, .int .u64 0, .int .u64 0, .int .u64 0, .int .u64 0, .int .u64 0, .int .u64 0, .int .u64 0, .int .u64 0, .int .u64 0, .int .u64 0, .int .u64 0, .int .u64 0, .int .u64 0, .int .u64 0, .int .u64 0, .int .u64 0, .int .u64 0, .int .u64 0, .int .u64 0, .int .u64 0, .int .u64 0, .int .u64 0, .int .u64 0, .int .u64 0, .int .u64 0, .int .u64 0, .int .u64 0, .int .u64 0, .int .u64 0, .int .u64 0, .int .u64 0, .int .u64 0, .int .u64 0, .int .u64 0, .int .u64 0, .int .u64 0, .int .u64 0, .int .u64 0] 117)) (g := w5.heap.size) (by omega) (rowsA N)
     clear hb6
     go_upto_region 8 with (with_reducible refine wpList_store_rel z9 N rfl _ _ rfl rfl rfl ?_)
     have z9 := z9.setRow N
     generalize World.setRow _ _ _ = w6 at *
     have hl9 := z9.lt
     by_cases hf : rowsA N = rowsA U
     ·have E0 := fun w => run_eql_yes N U hf w
      have G0 := fun (x y : Operand) (w : World) => run_guard_rel .eql x y N U w
      have HF := hid hf
      clear hf
      go_wp2_with (first | (with_reducible refine wpList_load_rel z9 rfl _ rfl rfl ?_) | (with_reducible refine wpList_load_rel y8 rfl _ rfl rfl ?_) | (with_reducible refine wpList_store_rel y6 U rfl _ _ rfl rfl rfl ?_))
      have h3 := y6.setRow U
      exact bodyPost_ret (results_rel rfl _ _ _ _ rfl h3) rfl ⟨⟨U, rfl, by rw [← HE.out]; exact (HG.out.2.2 HF.out)⟩, below_setRow hb7 (Nat.le_refl _) _⟩
     ·have E0 := fun w => run_eql_no N U hf w
      have G0 := fun (x y : Operand) (w : World) => run_guard_rel .eql x y N U w
      have HF := hid hf
      have hcn := HG.out.2.1 hf
      have hcl := cntP_le N
      have hgk : 0 < gk := by omega
      have hgm : 4096 ≤ (gk - 1) + cntP N := by omega
      have y7 := y7.far (g' := p8) (by omega) (rowsA N)
      have y6 := y6.far (g' := p8) (by omega) (rowsA N)
      have hb8 := below_setRow hb7 (g := p8) (by omega) (rowsA N)
      have HG2 := hid HG.out.1
      clear hf hcn hcl HG HF
      go_wp2_with (first | (with_reducible refine wpList_load_rel z9 rfl _ rfl rfl ?_) | (with_reducible refine wpList_load_rel y8 rfl _ rfl rfl ?_) | (with_reducible refine wpList_store_rel y8 N rfl _ _ rfl rfl rfl ?_))
      have y8 := y8.setRow N
      go_roundg (gk - 1)
      case measure => omega
      case rel => exact ⟨N, hgm, y8, y7, y6, HG2.out, hb8⟩
   ·have HE2 : Hid ((orR (orR (M0) (rivM h A)) A) = startM h x A) := hid (by rw [HQ.out]; rw [if_neg e16, if_neg e8])
    go_wp2_with (first | (with_reducible refine wpList_load_rel z8 rfl _ rfl rfl ?_) | (with_reducible refine wpList_load_rel z7 rfl _ rfl rfl ?_))
    refine (union_any (orR (M0) (rivM h A)) A _).mono ?_
    rintro e wu ⟨rfl, hbu⟩
    have z8 := z8.below hbu z8.lt
    have z7 := (z7.below hbu z7.lt).far (g' := p8) (by omega) (rowsA (orR (orR (M0) (rivM h A)) A))
    have z6 := (z6.below hbu z6.lt).far (g' := p8) (by omega) (rowsA (orR (orR (M0) (rivM h A)) A))
    have hb := below_setRow (hb.trans (hbu.mono hb.size)) (g := p8) (by omega) (rowsA (orR (orR (M0) (rivM h A)) A))
    clear hbu
    go_wp2_with (with_reducible refine wpList_store_rel z8 (orR (orR (M0) (rivM h A)) A) rfl _ _ rfl rfl rfl ?_)
    have z8 := z8.setRow (orR (orR (M0) (rivM h A)) A)
    generalize World.setRow _ _ _ = wv at *
    obtain ⟨V, hV⟩ : ∃ V, V = orR (orR (M0) (rivM h A)) A := ⟨_, rfl⟩
    have HE : Hid (V = startM h x A) := hid (by rw [hV]; exact HE2.out)
    rw [← hV] at z8
    clear hV HE2
    simp only [Act.put]
    go_loopg [] (4096 - cntP V) (fun g wx => ∃ U : Mat, 4096 ≤ g + cntP U ∧ RelAt wx p8 117 U ∧ RelAt wx p7 117 A ∧ RelAt wx w.heap.size 117 noR ∧ Grown V A (trB x) (pfB x) U ∧ Below w.heap.size w wx)
    case atStart => exact ⟨V, by have := cntP_le V; omega, z8, z7, z6, Grown.start V A _ _, hb⟩
    case round =>
     obtain ⟨U, hg, y8, y7, y6, hGr, hbr⟩ := hrel
     clear z8 z7 z6 hb
     have hTr := HT.out _ hbr
     go_wp2_with (first | (with_reducible refine wpList_load_rel y8 rfl _ rfl rfl ?_) | (with_reducible refine wpList_load_rel y7 rfl _ rfl rfl ?_))
     refine (lmore_any x U A _ hTr).mono ?_
     rintro e w5 ⟨rfl, hb5⟩
     have y8 := y8.below hb5 y8.lt
     have y7 := y7.below hb5 y7.lt
     have y6 := y6.below hb5 y6.lt
     have hb6 := hbr.trans (hb5.mono hbr.size)
     have hl8 := y8.lt
     have hGn := hGr.next
     have hGc := hGr.count
     have hGd := hGr.done
     have HG := hid (And.intro hGn (And.intro hGc hGd))
     clear hGn hGc hGd hGr hbr hb5 hTr
     generalize moreM U A (trB x) (pfB x) = N at *
     have z9 := zero_block w5
     have hs6 := hb6.size
     have y8 := (y8.alloc (.cells #[.int .u64 0, .int .u64 0, .int .u64 0, .int .u64 0, .int .u64 0, .int .u64 0, .int .u64 0, .int .u64 0, .int .u64 0, .int .u64 0, .int .u64 0, .int .u64 0, .int .u64 0, .int .u64 0, .int .u64 0, .int .u64 0, .int .u64 0, .int .u64 0, .int .u64 0, .int .u64 0, .int .u64 0, .int .u64 0, .int .u64 0, .int .u64 0, .int .u64 0, .int .u64 0, .int .u64 0, .int .u64 0, .int .u64 0, .int .u64 0, .int .u64 0, .int .u64 0, .int .u64 0, .int .u64 0, .int .u64 0, .int .u64 0, .int .u64 0, .int .u64 0, .int .u64 0, .int .u64 0, .int .u64 0, .int .u64 0, .int .u64 0, .int .u64 0, .int .u64 0, .int .u64 0, .int .u64 0, .int .u64 0, .int .u64 0, .int .u64 0, .int .u64 0, .int .u64 0, .int .u64 0, .int .u64 0, .int .u64 0, .int .u64 0, .int .u64 0, .int .u64 0, .int .u64 0, .int .u64 0, .int .u64 0, .int .u64 0, .int .u64 0, .int .u64 0] 117)).far (g' := w5.heap.size) (by omega) (rowsA N)
     have y7 := (y7.alloc (.cells #[.int .u64 0, .int .u64 0, .int .u64 0, .int .u64 0, .int .u64 0, .int .u64 0, .int .u64 0, .int .u64 0, .int .u64 0, .int .u64 0, .int .u64 0, .int .u64 0, .int .u64 0, .int .u64 0, .int .u64 0, .int .u64 0, .int .u64 0, .int .u64 0, .int .u64 0, .int .u64 0, .int .u64 0, .int .u64 0, .int .u64 0, .int .u64 0, .int .u64 0, .int .u64 0, .int .u64 0, .int .u64 0, .int .u64 0, .int .u64 0, .int .u64 0, .int .u64 0, .int .u64 0, .int .u64 0, .int .u64 0, .int .u64 0, .int .u64 0, .int .u64 0, .int .u64 0, .int .u64 0, .int .u64 0, .int .u64 0, .int .u64 0, .int .u64 0, .int .u64 0, .int .u64 0, .int .u64 0, .int .u64 0, .int .u64 0, .int .u64 0, .int .u64 0, .int .u64 0, .int .u64 0, .int .u64 0, .int .u64 0, .int .u64 0, .int .u64 0, .int .u64 0, .int .u64 0, .int .u64 0, .int .u64 0, .int .u64 0, .int .u64 0, .int .u64 0] 117)).far (g' := w5.heap.size) (by omega) (rowsA N)
     have y6 := (y6.alloc (.cells #[.int .u64 0, .int .u64 0, .int .u64 0, .int .u64 0, .int .u64 0, .int .u64 0, .int .u64 0, .int .u64 0, .int .u64 0, .int .u64 0, .int .u64 0, .int .u64 0, .int .u64 0, .int .u64 0, .int .u64 0, .int .u64 0, .int .u64 0, .int .u64 0, .int .u64 0, .int .u64 0, .int .u64 0, .int .u64 0, .int .u64 0, .int .u64 0, .int .u64 0, .int .u64 0, .int .u64 0, .int .u64 0, .int .u64 0, .int .u64 0, .int .u64 0, .int .u64 0, .int .u64 0, .int .u64 0, .int .u64 0, .int .u64 0, .int .u64 0, .int .u64 0, .int .u64 0, .int .u64 0, .int .u64 0, .int .u64 0, .int .u64 0, .int .u64 0, .int .u64 0, .int .u64 0, .int .u64 0, .int .u64 0, .int .u64 0, .int .u64 0, .int .u64 0, .int .u64 0, .int .u64 0, .int .u64 0, .int .u64 0, .int .u64 0, .int .u64 0, .int .u64 0, .int .u64 0, .int .u64 0, .int .u64 0, .int .u64 0, .int .u64 0, .int .u64 0] 117)).far (g' := w5.heap.size) (by omega) (rowsA N)
     have hb7 := below_setRow (hb6.alloc hb6.size (.cells #[.int .u64 0, .int .u64 0, .int .u64 0, .int .u64 0, .int .u64 0, .int .u64 0, .int .u64 0, .int .u64 0, .int .u64 0, .int .u64 0, .int .u64 0, .int .u64 0, .int .u64 0, .int .u64 0, .int .u64 0, .int .u64 0, .int .u64 0, .int .u64 0, .int .u64 0, .int .u64 0, .int .u64 0, .int .u64 0, .int .u64 0, .int .u64 0, .int .u64 0, .int .u64 0, .int .u64 0, .int .u64 0, .int .u64 0, .int .u64 0, .int .u64 0, .int .u64 0, .int .u64 0, .int .u64 0, .int .u64 0, .int .u64 0, .int .u64 0, .int .u64 0, .int .u64 0, .int .u64 0, .int .u64 0, .int .u64 0, .int .u64 0, .int .u64 0, .int .u64 0, .int .u64 0, .int .u64 0, .int .u64 0, .int .u64 0, .int .u64 0, .int .u64 0, .int .u64 0, .int .u64 0, .int .u64 0, .int .u64 0, .int .u64 0, .int .u64 0, .int .u64 0, .int .u64 0, .int .u64 0, .int .u64 0, .int .u64 0, .int .u64 0, .int .u64 0] 117)) (g := w5.heap.size) (by omega) (rowsA N)
     clear hb6
     go_upto_region 8 with (with_reducible refine wpList_store_rel z9 N rfl _ _ rfl rfl rfl ?_)
     have z9 := z9.setRow N
     generalize World.setRow _ _ _ = w6 at *
     have hl9 := z9.lt
     by_cases hf : rowsA N = rowsA U
     ·have E0 := fun w => run_eql_yes N U hf w
      have G0 := fun (x y : Operand) (w : World) => run_guard_rel .eql x y N U w
      have HF := hid hf
      clear hf
      go_wp2_with (first | (with_reducible refine wpList_load_rel z9 rfl _ rfl rfl ?_) | (with_reducible refine wpList_load_rel y8 rfl _ rfl rfl ?_) | (with_reducible refine wpList_store_rel y6 U rfl _ _ rfl rfl rfl ?_))
      have h3 := y6.setRow U
      exact bodyPost_ret (results_rel rfl _ _ _ _ rfl h3) rfl ⟨⟨U, rfl, by rw [← HE.out]; exact (HG.out.2.2 HF.out)⟩, below_setRow hb7 (Nat.le_refl _) _⟩
     ·have E0 := fun w => run_eql_no N U hf w
      have G0 := fun (x y : Operand) (w : World) => run_guard_rel .eql x y N U w
      have HF := hid hf
      have hcn := HG.out.2.1 hf
      have hcl := cntP_le N
      have hgk : 0 < gk := by omega
      have hgm : 4096 ≤ (gk - 1) + cntP N := by omega
      have y7 := y7.far (g' := p8) (by omega) (rowsA N)
      have y6 := y6.far (g' := p8) (by omega) (rowsA N)
      have hb8 := below_setRow hb7 (g := p8) (by omega) (rowsA N)
      have HG2 := hid HG.out.1
      clear hf hcn hcl HG HF
      go_wp2_with (first | (with_reducible refine wpList_load_rel z9 rfl _ rfl rfl ?_) | (with_reducible refine wpList_load_rel y8 rfl _ rfl rfl ?_) | (with_reducible refine wpList_store_rel y8 N rfl _ _ rfl rfl rfl ?_))
      have y8 := y8.setRow N
      go_roundg (gk - 1)
      case measure => omega
      case rel => exact ⟨N, hgm, y8, y7, y6, HG2.out, hb8⟩
end

section
open Go.RowKit
theorem ints_at {w : World} {ao : Option Addr} {n cap : Nat} {L : List Nat} (h : Ints w (.slice ao n cap) (L.map Int.ofNat)) {k : Nat} (hk : k < L.length) :
  ∃ b off, ao = some ⟨b, off, none⟩ ∧ w.cell? ⟨b, off + k, none⟩ = some (.int .i64 (L[k] : Int)) := by
 obtain ⟨b, off, h1, h2⟩ := h.at (k := k) (by simpa using hk)
 refine ⟨b, off, h1, ?_⟩
 rw [h2, List.getElem_map]; rfl
theorem Ints.grown {w w' : World} {v : Value} {xs : List Int} {row : Option Nat} (h : Ints w v xs) (hg : w.grownBy w' row) (hne : ∀ b, row = some b → v.ownBlock ≠ some b) : Ints w' v xs := by
 obtain ⟨hl, ao, cap, rfl, hm, hno, hc⟩ := h
 refine ⟨hl, ao, cap, rfl, hm, hno, fun hn => ?_⟩
 obtain ⟨b, off, rfl, hcell⟩ := hc hn
 refine ⟨b, off, rfl, fun i hi => ?_⟩
 have h2 := hcell i hi
 rw [List.getElem?_eq_getElem (by omega)] at h2 ⊢
 exact hg.cell h2 (fun e => hne b e.symm rfl)
end

section
open Go.RowKit
def seeTo (R : Mat) (i : Int) (k : Nat) : Nat := (List.range k).foldl (fun (s : Nat) (a : Nat) => if hasR R (a : Int) i then withS s (a : Int) else s) 0
theorem seeTo_succ (R : Mat) (i : Int) (k : Nat) : seeTo R i (k + 1) = if hasR R (k : Int) i then withS (seeTo R i k) (k : Int) else seeTo R i k := by
 unfold seeTo; rw [List.range_succ, List.foldl_append]; rfl
theorem seeTo_set (R : Mat) (i : Int) : ∀ k, IsSet (seeTo R i k)
 | 0 => by unfold seeTo IsSet; simp
 | k + 1 => by
  rw [seeTo_succ]
  split
  ·exact isSet_withS (seeTo_set R i k)
  ·exact seeTo_set R i k
theorem seeTo_bit (R : Mat) (i : Int) (j : Nat) : ∀ k, k ≤ 64 → (seeTo R i k).testBit j = (decide (j < k) && hasR R (j : Int) i)
 | 0, _ => by simp [seeTo]
 | k + 1, hk => by
  have ih := seeTo_bit R i j k (by omega)
  rw [seeTo_succ]
  by_cases e : j = k
  ·subst e
   have h1 : decide (0 ≤ (j : Int) ∧ (j : Int) < 64) = true := by simp; omega
   cases hh : hasR R (j : Int) i with
   | true => rw [if_pos rfl, testBit_withS, h1, Int.toNat_natCast]; simp
   | false => rw [if_neg (by simp), ih]; simp [hh]
  ·have h1 : decide (j < k + 1) = decide (j < k) := by rw [decide_eq_decide]; omega
   split
   ·have h2 : decide ((k : Int).toNat = j) = false := decide_eq_false (by rw [Int.toNat_natCast]; omega)
    rw [testBit_withS, ih, h1, h2, Bool.and_false, Bool.or_false]
   ·rw [ih, h1]
theorem lsees_any (R : Mat) (i : Int) (w : World) :
  Calls Tryz.prog 122 #[.agg (rowsA R), .int .i64 i] w fun e w' => e = .returned (.int .u64 ((seeTo R i 64 : Nat) : Int)) ∧ Below w.heap.size w w' := by
 have r0 : RelAt (w.alloc (.cells (rowsA R) 117)) w.heap.size 117 R := RelAt.made w _ _ rfl rfl
 have hb0 := box_below w (.cells (rowsA R) 117)
 go_enter Tryz.func122, Tryz.ntmps122
 go_wp2_with fail
 go_loopw [5, 7] (fun s k wr => ∃ n : Nat, n ≤ 64 ∧ k = .int .i64 n ∧ s = .int .u64 ((seeTo R i n : Nat) : Int) ∧ RelAt wr w.heap.size 117 R ∧ Below w.heap.size w wr) (fun _ k _ => 64 - (intOf k).toNat)
 case atStart => exact ⟨0, by omega, rfl, rfl, r0, hb0⟩
 case round =>
  obtain ⟨n, hn, rfl, rfl, hr, hb⟩ := hrel
  clear r0 hb0
  have hset := seeTo_set R i n
  by_cases hlt : n < 64
  ·have hni : (n : Int) < 64 := by omega
   have HS := hid (seeTo_succ R i n)
   go_wp2_with (with_reducible refine wpList_load_rel hr rfl _ rfl rfl ?_)
   refine (rhasR_any _ _ _ _).mono ?_
   rintro e w1 ⟨rfl, hb1⟩
   have hr1 := hr.below hb1 hr.lt
   have hbb := hb.trans (hb1.mono hb.size)
   clear hr hb
   cases hh : hasR R (n : Int) i with
   | true =>
    have HV : Hid (withS (seeTo R i n) (n : Int) = seeTo R i (n + 1)) := hid (by rw [HS.out, hh]; rfl)
    clear hh HS
    generalize seeTo R i n = a at *
    go_wp2_with fail
    refine (with_any _ _ _ hset).mono ?_
    rintro e w2 ⟨rfl, rfl⟩
    go_wp2_with fail
    go_roundw
    case rel => exact ⟨n + 1, by omega, by go_num, by rw [HV.out], hr1, hbb⟩
    case measure => simp [intOf]; omega
   | false =>
    have HV : Hid (seeTo R i n = seeTo R i (n + 1)) := hid (by rw [HS.out, hh]; rfl)
    clear hh HS
    go_wp2_with fail
    go_roundw
    case rel => exact ⟨n + 1, by omega, by go_num, by rw [HV.out], hr1, hbb⟩
    case measure => simp [intOf]; omega
  ·have hn2 : n = 64 := by omega
   subst hn2
   go_wp2_with fail
   go_ret
   exact ⟨rfl, hb⟩
end

section
open Go.RowKit
theorem asees_any (R : Mat) (i : Int) (w : World) :
  Calls Tryz.prog 140 #[.agg (rowsA R), .int .i64 i] w fun e w' => e = .returned (.int .u64 ((seeTo R i 64 : Nat) : Int)) ∧ Below w.heap.size w w' := by
 have r0 : RelAt (w.alloc (.cells (rowsA R) 117)) w.heap.size 117 R := RelAt.made w _ _ rfl rfl
 have hb0 := box_below w (.cells (rowsA R) 117)
 go_enter Tryz.func140, Tryz.ntmps140
 go_wp2_with fail
 go_loopw [5, 7] (fun s k wr => ∃ n : Nat, n ≤ 64 ∧ k = .int .i64 n ∧ s = .int .u64 ((seeTo R i n : Nat) : Int) ∧ RelAt wr w.heap.size 117 R ∧ Below w.heap.size w wr) (fun _ k _ => 64 - (intOf k).toNat)
 case atStart => exact ⟨0, by omega, rfl, rfl, r0, hb0⟩
 case round =>
  obtain ⟨n, hn, rfl, rfl, hr, hb⟩ := hrel
  clear r0 hb0
  have hset := seeTo_set R i n
  by_cases hlt : n < 64
  ·have hni : (n : Int) < 64 := by omega
   have HS := hid (seeTo_succ R i n)
   go_wp2_with (with_reducible refine wpList_load_rel hr rfl _ rfl rfl ?_)
   refine (rhasR_any _ _ _ _).mono ?_
   rintro e w1 ⟨rfl, hb1⟩
   have hr1 := hr.below hb1 hr.lt
   have hbb := hb.trans (hb1.mono hb.size)
   clear hr hb
   cases hh : hasR R (n : Int) i with
   | true =>
    have HV : Hid (withS (seeTo R i n) (n : Int) = seeTo R i (n + 1)) := hid (by rw [HS.out, hh]; rfl)
    clear hh HS
    generalize seeTo R i n = a at *
    go_wp2_with fail
    refine (with_any _ _ _ hset).mono ?_
    rintro e w2 ⟨rfl, rfl⟩
    go_wp2_with fail
    go_roundw
    case rel => exact ⟨n + 1, by omega, by go_num, by rw [HV.out], hr1, hbb⟩
    case measure => simp [intOf]; omega
   | false =>
    have HV : Hid (seeTo R i n = seeTo R i (n + 1)) := hid (by rw [HS.out, hh]; rfl)
    clear hh HS
    go_wp2_with fail
    go_roundw
    case rel => exact ⟨n + 1, by omega, by go_num, by rw [HV.out], hr1, hbb⟩
    case measure => simp [intOf]; omega
  ·have hn2 : n = 64 := by omega
   subst hn2
   go_wp2_with fail
   go_ret
   exact ⟨rfl, hb⟩
theorem arivals_any (A : Mat) (h : List TxnV) (B b : Nat) (w : World) (hO : OrdIs w B b h) (hc : checkI h = 0) :
  Calls Tryz.prog 216 #[.pointer (some ⟨B, 0, none⟩), .agg (rowsA A)] w fun e w' => e = .returned (.agg (rowsA (rivM h A))) ∧ Below w.heap.size w w' := by
 have CRH := hid (fun (i : Nat) wx (hx : Below w.heap.size w wx) => ordis_rivals (hO.below hx) hc i)
 have e0 : rowsA A = rowsA (rivTo h A 0) := rowsA_congr fun i j _ _ => by unfold rivTo; rw [if_neg (by omega)]
 have r0 : RelAt (w.alloc (.cells (rowsA A) 117)) w.heap.size 117 (rivTo h A 0) := RelAt.made w _ _ rfl e0
 have z0 := zero_block (w.alloc (.cells (rowsA A) 117))
 rw [show (w.alloc (.cells (rowsA A) 117)).heap.size = w.heap.size + 1 from by simp] at z0
 have r0 := r0.alloc (.cells #[.int .u64 0, .int .u64 0, .int .u64 0, .int .u64 0, .int .u64 0, .int .u64 0, .int .u64 0, .int .u64 0, .int .u64 0, .int .u64 0, .int .u64 0, .int .u64 0, .int .u64 0, .int .u64 0, .int .u64 0, .int .u64 0, .int .u64 0, .int .u64 0, .int .u64 0, .int .u64 0, .int .u64 0, .int .u64 0, .int .u64 0, .int .u64 0, .int .u64 0, .int .u64 0, .int .u64 0, .int .u64 0, .int .u64 0, .int .u64 0, .int .u64 0, .int .u64 0, .int .u64 0, .int .u64 0, .int .u64 0, .int .u64 0, .int .u64 0, .int .u64 0, .int .u64 0, .int .u64 0, .int .u64 0, .int .u64 0, .int .u64 0, .int .u64 0, .int .u64 0, .int .u64 0, .int .u64 0, .int .u64 0, .int .u64 0, .int .u64 0, .int .u64 0, .int .u64 0, .int .u64 0, .int .u64 0, .int .u64 0, .int .u64 0, .int .u64 0, .int .u64 0, .int .u64 0, .int .u64 0, .int .u64 0, .int .u64 0, .int .u64 0, .int .u64 0] 117)
 have hb0 := (box_below w (.cells (rowsA A) 117)).alloc (by simp) (.cells #[.int .u64 0, .int .u64 0, .int .u64 0, .int .u64 0, .int .u64 0, .int .u64 0, .int .u64 0, .int .u64 0, .int .u64 0, .int .u64 0, .int .u64 0, .int .u64 0, .int .u64 0, .int .u64 0, .int .u64 0, .int .u64 0, .int .u64 0, .int .u64 0, .int .u64 0, .int .u64 0, .int .u64 0, .int .u64 0, .int .u64 0, .int .u64 0, .int .u64 0, .int .u64 0, .int .u64 0, .int .u64 0, .int .u64 0, .int .u64 0, .int .u64 0, .int .u64 0, .int .u64 0, .int .u64 0, .int .u64 0, .int .u64 0, .int .u64 0, .int .u64 0, .int .u64 0, .int .u64 0, .int .u64 0, .int .u64 0, .int .u64 0, .int .u64 0, .int .u64 0, .int .u64 0, .int .u64 0, .int .u64 0, .int .u64 0, .int .u64 0, .int .u64 0, .int .u64 0, .int .u64 0, .int .u64 0, .int .u64 0, .int .u64 0, .int .u64 0, .int .u64 0, .int .u64 0, .int .u64 0, .int .u64 0, .int .u64 0, .int .u64 0, .int .u64 0] 117)
 clear hO hc e0
 go_enter Tryz.func216, Tryz.ntmps216
 go_wp2_with fail
 go_loopw [6] (fun i wr => ∃ k : Nat, k ≤ 64 ∧ i = .int .i64 k ∧ RelAt wr w.heap.size 117 (rivTo h A k) ∧ RelAt wr (w.heap.size + 1) 117 noR ∧ Below w.heap.size w wr) (fun i _ => 64 - (intOf i).toNat)
 case atStart => exact ⟨0, by omega, rfl, r0, z0, hb0⟩
 case round =>
  obtain ⟨k, hk, rfl, hR, hz, hb⟩ := hrel
  clear r0 z0 hb0
  by_cases hlt : k < 64
  ·have hki : (k : Int) < 64 := by omega
   have hda : decide ((k : Int) < 64) = true := decide_eq_true hki
   have kd := (Below.refl wr.heap.size wr).drew
   have HAND : Go.bits .and .u64 ((mkS (rivTo h A k k) : Nat) : Int) ((rivN h k : Nat) : Int) = ((mkS (fun j => A k j && rivB h k j) : Nat) : Int) := by rw [rivTo_at]; exact u64_and _ _
   have HR : Hid (∀ wx, Below wr.heap.size wr wx → RelAt wx w.heap.size 117 (rivTo h A k)) := hid (fun wx hx => hR.below hx hR.lt)
   have CR := hid (fun wx (hx : Below wr.heap.size wr wx) => CRH.out k wx (hb.trans (hx.mono hb.size)))
   have HS : Hid (∀ wx, Below wr.heap.size wr wx → True) := hid (fun _ _ => trivial)
   have HN : Hid (∀ wx, Below wr.heap.size wr wx → RelAt (wx.setCell ⟨w.heap.size, k, none⟩ (.int .u64 ((mkS (fun j => A k j && rivB h k j) : Nat) : Int))) w.heap.size 117 (rivTo h A (k + 1))) := hid (fun wx hx => by
    have := (hR.below hx hR.lt).store k _ (fun j => A k j && rivB h k j) rfl
    rwa [rivTo_step] at this)
   have HBS : Hid (∀ wx, Below wr.heap.size wr wx → Below w.heap.size w (wx.setCell ⟨w.heap.size, k, none⟩ (.int .u64 ((mkS (fun j => A k j && rivB h k j) : Nat) : Int)))) := hid (fun wx hx => (hb.trans (hx.mono hb.size)).setCell (p := ⟨w.heap.size, k, none⟩) (Nat.le_refl _) _)
   have HZS : Hid (∀ wx, Below wr.heap.size wr wx → RelAt (wx.setCell ⟨w.heap.size, k, none⟩ (.int .u64 ((mkS (fun j => A k j && rivB h k j) : Nat) : Int))) (w.heap.size + 1) 117 noR) := hid (fun wx hx => (hz.below hx hz.lt).other (k := ⟨w.heap.size, k, none⟩) (by simp) _)
   clear hR hz hb CRH
   generalize mkS (fun j => A k j && rivB h k j) = z at *
   generalize rivN h k = y at *
   go_wp2_with fail
   refine wp_region_held_drew (S := fun _ => True) (by kernel_rfl) trivial (fun hS0 => ?_)
   refine tG (some 9) 0 ?v0 rfl rfl (Or.inl ⟨by rfl, ?h0⟩) hS0 ?r0
   case h0 => (intro w hw; go_simp; try (with_reducible rfl))
   try simp only [Act.put, zA, zB, zC]
   refine tG (some 10) 1 ?v1 rfl rfl (Or.inl ⟨by rfl, ?h1⟩) hS0 ?r1
   case h1 => (intro w hw; go_simp; try (with_reducible rfl))
   try simp only [Act.put, zA, zB, zC]
   refine tG (some 12) 3 ?v3 rfl rfl (Or.inl ⟨by rfl, ?h3⟩) hS0 ?r3
   case h3 => (intro w hw; go_simp; try (with_reducible rfl))
   try simp only [Act.put, zA, zB, zC]
   refine tG (some 13) 4 ?v4 rfl rfl (Or.inl ⟨by rfl, ?h4⟩) hS0 ?r4
   case h4 => (intro w hw; go_simp; try (with_reducible rfl))
   try simp only [Act.put, zA, zB, zC]
   refine wpAnyH_ready (rs := [2, 5]) (by kernel_rfl) (by simp) ?_
   refine AllReadyH.cons rfl (fun K hK => ?_) (AllReadyH.cons rfl (fun K hK => ?_) AllReadyH.nil)
   ·
    have hc2 := (HR.out _ kd).cell hlt
    go_simp
    refine hK.out _ _ hS0 (fun _ => ?_)
    clear hK K hc2
    refine rD 5 rfl (fun K hK => ?_)
    go_simp
    refine (CR.out _ kd).mono ?_
    rintro e q1 ⟨rfl, hq1⟩
    show K _ _
    have k1 := below_then kd hq1
    have s1 := HS.out _ k1
    refine hK.out _ _ s1 (fun _ => ?_)
    clear hK K
    refine rD 6 rfl (fun K hK => ?_)
    go_simp
    refine hK.out _ _ s1 (fun _ => ?_)
    clear hK K
    refine rD 7 rfl (fun K hK => ?_)
    go_simp
    refine hK.out _ _ s1 (fun _ => ?_)
    clear hK K
    refine rD 8 rfl (fun K hK => ?_)
    have hc8 := (HR.out _ k1).cell hlt
    have hf8 := (HR.out _ k1).free k
    go_simp
    refine hK.out _ _ trivial (fun _ => ?_)
    clear hK K hc8 hf8
    refine wpAnyH_done (by kernel_rfl) ?_ _
    have hR9 := HN.out _ k1
    have hb9 := HBS.out _ k1
    have hz9 := HZS.out _ k1
    clear HR CR HN HBS HZS HS kd
    go_wp2_with fail
    go_roundw
    case rel => exact ⟨k + 1, by omega, by go_num, hR9, hz9, hb9⟩
    case measure => simp [intOf]; omega
   ·
    go_simp
    refine (CR.out _ kd).mono ?_
    rintro e q2 ⟨rfl, hq2⟩
    show K _ _
    have k2 := below_then kd hq2
    have s2 := HS.out _ k2
    refine hK.out _ _ s2 (fun _ => ?_)
    clear hK K
    refine rD 2 rfl (fun K hK => ?_)
    have hc2 := (HR.out _ k2).cell hlt
    go_simp
    refine hK.out _ _ s2 (fun _ => ?_)
    clear hK K hc2
    refine rD 6 rfl (fun K hK => ?_)
    go_simp
    refine hK.out _ _ s2 (fun _ => ?_)
    clear hK K
    refine rD 7 rfl (fun K hK => ?_)
    go_simp
    refine hK.out _ _ s2 (fun _ => ?_)
    clear hK K
    refine rD 8 rfl (fun K hK => ?_)
    have hc8 := (HR.out _ k2).cell hlt
    have hf8 := (HR.out _ k2).free k
    go_simp
    refine hK.out _ _ trivial (fun _ => ?_)
    clear hK K hc8 hf8
    refine wpAnyH_done (by kernel_rfl) ?_ _
    have hR9 := HN.out _ k2
    have hb9 := HBS.out _ k2
    have hz9 := HZS.out _ k2
    clear HR CR HN HBS HZS HS kd
    go_wp2_with fail
    go_roundw
    case rel => exact ⟨k + 1, by omega, by go_num, hR9, hz9, hb9⟩
    case measure => simp [intOf]; omega
  ·have hk64 : k = 64 := by omega
   subst hk64
   go_wp2_with (first
    | (with_reducible refine wpList_load_rel hR rfl _ rfl rfl ?_)
    | (with_reducible refine wpList_store_rel hz (rivTo h A 64) rfl _ _ rfl rfl rfl ?_))
   have h3 := hz.setRow (rivTo h A 64)
   rw [rivTo_end] at h3
   exact bodyPost_ret (results_rel rfl _ _ _ _ rfl h3) rfl ⟨rfl, below_setRow hb (by omega) _⟩
def lastTo (l : List Int) (s : Nat) (k : Nat) : Int := (l.take k).foldl (fun f i => if hasB s i then i else f) (-1)
theorem lastTo_succ (l : List Int) (s k : Nat) (hk : k < l.length) : lastTo l s (k + 1) = if hasB s l[k] then l[k] else lastTo l s k := by
 unfold lastTo; rw [List.take_succ_eq_append_getElem hk, List.foldl_append]; rfl
def lastI (l : List Int) (s : Nat) : Int := lastTo l s l.length
theorem alast_any (va : Value) (l : List Int) (s : Nat) (w : World) (hs : IsSet s) (hl : Ints w va l) :
  Calls Tryz.prog 215 #[va, .int .u64 (s : Int)] w fun e w' => e = .returned (.int .i64 (lastI l s)) ∧ Below w.heap.size w w' := by
 have HL := hid (fun wx (hx : Below w.heap.size w wx) => hl.below hx)
 obtain ⟨ao, cap, rfl, hal⟩ := hl.form
 have HR : Hid (lastI l s = lastTo l s l.length) := hid rfl
 clear hl
 go_enter Tryz.func215, Tryz.ntmps215
 go_wp2_with fail
 go_loopw [5, 10] (fun f i wr => ∃ k : Nat, k ≤ l.length ∧ i = .int .i64 k ∧ f = .int .i64 (lastTo l s k) ∧ Below w.heap.size w wr) (fun _ i _ => l.length - (intOf i).toNat)
 case atStart => exact ⟨0, by omega, rfl, rfl, Below.refl _ _⟩
 case round =>
  obtain ⟨k, hk, rfl, rfl, hb⟩ := hrel
  by_cases hlt : k < l.length
  ·have hki : (k : Int) < (l.length : Int) := by omega
   obtain ⟨g, o, hao, e0⟩ := (HL.out _ hb).at hlt
   cases hao
   have HN := hid (lastTo_succ l s k hlt)
   generalize l[k] = x at *
   generalize lastTo l s k = y at *
   go_wp2_with fail
   refine (has_any _ _ _ hs).mono ?_
   rintro e w1 ⟨rfl, rfl⟩
   cases hh : hasB s x with
   | true =>
    have HV : Hid (x = lastTo l s (k + 1)) := hid (by rw [HN.out, hh]; rfl)
    clear hh HN
    go_wp2_with fail
    go_roundw
    case rel => exact ⟨k + 1, by omega, by go_num, by rw [← HV.out], hb⟩
    case measure => simp [intOf]; omega
   | false =>
    have HV : Hid (y = lastTo l s (k + 1)) := hid (by rw [HN.out, hh]; rfl)
    clear hh HN
    go_wp2_with fail
    go_roundw
    case rel => exact ⟨k + 1, by omega, by go_num, by rw [← HV.out], hb⟩
    case measure => simp [intOf]; omega
  ·have hk2 : k = l.length := by omega
   subst hk2
   go_wp2_with fail
   go_ret
   exact ⟨rfl, hb⟩
def rowOkA (n : Int) (l : List Int) : Bool := decide ((l.length : Int) = n) && decide (setL l = belowS n)
theorem arow_any (n : Int) (va : Value) (l : List Int) (w : World) (hl : Ints w va l) :
  Calls Tryz.prog 136 #[.int .i64 n, va] w fun e w' => e = .returned (.bool (rowOkA n l)) ∧ w = w' := by
 have CO := hid (of_any va l w hl)
 have CB := hid (below_any n w)
 obtain ⟨ao, cap, rfl, hal⟩ := hl.form
 have HR : Hid (rowOkA n l = (decide ((l.length : Int) = n) && decide (setL l = belowS n))) := hid rfl
 generalize rowOkA n l = r at *
 generalize setL l = a at *
 generalize belowS n = b at *
 clear hl
 by_cases hn : (l.length : Int) = n
 ·by_cases hab : a = b
  ·have HV : Hid (true = r) := hid (by rw [HR.out, decide_eq_true hn, decide_eq_true hab]; rfl)
   subst hab
   clear HR
   go_enter Tryz.func136, Tryz.ntmps136
   go_wp2_with fail
   refine (CO.out).mono ?_
   rintro e w1 ⟨rfl, rfl⟩
   go_wp2_with fail
   refine (CB.out).mono ?_
   rintro e w1 ⟨rfl, rfl⟩
   go_wp2_with fail
   go_ret
   exact ⟨ret_b HV.out, rfl⟩
  ·have HV : Hid (((a : Int) == (b : Int)) = r) := hid (by rw [HR.out, decide_eq_true hn, decide_eq_false hab, beq_eq_false_iff_ne.2 (fun e => hab (by omega))]; rfl)
   clear HR
   go_enter Tryz.func136, Tryz.ntmps136
   go_wp2_with fail
   refine (CO.out).mono ?_
   rintro e w1 ⟨rfl, rfl⟩
   go_wp2_with fail
   refine (CB.out).mono ?_
   rintro e w1 ⟨rfl, rfl⟩
   go_wp2_with fail
   go_ret
   exact ⟨ret_b HV.out, rfl⟩
 ·have HV : Hid (false = r) := hid (by rw [HR.out, decide_eq_false hn]; rfl)
  clear HR
  go_enter Tryz.func136, Tryz.ntmps136
  go_wp2_with fail
  go_ret
  exact ⟨ret_b HV.out, rfl⟩
end

end Go.Proofs.YtadihdkpoeibhaaGreatDoor
