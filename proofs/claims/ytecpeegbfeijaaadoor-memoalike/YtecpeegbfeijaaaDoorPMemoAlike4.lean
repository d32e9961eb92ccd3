/- Walks and plain facts that the proof of the statement MemoAlike uses, joined: LeaF LeaG AxiA AxiB AxiC LevA AxiD LevB LevC LevE AxiE LeaB RelU OrdAA LeaH TblA AxiF PlaA AxiG PlaC AxiH OrdP LesA LesB AxhA PlaD PlaE MemA MemC OrdAJ MemD MemB PlaB PlaF PlaM. Conditions: each theorem's own. -/
import Derived.Test.YtecpeegbfeijaaaDoorProg
import Derived.Deep.RegionLaw
import Derived.Great.BuildSlice
import Derived.KernelRfl
import Derived.Laws.Bits128
import Derived.WalkKit
import Derived.WalkSpells
import Derived.WalkLawsBesides
import Derived.Lib.Hide
import Derived.Laws.Tables
import Derived.Laws.CopyOwn
import Derived.Deep.QuietTactic
import Derived.BigQuiet
import Derived.Maps.OwnSet
import Derived.DeepKeys4
import Derived.Deep.OwnRows
import Derived.Test.YtecpeegbfeijaaaDoorPMemoAlike0
import Derived.Test.YtecpeegbfeijaaaDoorPMemoAlike1
import Derived.Test.YtecpeegbfeijaaaDoorPMemoAlike2
import Derived.Test.YtecpeegbfeijaaaDoorPMemoAlike3
namespace Go.Proofs.YtecpeegbfeijaaaDoor
set_option maxRecDepth 100000
open Go.RowKit

def smallI (h : List TxnV) : Int := if 7 < h.length ∨ checkI h ≠ 0 then 0 else 1
theorem small_no {h : List TxnV} (hs : smallI h ≠ 0) : h.length ≤ 7 ∧ checkI h = 0 ∧ smallI h = 1 := by
  unfold smallI at *
  split at hs
  · exact (hs rfl).elim
  · rename_i hn
    rw [if_neg hn]
    have h1 : ¬ 7 < h.length := fun e => hn (.inl e)
    have h2 : ¬ checkI h ≠ 0 := fun e => hn (.inr e)
    exact ⟨by omega, Decidable.not_not.1 h2, rfl⟩
set_option maxHeartbeats 4000000 in
theorem small_any (va : Value) (h : List TxnV) (w : World) (hT : Txns w va h) (hsh : Short h) :
    Calls Tryd.prog 7 #[va] w fun e w' => e = .returned (.int .i64 (smallI h)) ∧ Below w.heap.size w w' := by
  have CC := Lib.hid (rcheck_any va h w hT hsh)
  rw [← check_ref] at CC
  have HS : Hid (smallI h = if 7 < h.length ∨ checkI h ≠ 0 then 0 else 1) := Lib.hid rfl
  generalize smallI h = s at *
  generalize checkI h = c at *
  obtain ⟨ao, cap, rfl, hal⟩ := hT.form
  clear hT hsh
  by_cases h7 : 7 < h.length
  · have h7i : (7 : Int) < (h.length : Int) := by omega
    have HR : Hid ((0 : Int) = s) := Lib.hid (by rw [HS.out, if_pos (.inl h7)])
    clear HS
    go_enter Tryd.func7, Tryd.ntmps7
    go_wp2_with fail
    go_ret
    exact ⟨ret_i HR.out, Below.refl _ _⟩
  · have h7i : ¬ (7 : Int) < (h.length : Int) := by omega
    by_cases hc : c = 0
    · have HR : Hid ((1 : Int) = s) := Lib.hid (by rw [HS.out, if_neg (by omega)])
      subst hc
      clear HS
      go_enter Tryd.func7, Tryd.ntmps7
      go_wp2_with fail
      refine (CC.out).mono ?_
      rintro e w1 ⟨rfl, hb⟩
      go_wp2_with fail
      go_ret
      exact ⟨ret_i HR.out, hb⟩
    · have HR : Hid ((0 : Int) = s) := Lib.hid (by rw [HS.out, if_pos (.inr hc)])
      clear HS
      go_enter Tryd.func7, Tryd.ntmps7
      go_wp2_with fail
      refine (CC.out).mono ?_
      rintro e w1 ⟨rfl, hb⟩
      go_wp2_with fail
      go_ret
      exact ⟨ret_i HR.out, hb⟩
/-- Those that stand to a number, of the numbers below k. -/
def seeTo (R : Mat) (i : Int) (k : Nat) : Nat := (List.range k).foldl (fun (s : Nat) (a : Nat) => if hasR R (a : Int) i then withS s (a : Int) else s) 0
theorem seeTo_succ (R : Mat) (i : Int) (k : Nat) : seeTo R i (k + 1) = if hasR R (k : Int) i then withS (seeTo R i k) (k : Int) else seeTo R i k := by
  unfold seeTo; rw [List.range_succ, List.foldl_append]; rfl
theorem seeTo_set (R : Mat) (i : Int) : ∀ k, IsSet (seeTo R i k)
  | 0 => by unfold seeTo IsSet; simp
  | k + 1 => by
    rw [seeTo_succ]
    split
    · exact isSet_withS (seeTo_set R i k)
    · exact seeTo_set R i k
theorem seeTo_bit (R : Mat) (i : Int) (j : Nat) : ∀ k, k ≤ 64 → (seeTo R i k).testBit j = (decide (j < k) && hasR R (j : Int) i)
  | 0, _ => by simp [seeTo]
  | k + 1, hk => by
    have ih := seeTo_bit R i j k (by omega)
    rw [seeTo_succ]
    by_cases e : j = k
    · subst e
      have h1 : decide (0 ≤ (j : Int) ∧ (j : Int) < 64) = true := by simp; omega
      cases hh : hasR R (j : Int) i with
      | true => rw [if_pos rfl, testBit_withS, h1, Int.toNat_natCast]; simp
      | false => rw [if_neg (by simp), ih]; simp [hh]
    · have h1 : decide (j < k + 1) = decide (j < k) := by rw [decide_eq_decide]; omega
      split
      · have h2 : decide ((k : Int).toNat = j) = false := decide_eq_false (by rw [Int.toNat_natCast]; omega)
        rw [testBit_withS, ih, h1, h2, Bool.and_false, Bool.or_false]
      · rw [ih, h1]
set_option maxHeartbeats 4000000 in
theorem lsees_any (R : Mat) (i : Int) (w : World) :
    Calls Tryd.prog 46 #[.agg (rowsA R), .int .i64 i] w fun e w' => e = .returned (.int .u64 ((seeTo R i 64 : Nat) : Int)) ∧ Below w.heap.size w w' := by
  have r0 : RelAt (w.alloc (.cells (rowsA R) 68)) w.heap.size 68 R := RelAt.made w _ _ rfl rfl
  have hb0 := box_below w (.cells (rowsA R) 68)
  go_enter Tryd.func46, Tryd.ntmps46
  go_wp2_with fail
  go_loopw [5, 7] (fun s k wr => ∃ n : Nat, n ≤ 64 ∧ k = .int .i64 n ∧ s = .int .u64 ((seeTo R i n : Nat) : Int) ∧ RelAt wr w.heap.size 68 R ∧ Below w.heap.size w wr) (fun _ k _ => 64 - (intOf k).toNat)
  case atStart => exact ⟨0, by omega, rfl, rfl, r0, hb0⟩
  case round =>
    obtain ⟨n, hn, rfl, rfl, hr, hb⟩ := hrel
    clear r0 hb0
    have hset := seeTo_set R i n
    by_cases hlt : n < 64
    · have hni : (n : Int) < 64 := by omega
      have HS := Lib.hid (seeTo_succ R i n)
      go_wp2_with (with_reducible refine wpList_load_rel hr rfl _ rfl rfl ?_)
      refine (rhasR_any _ _ _ _).mono ?_
      rintro e w1 ⟨rfl, hb1⟩
      have hr1 := hr.below hb1 hr.lt
      have hbb := hb.trans (hb1.mono hb.size)
      clear hr hb
      cases hh : hasR R (n : Int) i with
      | true =>
        have HV : Hid (withS (seeTo R i n) (n : Int) = seeTo R i (n + 1)) := Lib.hid (by rw [HS.out, hh]; rfl)
        clear hh HS
        generalize seeTo R i n = a at *
        go_wp2_with fail
        refine (with_any _ _ _ hset).mono ?_
        rintro e w2 ⟨rfl, rfl⟩
        go_wp2_with fail
        go_roundw
        case rel => exact ⟨n + 1, by omega, by go_num, by rw [HV.out], hr1, hbb⟩
        case measure => simp [intOf]; omega
      | false =>
        have HV : Hid (seeTo R i n = seeTo R i (n + 1)) := Lib.hid (by rw [HS.out, hh]; rfl)
        clear hh HS
        go_wp2_with fail
        go_roundw
        case rel => exact ⟨n + 1, by omega, by go_num, by rw [HV.out], hr1, hbb⟩
        case measure => simp [intOf]; omega
    · have hn2 : n = 64 := by omega
      subst hn2
      go_wp2_with fail
      go_ret
      exact ⟨rfl, hb⟩
end Go.Proofs.YtecpeegbfeijaaaDoor

namespace Go.Proofs.YtecpeegbfeijaaaDoor
set_option maxRecDepth 100000
open Go.RowKit

theorem perm_take (O L : List Nat) (j : Nat) (hj : j < L.length) : (O ++ [L[j]] ++ (L.take j ++ L.drop (j + 1))).Perm (O ++ L) := by
  have e : L = L.take j ++ L[j] :: L.drop (j + 1) := by rw [← List.drop_eq_getElem_cons hj, List.take_append_drop]
  have h1 : (L.take j ++ L[j] :: L.drop (j + 1)).Perm (L[j] :: (L.take j ++ L.drop (j + 1))) := List.perm_middle
  rw [← e] at h1
  rw [List.append_assoc, List.singleton_append]
  exact (h1.symm).append_left O
theorem bytes_at {w : World} {ao : Option Addr} {n cap : Nat} {xs : List Int} (h : Row w (.slice ao n cap) xs.length 1 (xs.map (Value.int .u8))) {k : Nat} (hk : k < xs.length) :
    ∃ b off, ao = some ⟨b, off, none⟩ ∧ w.cell? ⟨b, off + k, none⟩ = some (.int .u8 xs[k]) := by
  obtain ⟨_, ao', cap', e, _, _, hc⟩ := h
  cases e
  obtain ⟨b, off, rfl, hcell⟩ := hc (by omega)
  refine ⟨b, off, rfl, ?_⟩
  rw [hcell k (by omega)]
  simp [hk]
end Go.Proofs.YtecpeegbfeijaaaDoor

namespace Go.Proofs.YtecpeegbfeijaaaDoor
set_option maxRecDepth 100000
open Go.RowKit

/-- Who writes to a key. -/
def wrtN (h : List TxnV) (y : Int) : Nat := mkS fun j => decide (j < h.length) && decide (y ∈ keysOf (opsAt h j))
theorem wrtN_set (h : List TxnV) (y : Int) : IsSet (wrtN h y) := isSet_mkS _
theorem wrt_eq {h : List TxnV} {K : List KRow} (hc : checkI h = 0) (hK : K.map (·.2) = keysTo h h.length) (hA : AllSet (wrsTo K K.length)) (y : Int) : (wrsTo K K.length y).getD 0 = wrtN h y := by
  have hl := keys_len hK
  have h64 := (check_zero hc).1
  refine mkS_eq (hA y) fun j hj => ?_
  rw [wrsTo_bit K j y K.length (by omega) (Nat.le_refl _), hl]
  by_cases hjn : j < h.length
  · rw [keys_at hK hjn]
  · simp [hjn]
theorem reads_key {h : List TxnV} (hc : checkI h = 0) {i : Nat} (hi : i < h.length) {r : Int × Int} (hr : r ∈ readsOf h i) : 0 ≤ r.1 ∧ r.1 < 64 := by
  obtain ⟨_, _, _, hks⟩ := check_zero hc
  unfold readsOf rdFr at hr
  obtain ⟨o, ho, rfl⟩ := List.mem_map.1 hr
  have h1 := (refReads_in (List.mem_filter.1 ho).1).1
  rw [opsAt_eq hi] at h1
  exact hks _ (List.getElem_mem hi) o h1
end Go.Proofs.YtecpeegbfeijaaaDoor

namespace Go.Proofs.YtecpeegbfeijaaaDoor
set_option maxRecDepth 100000
open Go.RowKit

/-- What follows of what is asked, of a number below 64. -/
def clN (k : Nat) : Nat :=
  let a := if k.testBit 4 then k ||| 12 else k
  let b := if a.testBit 2 then a ||| 2 else a
  if b.testBit 5 then b ||| 1 else b
def clI (x : Int) : Nat := clN (x % 64).toNat
theorem clN_lt : ∀ k : Fin 64, clN k.val < 64 := by decide +kernel
theorem clI_lt (x : Int) : clI x < 64 := clN_lt ⟨(x % 64).toNat, by omega⟩

theorem and63 (n : Int) : bits .and .i64 n 63 = n % 64 := by
  have h1 : (BitVec.ofInt 64 63) = 63#64 := by decide
  show IntKind.i64.wrap ((BitVec.ofInt 64 n &&& BitVec.ofInt 64 63).toNat : Int) = _
  have h2 : (BitVec.ofInt 64 n &&& BitVec.ofInt 64 63).toNat = (BitVec.ofInt 64 n).toNat % 64 := by
    rw [BitVec.toNat_and, h1]
    exact Nat.and_two_pow_sub_one_eq_mod _ 6
  rw [h2, BitVec.toNat_ofInt, IntKind.wrap_i64]
  omega
theorem i64_and_nat (a b : Nat) (ha : a < 9223372036854775808) (hb : b < 9223372036854775808) : bits .and .i64 (a : Int) (b : Int) = ((a &&& b : Nat) : Int) := by
  have hx : a &&& b ≤ a := Nat.and_le_left
  have h1 : (BitVec.ofInt 64 (a : Int)).toNat = a := by
    rw [BitVec.ofInt_natCast, BitVec.toNat_ofNat]; exact Nat.mod_eq_of_lt (by omega)
  have h2 : (BitVec.ofInt 64 (b : Int)).toNat = b := by
    rw [BitVec.ofInt_natCast, BitVec.toNat_ofNat]; exact Nat.mod_eq_of_lt (by omega)
  show IntKind.i64.wrap ((BitVec.ofInt 64 (a : Int) &&& BitVec.ofInt 64 (b : Int)).toNat : Int) = _
  rw [BitVec.toNat_and, h1, h2, IntKind.wrap_i64]
  omega
theorem i64_or_nat (a b : Nat) (ha : a < 2 ^ 63) (hb : b < 2 ^ 63) : bits .or .i64 (a : Int) (b : Int) = ((a ||| b : Nat) : Int) := by
  have hx : a ||| b < 2 ^ 63 := Nat.or_lt_two_pow ha hb
  have h1 : (BitVec.ofInt 64 (a : Int)).toNat = a := by
    rw [BitVec.ofInt_natCast, BitVec.toNat_ofNat]; exact Nat.mod_eq_of_lt (by omega)
  have h2 : (BitVec.ofInt 64 (b : Int)).toNat = b := by
    rw [BitVec.ofInt_natCast, BitVec.toNat_ofNat]; exact Nat.mod_eq_of_lt (by omega)
  show IntKind.i64.wrap ((BitVec.ofInt 64 (a : Int) ||| BitVec.ofInt 64 (b : Int)).toNat : Int) = _
  rw [BitVec.toNat_or, h1, h2, IntKind.wrap_i64]
  omega
end Go.Proofs.YtecpeegbfeijaaaDoor

namespace Go.Proofs.YtecpeegbfeijaaaDoor
set_option maxRecDepth 100000
open Go.RowKit

theorem cl_bits : ∀ k : Fin 64, (k.val &&& 16 = if k.val.testBit 4 then 16 else 0) ∧ (k.val &&& 4 = if k.val.testBit 2 then 4 else 0) ∧ (k.val &&& 32 = if k.val.testBit 5 then 32 else 0) ∧ (k.val ||| 12 < 64) ∧ (k.val ||| 2 < 64) ∧ (k.val ||| 1 < 64) := by decide +kernel
theorem cl_i64 (k : Nat) (hk : k < 64) : bits .and .i64 (k : Int) 16 = (if k.testBit 4 then 16 else 0) ∧ bits .and .i64 (k : Int) 4 = (if k.testBit 2 then 4 else 0) ∧ bits .and .i64 (k : Int) 32 = (if k.testBit 5 then 32 else 0) ∧
    bits .or .i64 (k : Int) 12 = ((k ||| 12 : Nat) : Int) ∧ bits .or .i64 (k : Int) 2 = ((k ||| 2 : Nat) : Int) ∧ bits .or .i64 (k : Int) 1 = ((k ||| 1 : Nat) : Int) ∧ (k ||| 12 < 64) ∧ (k ||| 2 < 64) := by
  obtain ⟨h1, h2, h3, h4, h5, h6⟩ := cl_bits ⟨k, hk⟩
  simp only at h1 h2 h3 h4 h5 h6
  refine ⟨?_, ?_, ?_, ?_, ?_, ?_, h4, h5⟩
  · rw [show (16 : Int) = ((16 : Nat) : Int) from rfl, i64_and_nat k 16 (by omega) (by omega), h1]; split <;> rfl
  · rw [show (4 : Int) = ((4 : Nat) : Int) from rfl, i64_and_nat k 4 (by omega) (by omega), h2]; split <;> rfl
  · rw [show (32 : Int) = ((32 : Nat) : Int) from rfl, i64_and_nat k 32 (by omega) (by omega), h3]; split <;> rfl
  · exact i64_or_nat k 12 (by omega) (by omega)
  · exact i64_or_nat k 2 (by omega) (by omega)
  · exact i64_or_nat k 1 (by omega) (by omega)
theorem cl_parts (x : Int) : ∃ k a b : Nat, bits .and .i64 x 63 = (k : Int) ∧
    ((bits .and .i64 (k : Int) 16 = 16 ∧ bits .or .i64 (k : Int) 12 = (a : Int)) ∨ (bits .and .i64 (k : Int) 16 = 0 ∧ a = k)) ∧
    ((bits .and .i64 (a : Int) 4 = 4 ∧ bits .or .i64 (a : Int) 2 = (b : Int)) ∨ (bits .and .i64 (a : Int) 4 = 0 ∧ b = a)) ∧
    ((bits .and .i64 (b : Int) 32 = 32 ∧ bits .or .i64 (b : Int) 1 = ((clI x : Nat) : Int)) ∨ (bits .and .i64 (b : Int) 32 = 0 ∧ clI x = b)) := by
  obtain ⟨k, hkx, hk⟩ : ∃ k : Nat, x % 64 = (k : Int) ∧ k < 64 := ⟨(x % 64).toNat, by omega, by omega⟩
  obtain ⟨k1, _, _, k4, _, _, ha, _⟩ := cl_i64 k hk
  obtain ⟨a, hA⟩ : ∃ a : Nat, a = if k.testBit 4 then k ||| 12 else k := ⟨_, rfl⟩
  have hal : a < 64 := by rw [hA]; split <;> omega
  obtain ⟨_, a2, _, _, a5, _, _, hb⟩ := cl_i64 a hal
  obtain ⟨b, hB⟩ : ∃ b : Nat, b = if a.testBit 2 then a ||| 2 else a := ⟨_, rfl⟩
  have hbl : b < 64 := by rw [hB]; split <;> omega
  obtain ⟨_, _, b3, _, _, b6, _, _⟩ := cl_i64 b hbl
  have hC : clI x = if b.testBit 5 then b ||| 1 else b := by unfold clI; rw [hkx, Int.toNat_natCast]; unfold clN; simp only; rw [← hA, ← hB]
  refine ⟨k, a, b, by rw [and63, hkx], ?_, ?_, ?_⟩
  · cases t : k.testBit 4
    · exact .inr ⟨by rw [k1, t]; rfl, by rw [hA, t]; rfl⟩
    · exact .inl ⟨by rw [k1, t]; rfl, by rw [k4, hA, t]; rfl⟩
  · cases t : a.testBit 2
    · exact .inr ⟨by rw [a2, t]; rfl, by rw [hB, t]; rfl⟩
    · exact .inl ⟨by rw [a2, t]; rfl, by rw [a5, hB, t]; rfl⟩
  · cases t : b.testBit 5
    · exact .inr ⟨by rw [b3, t]; rfl, by rw [hC, t]; rfl⟩
    · exact .inl ⟨by rw [b3, t]; rfl, by rw [b6, hC, t]; rfl⟩
theorem lclosed_any (x : Int) (w : World) : Calls Tryd.prog 44 #[.int .i64 x] w fun e w' => e = .returned (.int .i64 (clI x)) ∧ w = w' := by
  obtain ⟨k, a, b, e0, h1, h2, h3⟩ := cl_parts x
  generalize clI x = c at *
  rcases h1 with ⟨e1, e2⟩ | ⟨e1, rfl⟩ <;> rcases h2 with ⟨e3, e4⟩ | ⟨e3, rfl⟩ <;> rcases h3 with ⟨e5, e6⟩ | ⟨e5, rfl⟩
  all_goals
    go_enter Tryd.func44, Tryd.ntmps44
    go_wp2
    go_ret
    exact ⟨rfl, rfl⟩
end Go.Proofs.YtecpeegbfeijaaaDoor

namespace Go.Proofs.YtecpeegbfeijaaaDoor
set_option maxRecDepth 100000
open Go.RowKit

/-- Is a thing asked, by its number? -/
def hasT (k t : Nat) : Bool := decide (k / t % 2 = 1)
end Go.Proofs.YtecpeegbfeijaaaDoor

namespace Go.Proofs.YtecpeegbfeijaaaDoor
set_option maxRecDepth 100000
open Go.RowKit

/-- What is asked and isn't kept. -/
def lackN (a b : Nat) : Nat := a ^^^ (a &&& b)
end Go.Proofs.YtecpeegbfeijaaaDoor

namespace Go.Proofs.YtecpeegbfeijaaaDoor
set_option maxRecDepth 100000
open Go.RowKit

/-- One stands ahead of another one in a row. -/
def Ahead : List Int → Int → Int → Prop
  | [], _, _ => False
  | c :: L, a, b => Ahead L a b ∨ (c = a ∧ b ∈ L)
theorem Ahead.mem {a b : Int} : ∀ {L : List Int}, Ahead L a b → a ∈ L ∧ b ∈ L
  | [], h => h.elim
  | c :: L, h => by
    rcases h with h | ⟨rfl, h⟩
    · exact ⟨List.mem_cons_of_mem _ (Ahead.mem h).1, List.mem_cons_of_mem _ (Ahead.mem h).2⟩
    · exact ⟨List.mem_cons_self, List.mem_cons_of_mem _ h⟩
theorem Ahead.trans {a m b : Int} : ∀ {L : List Int}, Ahead L a m → Ahead L m b → ¬ Ahead L m m → Ahead L a b
  | [], h, _, _ => h.elim
  | c :: L, h, k, hno => by
    rcases h with h | ⟨rfl, h⟩
    · rcases k with k | ⟨rfl, k⟩
      · exact .inl (Ahead.trans h k fun x => hno (.inl x))
      · exact absurd (.inr ⟨rfl, h.mem.2⟩) hno
    · rcases k with k | ⟨rfl, k⟩
      · exact .inr ⟨rfl, k.mem.2⟩
      · exact .inr ⟨rfl, k⟩
end Go.Proofs.YtecpeegbfeijaaaDoor

namespace Go.Proofs.YtecpeegbfeijaaaDoor
set_option maxRecDepth 100000
open Go.RowKit

theorem nat_bit (x k : Nat) : (x &&& 2 ^ k = 0) ↔ x.testBit k = false := by
  constructor
  · intro h
    have h1 : (x &&& 2 ^ k).testBit k = false := by rw [h]; exact Nat.zero_testBit k
    rw [Nat.testBit_and, Nat.testBit_two_pow] at h1
    simpa using h1
  · intro h
    refine Nat.eq_of_testBit_eq fun i => ?_
    rw [Nat.testBit_and, Nat.testBit_two_pow, Nat.zero_testBit]
    by_cases e : k = i
    · subst e; rw [h]; rfl
    · simp [e]
theorem bit_zero (x k : Nat) (hx : x < 9223372036854775808) (hk : 2 ^ k < 9223372036854775808) : bits .and .i64 (x : Int) ((2 ^ k : Nat) : Int) = 0 ↔ x.testBit k = false := by
  rw [i64_and_nat x (2 ^ k) hx hk, ← nat_bit]
  omega
theorem bit_1 (x : Nat) (hx : x < 9223372036854775808) : bits .and .i64 (x : Int) 1 = 0 ↔ x.testBit 0 = false := bit_zero x 0 hx (by omega)
theorem bit_32 (x : Nat) (hx : x < 9223372036854775808) : bits .and .i64 (x : Int) 32 = 0 ↔ x.testBit 5 = false := bit_zero x 5 hx (by omega)
theorem baseM_iff (h : List TxnV) (x : Nat) (hx : x < 9223372036854775808) (i j : Nat) : baseM h (x : Int) i j = true ↔ froM h i j = true ∨ (x.testBit 0 = true ∧ sesM h i j = true) ∨ (x.testBit 5 = true ∧ timM h i j = true) := by
  have h1 := bit_1 x hx
  have h5 := bit_32 x hx
  unfold baseM baseQ
  cases e0 : x.testBit 0 <;> cases e5 : x.testBit 5
  · rw [if_pos (h5.2 e5), if_pos (h1.2 e0)]; simp
  · rw [if_neg (fun e => by rw [h5.1 e] at e5; cases e5), if_pos (h1.2 e0), orR_iff]; simp
  · rw [if_pos (h5.2 e5), if_neg (fun e => by rw [h1.1 e] at e0; cases e0), orR_iff]; simp
  · rw [if_neg (fun e => by rw [h5.1 e] at e5; cases e5), if_neg (fun e => by rw [h1.1 e] at e0; cases e0), orR_iff, orR_iff]; simp [or_assoc]
theorem hasR_nat (R : Mat) (i j : Nat) (hi : i < 64) (hj : j < 64) : hasR R (i : Int) (j : Int) = R i j := by
  unfold hasR mayB
  rw [Int.toNat_natCast, hasB_mkS _ _ hj, decide_eq_true (by omega), Bool.true_and]
end Go.Proofs.YtecpeegbfeijaaaDoor

namespace Go.Proofs.YtecpeegbfeijaaaDoor
set_option maxRecDepth 100000
open Go.RowKit

theorem lack_iff (a b : Nat) : lackN a b = 0 ↔ ∀ k, a.testBit k = true → b.testBit k = true := by
  unfold lackN
  constructor
  · intro e k hk
    have t := congrArg (fun x => Nat.testBit x k) e
    simp only [Nat.testBit_xor, Nat.testBit_and, Nat.zero_testBit, hk, Bool.true_and] at t
    cases hb : b.testBit k
    · rw [hb] at t; exact absurd t (by decide)
    · rfl
  · intro H
    apply Nat.eq_of_testBit_eq
    intro k
    rw [Nat.testBit_xor, Nat.testBit_and, Nat.zero_testBit]
    cases ha : a.testBit k
    · rfl
    · rw [H k ha]; rfl
end Go.Proofs.YtecpeegbfeijaaaDoor

namespace Go.Proofs.YtecpeegbfeijaaaDoor
set_option maxRecDepth 100000
open Go.RowKit

/-- All that stand in a table by some numbers. -/
def joinL (F : Nat → Nat) (l : List Nat) : Nat := l.foldl (fun s k => s ||| F k) 0
def joinN (F : Nat → Nat) (s : Nat) : Nat := joinL F (lst s)
theorem joinL_nil (F : Nat → Nat) : joinL F [] = 0 := rfl
theorem joinF_bit (F : Nat → Nat) (j : Nat) : ∀ (l : List Nat) (s : Nat), (l.foldl (fun s k => s ||| F k) s).testBit j = (s.testBit j || l.any fun k => (F k).testBit j)
  | [], s => by simp
  | k :: l, s => by rw [List.foldl_cons, joinF_bit F j l, Nat.testBit_or, List.any_cons, Bool.or_assoc]
theorem joinL_bit (F : Nat → Nat) (l : List Nat) (j : Nat) : (joinL F l).testBit j = l.any fun k => (F k).testBit j := by
  unfold joinL; rw [joinF_bit]; simp
theorem joinL_set {F : Nat → Nat} {l : List Nat} (h : ∀ k ∈ l, IsSet (F k)) : IsSet (joinL F l) := by
  apply isSet_of_bits
  intro i hi
  rw [joinL_bit, List.any_eq_false]
  intro k hk
  rw [(h k hk).high hi]; simp
theorem joinN_set {F : Nat → Nat} {s : Nat} (h : ∀ k, k < 64 → IsSet (F k)) : IsSet (joinN F s) := joinL_set fun k hk => h k (mem_lst.1 hk).1
theorem joinN_iff {F : Nat → Nat} {s : Nat} {j : Nat} : (joinN F s).testBit j = true ↔ ∃ k, k < 64 ∧ s.testBit k = true ∧ (F k).testBit j = true := by
  unfold joinN
  rw [joinL_bit, List.any_eq_true]
  exact ⟨fun ⟨k, hk, hj⟩ => ⟨k, (mem_lst.1 hk).1, (mem_lst.1 hk).2, hj⟩, fun ⟨k, h1, h2, h3⟩ => ⟨k, mem_lst.2 ⟨h1, h2⟩, h3⟩⟩
theorem joinN_congr {F G : Nat → Nat} {s : Nat} (h : ∀ k, k < 64 → s.testBit k = true → F k = G k) : joinN F s = joinN G s := by
  apply Nat.eq_of_testBit_eq
  intro j
  rw [Bool.eq_iff_iff, joinN_iff, joinN_iff]
  exact ⟨fun ⟨k, h1, h2, h3⟩ => ⟨k, h1, h2, by rw [← h k h1 h2]; exact h3⟩, fun ⟨k, h1, h2, h3⟩ => ⟨k, h1, h2, by rw [h k h1 h2]; exact h3⟩⟩
/-- Those of a row, the last one first, as a set. -/
def plS : List Nat → Nat
  | [] => 0
  | i :: r => withS (plS r) (i : Int)
theorem plS_set : ∀ r, IsSet (plS r)
  | [] => by unfold plS IsSet; omega
  | i :: r => isSet_withS (plS_set r)
theorem plS_bit (j : Nat) : ∀ (r : List Nat), (∀ i ∈ r, i < 64) → (plS r).testBit j = decide (j ∈ r)
  | [], _ => by unfold plS; simp
  | i :: r, h => by
    have h1 : decide (0 ≤ (i : Int) ∧ (i : Int) < 64) = true := by have := h i (List.mem_cons_self ..); simp; omega
    unfold plS
    rw [testBit_withS, plS_bit j r (fun a ha => h a (List.mem_cons_of_mem _ ha)), h1, Int.toNat_natCast, Bool.true_and, Bool.eq_iff_iff]
    simp only [Bool.or_eq_true, decide_eq_true_eq, List.mem_cons]
    exact ⟨fun q => q.elim .inr (fun e => .inl e.symm), fun q => q.elim (fun e => .inr e.symm) .inl⟩
theorem plS_pop {i : Nat} {r : List Nat} (hi : i ∉ r) (h : ∀ a ∈ i :: r, a < 64) : woS (plS (i :: r)) (i : Int) = plS r := by
  apply Nat.eq_of_testBit_eq
  intro j
  have h1 : decide (0 ≤ (i : Int) ∧ (i : Int) < 64) = true := by have := h i (List.mem_cons_self ..); simp; omega
  rw [testBit_woS, plS_bit j _ h, plS_bit j r (fun a ha => h a (List.mem_cons_of_mem _ ha)), h1, Int.toNat_natCast, Bool.true_and, Bool.eq_iff_iff]
  simp only [Bool.and_eq_true, decide_eq_true_eq, List.mem_cons, Bool.not_eq_true', decide_eq_false_iff_not]
  constructor
  · rintro ⟨rfl | q, hne⟩
    · exact (hne rfl).elim
    · exact q
  · intro q
    exact ⟨.inr q, fun e => hi (by rw [e]; exact q)⟩
/-- Whom one would see, step by step: what it must see, all, who writes to the same key, whom those see, who is ahead of those. -/
def wld1 (b pl C : Nat) : Nat := if C.testBit 4 then b ||| pl else b
def wld2 (b pl rv C : Nat) : Nat := if C.testBit 3 then wld1 b pl C ||| (rv &&& pl) else wld1 b pl C
def wld3 (b pl rv C : Nat) (sF : Nat → Nat) : Nat := if C.testBit 1 then wld2 b pl rv C ||| joinN sF (wld2 b pl rv C) else wld2 b pl rv C
def wld4 (b pl rv C : Nat) (sF aF : Nat → Nat) : Nat := if C.testBit 2 then wld3 b pl rv C sF ||| joinN aF (wld3 b pl rv C sF) else wld3 b pl rv C sF
section
variable {b pl rv C : Nat} {sF aF : Nat → Nat}
theorem wld1_set (hb : IsSet b) (hp : IsSet pl) : IsSet (wld1 b pl C) := by unfold wld1; split; exact isSet_or hb hp; exact hb
theorem wld2_set (hb : IsSet b) (hp : IsSet pl) (hr : IsSet rv) : IsSet (wld2 b pl rv C) := by unfold wld2; split; exact isSet_or (wld1_set hb hp) (isSet_and hr); exact wld1_set hb hp
theorem wld3_set (hb : IsSet b) (hp : IsSet pl) (hr : IsSet rv) (hs : ∀ k, k < 64 → IsSet (sF k)) : IsSet (wld3 b pl rv C sF) := by unfold wld3; split; exact isSet_or (wld2_set hb hp hr) (joinN_set hs); exact wld2_set hb hp hr
theorem wld4_set (hb : IsSet b) (hp : IsSet pl) (hr : IsSet rv) (hs : ∀ k, k < 64 → IsSet (sF k)) (ha : ∀ k, k < 64 → IsSet (aF k)) : IsSet (wld4 b pl rv C sF aF) := by unfold wld4; split; exact isSet_or (wld3_set hb hp hr hs) (joinN_set ha); exact wld3_set hb hp hr hs
/-- Whom one would see is placed, as far as whom it must see is. -/
theorem wld1_in (hb : ∀ j, b.testBit j = true → pl.testBit j = true) {j : Nat} (h : (wld1 b pl C).testBit j = true) : pl.testBit j = true := by
  unfold wld1 at h
  split at h
  · rw [Nat.testBit_or, Bool.or_eq_true] at h; exact h.elim (hb j) id
  · exact hb j h
theorem wld2_in (hb : ∀ j, b.testBit j = true → pl.testBit j = true) {j : Nat} (h : (wld2 b pl rv C).testBit j = true) : pl.testBit j = true := by
  unfold wld2 at h
  split at h
  · rw [Nat.testBit_or, Bool.or_eq_true, Nat.testBit_and, Bool.and_eq_true] at h; exact h.elim (wld1_in hb) And.right
  · exact wld1_in hb h
theorem wld3_in (hb : ∀ j, b.testBit j = true → pl.testBit j = true) (hs : ∀ k j, pl.testBit k = true → (sF k).testBit j = true → pl.testBit j = true) {j : Nat} (h : (wld3 b pl rv C sF).testBit j = true) : pl.testBit j = true := by
  unfold wld3 at h
  split at h
  · rw [Nat.testBit_or, Bool.or_eq_true, joinN_iff] at h
    rcases h with h | ⟨k, _, h1, h2⟩
    · exact wld2_in hb h
    · exact hs k j (wld2_in hb h1) h2
  · exact wld2_in hb h
theorem wld4_in (hb : ∀ j, b.testBit j = true → pl.testBit j = true) (hs : ∀ k j, pl.testBit k = true → (sF k).testBit j = true → pl.testBit j = true) (ha : ∀ k j, pl.testBit k = true → (aF k).testBit j = true → pl.testBit j = true) {j : Nat} (h : (wld4 b pl rv C sF aF).testBit j = true) : pl.testBit j = true := by
  unfold wld4 at h
  split at h
  · rw [Nat.testBit_or, Bool.or_eq_true, joinN_iff] at h
    rcases h with h | ⟨k, _, h1, h2⟩
    · exact wld3_in hb hs h
    · exact ha k j (wld3_in hb hs h1) h2
  · exact wld3_in hb hs h
theorem wld3_congr {sG : Nat → Nat} (hb : ∀ j, b.testBit j = true → pl.testBit j = true) (h : ∀ k, k < 64 → pl.testBit k = true → sF k = sG k) : wld3 b pl rv C sF = wld3 b pl rv C sG := by
  unfold wld3
  rw [joinN_congr fun k hk hb2 => h k hk (wld2_in hb hb2)]
theorem wld4_congr {sG aG : Nat → Nat} (hb : ∀ j, b.testBit j = true → pl.testBit j = true) (h : ∀ k, k < 64 → pl.testBit k = true → sF k = sG k ∧ aF k = aG k) (hs : ∀ k j, pl.testBit k = true → (sF k).testBit j = true → pl.testBit j = true) : wld4 b pl rv C sF aF = wld4 b pl rv C sG aG := by
  have e : wld3 b pl rv C sF = wld3 b pl rv C sG := wld3_congr hb fun k hk hp => (h k hk hp).1
  unfold wld4
  rw [← e, joinN_congr (F := aF) (G := aG) fun k hk hb2 => (h k hk (wld3_in hb hs hb2)).2]
end
/-- What one must see, whatever the order is. -/
def baseN (h : List TxnV) (C i : Nat) : Nat := seeTo (baseM h (C : Int)) (i : Int) 64
theorem baseN_set (h : List TxnV) (C i : Nat) : IsSet (baseN h C i) := seeTo_set _ _ _
/-- Of each of a row, the last one first: who is ahead of it, and whom it sees. -/
def aheadL : List Nat → Nat → Nat
  | [], _ => 0
  | i :: r, k => if k = i then plS r else aheadL r k
def plSee (h : List TxnV) (C : Nat) : List Nat → Nat → Nat
  | [], _ => 0
  | i :: r, k => if k = i then wld4 (baseN h C i) (plS r) (rivN h i) C (plSee h C r) (aheadL r) else plSee h C r k
def nextN (h : List TxnV) (C : Nat) (r : List Nat) (i : Nat) : Nat := wld4 (baseN h C i) (plS r) (rivN h i) C (plSee h C r) (aheadL r)
theorem aheadL_set : ∀ (r : List Nat) (k : Nat), IsSet (aheadL r k)
  | [], _ => by unfold aheadL IsSet; omega
  | i :: r, k => by
    unfold aheadL
    split
    · exact plS_set r
    · exact aheadL_set r k
theorem plSee_set (h : List TxnV) (C : Nat) : ∀ (r : List Nat) (k : Nat), IsSet (plSee h C r k)
  | [], _ => by unfold plSee IsSet; omega
  | i :: r, k => by
    unfold plSee
    split
    · exact wld4_set (baseN_set h C i) (plS_set r) (rivN_set h i) (fun k _ => plSee_set h C r k) (fun k _ => aheadL_set r k)
    · exact plSee_set h C r k
/-- Would one read of a key what the last one wrote that it sees? -/
def readW (h : List TxnV) (aF : Nat → Nat) (seen : Nat) (r : Int × Int) : Nat := if 0 ≤ r.2 then lackN (seen &&& wrtN h r.1) (withS (aF r.2.toNat) r.2) else seen &&& wrtN h r.1
def readP (h : List TxnV) (aF : Nat → Nat) (seen : Nat) (r : Int × Int) : Bool := decide (readW h aF seen r = 0)
def readsP (h : List TxnV) (aF : Nat → Nat) (seen i : Nat) : Bool := (readsOf h i).all (readP h aF seen)
/-- May one come next? -/
def tryP (h : List TxnV) (C : Nat) (r : List Nat) (i : Nat) : Bool := decide (i < h.length) && (!decide (i ∈ r) && (inB (baseN h C i) (plS r) && readsP h (aheadL r) (nextN h C r i) i))
def tryI (h : List TxnV) (C : Nat) (r : List Nat) (i : Int) : Bool := decide (0 ≤ i) && tryP h C r i.toNat
/-- The cells of the block, one by one. -/
def plF (B C : Nat) (vb vr : Value) (pl : Nat) (aF sF : Nat → Nat) (i : Nat) : Value :=
  if i = 0 then .pointer (some ⟨B, 0, none⟩) else if i = 1 then .int .i64 (C : Int) else if i = 2 then vb else if i = 3 then vr else if i = 4 then .int .u64 (pl : Int) else
  if i < 69 then .int .u64 ((aF (i - 5) : Nat) : Int) else .int .u64 ((sF (i - 69) : Nat) : Int)
/-- The block that holds a state. -/
def PlAt (w : World) (S B C : Nat) (vb vr : Value) (pl : Nat) (aF sF : Nat → Nat) : Prop := ∀ i, i < 133 → w.cell? ⟨S, i, none⟩ = some (plF B C vb vr pl aF sF i) ∧ w.frozen? ⟨S, i, none⟩ = false
section
variable {w : World} {S B C : Nat} {vb vr : Value} {pl : Nat} {aF sF : Nat → Nat}
theorem PlAt.lt (h : PlAt w S B C vb vr pl aF sF) : S < w.heap.size := block_lt (h 0 (by omega)).1
theorem PlAt.below {w' : World} {B' : Nat} (h : PlAt w S B C vb vr pl aF sF) (hb : Below B' w w') (hB : S < B') : PlAt w' S B C vb vr pl aF sF := fun i hi => by
  rw [hb.cell (p := ⟨S, i, none⟩) hB, hb.frozen (p := ⟨S, i, none⟩) hB]; exact h i hi
theorem PlAt.grown {w' : World} {row : Option Nat} (h : PlAt w S B C vb vr pl aF sF) (hg : w.grownBy w' row) (hne : some S ≠ row) : PlAt w' S B C vb vr pl aF sF := fun i hi => by
  obtain ⟨h1, h2⟩ := h i hi
  have hb := hg.block S h.lt hne
  have e1 : w'.cell? ⟨S, i, none⟩ = w.cell? ⟨S, i, none⟩ := by simp only [World.cell?]; rw [hb]
  have e2 : w'.frozen? ⟨S, i, none⟩ = w.frozen? ⟨S, i, none⟩ := by simp only [World.frozen?]; rw [hb]
  rw [e1, e2]; exact ⟨h1, h2⟩
theorem PlAt.cO (h : PlAt w S B C vb vr pl aF sF) : w.cell? ⟨S, 0, none⟩ = some (.pointer (some ⟨B, 0, none⟩)) := (h 0 (by omega)).1
theorem PlAt.cC (h : PlAt w S B C vb vr pl aF sF) : w.cell? ⟨S, 1, none⟩ = some (.int .i64 (C : Int)) := (h 1 (by omega)).1
theorem PlAt.cB (h : PlAt w S B C vb vr pl aF sF) : w.cell? ⟨S, 2, none⟩ = some vb := (h 2 (by omega)).1
theorem PlAt.cR (h : PlAt w S B C vb vr pl aF sF) : w.cell? ⟨S, 3, none⟩ = some vr := (h 3 (by omega)).1
theorem PlAt.cP (h : PlAt w S B C vb vr pl aF sF) : w.cell? ⟨S, 4, none⟩ = some (.int .u64 (pl : Int)) := (h 4 (by omega)).1
theorem PlAt.cA (h : PlAt w S B C vb vr pl aF sF) {k : Nat} (hk : k < 64) : w.cell? ⟨S, 5 + k, none⟩ = some (.int .u64 ((aF k : Nat) : Int)) := by
  rw [(h (5 + k) (by omega)).1]; unfold plF
  rw [if_neg (by omega), if_neg (by omega), if_neg (by omega), if_neg (by omega), if_neg (by omega), if_pos (by omega), Nat.add_sub_cancel_left]
theorem PlAt.cS (h : PlAt w S B C vb vr pl aF sF) {k : Nat} (hk : k < 64) : w.cell? ⟨S, 69 + k, none⟩ = some (.int .u64 ((sF k : Nat) : Int)) := by
  rw [(h (69 + k) (by omega)).1]; unfold plF
  rw [if_neg (by omega), if_neg (by omega), if_neg (by omega), if_neg (by omega), if_neg (by omega), if_neg (by omega), Nat.add_sub_cancel_left]
theorem PlAt.free (h : PlAt w S B C vb vr pl aF sF) {i : Nat} (hi : i < 133) : w.frozen? ⟨S, i, none⟩ = false := (h i hi).2
theorem PlAt.put (h : PlAt w S B C vb vr pl aF sF) (k : Nat) (v : Value) {vb' vr' : Value} {pl' : Nat} {aF' sF' : Nat → Nat} (h1 : plF B C vb' vr' pl' aF' sF' k = v)
    (h2 : ∀ i, i < 133 → i ≠ k → plF B C vb' vr' pl' aF' sF' i = plF B C vb vr pl aF sF i) : PlAt (w.setCell ⟨S, k, none⟩ v) S B C vb' vr' pl' aF' sF' := fun i hi => by
  refine ⟨?_, by rw [World.frozen?_setCell]; exact (h i hi).2⟩
  by_cases e : i = k
  · subst e
    rw [World.cell?_setCell_same _ _ _ (h i hi).1, h1]
  · have hne : (⟨S, k, none⟩ : Addr) ≠ ⟨S, i, none⟩ := by
      intro q
      injection q with _ q2
      exact e q2.symm
    rw [World.cell?_setCell_other _ _ _ _ hne, h2 i hi e]
    exact (h i hi).1
theorem PlAt.setB (h : PlAt w S B C vb vr pl aF sF) (v : Value) : PlAt (w.setCell ⟨S, 2, none⟩ v) S B C v vr pl aF sF := h.put 2 v rfl (fun i _ e => by unfold plF; simp [e])
theorem PlAt.setR (h : PlAt w S B C vb vr pl aF sF) (v : Value) : PlAt (w.setCell ⟨S, 3, none⟩ v) S B C vb v pl aF sF := h.put 3 v rfl (fun i _ e => by unfold plF; simp [e])
theorem PlAt.setP (h : PlAt w S B C vb vr pl aF sF) (s : Nat) : PlAt (w.setCell ⟨S, 4, none⟩ (.int .u64 (s : Int))) S B C vb vr s aF sF := h.put 4 _ rfl (fun i _ e => by unfold plF; simp [e])
/-- A table with one number anew. -/
def updN (F : Nat → Nat) (i s : Nat) : Nat → Nat := fun k => if k = i then s else F k
theorem PlAt.setA (h : PlAt w S B C vb vr pl aF sF) {k : Nat} (hk : k < 64) (s : Nat) : PlAt (w.setCell ⟨S, 5 + k, none⟩ (.int .u64 (s : Int))) S B C vb vr pl (updN aF k s) sF := h.put (5 + k) _
  (by unfold plF updN; rw [if_neg (by omega), if_neg (by omega), if_neg (by omega), if_neg (by omega), if_neg (by omega), if_pos (by omega), if_pos (by omega)])
  (fun i _ e => by
    unfold plF updN
    by_cases h5 : i < 5
    · have : i = 0 ∨ i = 1 ∨ i = 2 ∨ i = 3 ∨ i = 4 := by omega
      rcases this with rfl | rfl | rfl | rfl | rfl <;> rfl
    · have : ¬ i - 5 = k := by omega
      simp only [this, if_false])
theorem PlAt.setS (h : PlAt w S B C vb vr pl aF sF) {k : Nat} (hk : k < 64) (s : Nat) : PlAt (w.setCell ⟨S, 69 + k, none⟩ (.int .u64 (s : Int))) S B C vb vr pl aF (updN sF k s) := h.put (69 + k) _
  (by unfold plF updN; rw [if_neg (by omega), if_neg (by omega), if_neg (by omega), if_neg (by omega), if_neg (by omega), if_neg (by omega), if_pos (by omega)])
  (fun i _ e => by
    unfold plF updN
    by_cases h5 : i < 69
    · by_cases h6 : i < 5
      · have : i = 0 ∨ i = 1 ∨ i = 2 ∨ i = 3 ∨ i = 4 := by omega
        rcases this with rfl | rfl | rfl | rfl | rfl <;> rfl
      · simp only [h5, if_true]
    · have : ¬ i - 69 = k := by omega
      simp only [this, if_false])
end
/-- A state: of a history, what is asked, and those that are placed, the last one first. What lay there ahead of it is W. -/
structure PlIs (W : World) (S B b : Nat) (h : List TxnV) (C : Nat) (r : List Nat) (vb vr : Value) (aF sF : Nat → Nat) (w : World) : Prop where
  o : OrdIs W B b h
  t : Tab W
  bel : Below W.heap.size W w
  low : W.heap.size ≤ S
  a : PlAt w S B C vb vr (plS r) aF sF
  ba : w.ownsRow (S + 1) 36 1 vb h.length ((List.range h.length).map fun i => .int .u64 ((baseN h C i : Nat) : Int))
  rw : w.ownsRow (S + 1) 3 1 vr r.length (r.reverse.map fun i : Nat => .int .i64 (i : Int))
  ne : ∀ g, vb.ownBlock = some g → vr.ownBlock ≠ some g
  set : ∀ k, k < 64 → IsSet (aF k) ∧ IsSet (sF k)
  eq : ∀ k ∈ r, aF k = aheadL r k ∧ sF k = plSee h C r k
  nd : r.Nodup
  lt : ∀ k ∈ r, k < h.length
  base : ∀ k ∈ r, ∀ j, (baseN h C k).testBit j = true → (aheadL r k).testBit j = true
/-- A step that changes a state alone, and lays new blocks. -/
structure PlStep (S : Nat) (vr vr' : Value) (w w' : World) : Prop where
  os : w'.os = w.os
  tape : w'.tape = w.tape
  output : w'.output = w.output
  size : w.heap.size ≤ w'.heap.size
  block : ∀ k, k < w.heap.size → k ≠ S → vr.ownBlock ≠ some k → w'.heap[k]? = w.heap[k]?
  own : ∀ g, vr'.ownBlock = some g → vr.ownBlock = some g ∨ w.heap.size ≤ g
theorem PlStep.of_below {S : Nat} {vr : Value} {w w' : World} (hb : Below w.heap.size w w') : PlStep S vr vr w w' := ⟨hb.os, hb.tape, hb.output, hb.size, fun k hk _ _ => hb.block k hk, fun _ hg => .inl hg⟩
theorem PlStep.refl (S : Nat) (vr : Value) (w : World) : PlStep S vr vr w w := .of_below (Below.refl _ _)
theorem PlStep.trans {S : Nat} {v1 v2 v3 : Value} {w1 w2 w3 : World} (h : PlStep S v1 v2 w1 w2) (k : PlStep S v2 v3 w2 w3) : PlStep S v1 v3 w1 w3 := by
  refine ⟨k.os.trans h.os, k.tape.trans h.tape, k.output.trans h.output, Nat.le_trans h.size k.size, fun j hj hs hv => ?_, fun g hg => ?_⟩
  · refine (k.block j (Nat.lt_of_lt_of_le hj h.size) hs (fun e => ?_)).trans (h.block j hj hs hv)
    rcases h.own j e with q | q
    · exact hv q
    · omega
  · rcases k.own g hg with q | q
    · exact h.own g q
    · exact .inr (Nat.le_trans h.size q)
/-- A slice apart from a state. -/
def RowX (S : Nat) (vr : Value) (w : World) (v : Value) (n size : Nat) (cs : List Value) : Prop := Row w v n size cs ∧ (0 < n → 0 < size → ∀ g, v.ownBlock = some g → g ≠ S ∧ vr.ownBlock ≠ some g)
theorem RowX.step {S : Nat} {v1 v2 : Value} {w w' : World} {v : Value} {n size : Nat} {cs : List Value} (h : RowX S v1 w v n size cs) (hs : 0 < size) (k : PlStep S v1 v2 w w') : RowX S v2 w' v n size cs := by
  obtain ⟨⟨hl, ao, cap, rfl, hm, hno, hc⟩, hx⟩ := h
  refine ⟨⟨hl, ao, cap, rfl, hm, hno, fun hn => ?_⟩, fun hn h0 g hg => ?_⟩
  · obtain ⟨b, off, rfl, hcell⟩ := hc hn
    obtain ⟨x1, x2⟩ := hx hn hs b rfl
    refine ⟨b, off, rfl, fun i hi => ?_⟩
    have h1 := hcell i hi
    have h2 : cs[i]? = some cs[i] := List.getElem?_eq_getElem (by omega)
    have hlt := block_lt (h1.trans h2)
    rw [← h1]
    show w'.cell? _ = w.cell? _
    simp only [World.cell?]
    rw [k.block b hlt x1 x2]
  · obtain ⟨b, off, rfl, hcell⟩ := hc hn
    obtain rfl : b = g := by injection hg
    obtain ⟨x1, x2⟩ := hx hn hs b rfl
    have hpos : 0 < n * size := Nat.mul_pos hn hs
    have h1 := hcell 0 hpos
    have h2 : cs[0]? = some cs[0] := List.getElem?_eq_getElem (by omega)
    have hlt := block_lt (h1.trans h2)
    refine ⟨x1, fun e => ?_⟩
    rcases k.own b e with q | q
    · exact x2 q
    · have : b < w.heap.size := hlt
      omega
section
variable {W : World} {S B b : Nat} {h : List TxnV} {C : Nat} {r : List Nat} {vb vr : Value} {aF sF : Nat → Nat} {w w' : World}
theorem pl_far {base : Nat} {e : TypeId} {size n : Nat} {v : Value} {xs : List Value} (hr : w.ownsRow base e size v n xs) {p : Addr} (hp : p.block < base) (u : Value) : (w.setCell p u).ownsRow base e size v n xs :=
  ownsRow_setCell_other hr (fun e => by have := (hr.lt _ e).1; omega) u
theorem PlIs.below (p : PlIs W S B b h C r vb vr aF sF w) (hb : Below w.heap.size w w') : PlIs W S B b h C r vb vr aF sF w' :=
  ⟨p.o, p.t, p.bel.trans (hb.mono p.bel.size), p.low, p.a.below hb p.a.lt, owns_below p.ba hb, owns_below p.rw hb, p.ne, p.set, p.eq, p.nd, p.lt, p.base⟩
theorem PlIs.ord (p : PlIs W S B b h C r vb vr aF sF w) : OrdIs w B b h := p.o.below p.bel
theorem PlIs.tab (p : PlIs W S B b h C r vb vr aF sF w) : Tab w := p.t.below p.bel (p.t.pos)
/-- All that are ahead of one, and all that it sees, are placed. -/
theorem ahead_in {r : List Nat} (hlt : ∀ k ∈ r, k < 64) : ∀ {k j : Nat}, (aheadL r k).testBit j = true → (plS r).testBit j = true := by
  induction r with
  | nil => intro k j hj; unfold aheadL at hj; simp at hj
  | cons i r ih =>
    intro k j hj
    have hlt' : ∀ a ∈ r, a < 64 := fun a ha => hlt a (List.mem_cons_of_mem _ ha)
    have : (plS r).testBit j = true := by
      unfold aheadL at hj
      split at hj
      · exact hj
      · exact ih hlt' hj
    rw [plS_bit j _ hlt', decide_eq_true_eq] at this
    rw [plS_bit j _ hlt, decide_eq_true_eq]
    exact List.mem_cons_of_mem _ this
theorem base_tail {i : Nat} (hi : i ∉ r) (hb : ∀ k ∈ i :: r, ∀ j, (baseN h C k).testBit j = true → (aheadL (i :: r) k).testBit j = true) : (∀ k ∈ r, ∀ j, (baseN h C k).testBit j = true → (aheadL r k).testBit j = true) ∧ ∀ j, (baseN h C i).testBit j = true → (plS r).testBit j = true := by
  constructor
  · intro k hk j hj
    have := hb k (List.mem_cons_of_mem _ hk) j hj
    unfold aheadL at this
    rwa [if_neg (fun e => hi (by rw [← e]; exact hk))] at this
  · intro j hj
    have := hb i (List.mem_cons_self ..) j hj
    unfold aheadL at this
    rwa [if_pos rfl] at this
/-- Whom one sees is ahead of it. -/
theorem sees_ahead {r : List Nat} (hlt : ∀ k ∈ r, k < 64) (hnd : r.Nodup) (hb : ∀ k ∈ r, ∀ j, (baseN h C k).testBit j = true → (aheadL r k).testBit j = true) : ∀ {k j : Nat}, (plSee h C r k).testBit j = true → (aheadL r k).testBit j = true := by
  induction r with
  | nil => intro k j hj; unfold plSee at hj; simp at hj
  | cons i r ih =>
    intro k j hj
    have hlt' : ∀ a ∈ r, a < 64 := fun a ha => hlt a (List.mem_cons_of_mem _ ha)
    obtain ⟨hi, hnd'⟩ := List.nodup_cons.1 hnd
    obtain ⟨hb', hbi⟩ := base_tail hi hb
    unfold plSee at hj
    unfold aheadL
    split at hj
    · rename_i e
      rw [if_pos e]
      exact wld4_in hbi (fun k j _ hj => ahead_in hlt' (ih hlt' hnd' hb' hj)) (fun k j _ hj => ahead_in hlt' hj) hj
    · rename_i e
      rw [if_neg e]
      exact ih hlt' hnd' hb' hj
end
end Go.Proofs.YtecpeegbfeijaaaDoor

namespace Go.Proofs.YtecpeegbfeijaaaDoor
set_option maxRecDepth 100000
open Go.RowKit

section
variable {b pl rv C : Nat} {sF aF : Nat → Nat}
theorem wld2_up {j : Nat} (h : (wld1 b pl C).testBit j = true) : (wld2 b pl rv C).testBit j = true := by
  unfold wld2; split
  · rw [Nat.testBit_or, h]; rfl
  · exact h
theorem wld3_up {j : Nat} (h : (wld2 b pl rv C).testBit j = true) : (wld3 b pl rv C sF).testBit j = true := by
  unfold wld3; split
  · rw [Nat.testBit_or, h]; rfl
  · exact h
theorem wld4_up {j : Nat} (h : (wld3 b pl rv C sF).testBit j = true) : (wld4 b pl rv C sF aF).testBit j = true := by
  unfold wld4; split
  · rw [Nat.testBit_or, h]; rfl
  · exact h
theorem wld4_all {j : Nat} (hc : C.testBit 4 = true) (h : pl.testBit j = true) : (wld4 b pl rv C sF aF).testBit j = true := by
  refine wld4_up (wld3_up (wld2_up ?_))
  unfold wld1
  rw [if_pos hc, Nat.testBit_or, h, Bool.or_true]
end
/-- A row, the last one first, of those each of which must see none but those ahead of it. -/
structure RowG (h : List TxnV) (C : Nat) (r : List Nat) : Prop where
  nd : r.Nodup
  lt : ∀ k ∈ r, k < 64
  base : ∀ k ∈ r, ∀ j, (baseN h C k).testBit j = true → (aheadL r k).testBit j = true
section
variable {h : List TxnV} {C : Nat}
theorem RowG.tail {i : Nat} {r : List Nat} (g : RowG h C (i :: r)) : RowG h C r :=
  ⟨(List.nodup_cons.1 g.nd).2, fun k hk => g.lt k (List.mem_cons_of_mem _ hk), (base_tail (List.nodup_cons.1 g.nd).1 g.base).1⟩
theorem RowG.head {i : Nat} {r : List Nat} (g : RowG h C (i :: r)) : ∀ j, (baseN h C i).testBit j = true → (plS r).testBit j = true := (base_tail (List.nodup_cons.1 g.nd).1 g.base).2
theorem aheadL_tail {i k : Nat} {r : List Nat} (hne : k ≠ i) : aheadL (i :: r) k = aheadL r k := by rw [aheadL, if_neg hne]
theorem plSee_tail {i k : Nat} {r : List Nat} (hne : k ≠ i) : plSee h C (i :: r) k = plSee h C r k := by rw [plSee, if_neg hne]
theorem plS_mem {r : List Nat} (hlt : ∀ k ∈ r, k < 64) {j : Nat} (hj : (plS r).testBit j = true) : j ∈ r := by rw [plS_bit j r hlt, decide_eq_true_eq] at hj; exact hj
theorem aheadL_mem {r : List Nat} (hlt : ∀ k ∈ r, k < 64) {k j : Nat} (hj : (aheadL r k).testBit j = true) : j ∈ r := plS_mem hlt (ahead_in hlt hj)
theorem aheadL_trans : ∀ {r : List Nat}, r.Nodup → (∀ k ∈ r, k < 64) → ∀ {k m j : Nat}, (aheadL r k).testBit m = true → (aheadL r m).testBit j = true → (aheadL r k).testBit j = true
  | [], _, _, k, m, j, h1, _ => by unfold aheadL at h1; simp at h1
  | i :: r, hnd, hlt, k, m, j, h1, h2 => by
    obtain ⟨hi, hnd'⟩ := List.nodup_cons.1 hnd
    have hlt' : ∀ a ∈ r, a < 64 := fun a ha => hlt a (List.mem_cons_of_mem _ ha)
    by_cases e : k = i
    · subst e
      rw [aheadL, if_pos rfl] at h1 ⊢
      have hm := plS_mem hlt' h1
      rw [aheadL_tail (fun e => hi (by rw [← e]; exact hm))] at h2
      exact ahead_in hlt' h2
    · rw [aheadL_tail e] at h1 ⊢
      have hm := aheadL_mem hlt' h1
      rw [aheadL_tail (fun e => hi (by rw [← e]; exact hm))] at h2
      exact aheadL_trans hnd' hlt' h1 h2
/-- Whom one sees, by the whole row. -/
theorem sees_fix : ∀ {r : List Nat}, RowG h C r → ∀ k, k ∈ r → plSee h C r k = wld4 (baseN h C k) (aheadL r k) (rivN h k) C (plSee h C r) (aheadL r)
  | [], _, k, hk => by cases hk
  | i :: r, g, k, hk => by
    obtain ⟨hi, hnd'⟩ := List.nodup_cons.1 g.nd
    have gt := g.tail
    have hS : ∀ k j, (plSee h C r k).testBit j = true → (plS r).testBit j = true := fun k j hj => ahead_in gt.lt (sees_ahead gt.lt gt.nd gt.base hj)
    by_cases e : k = i
    · subst e
      rw [show aheadL (k :: r) k = plS r by rw [aheadL, if_pos rfl]]
      conv => lhs; rw [plSee, if_pos rfl]
      refine wld4_congr g.head (fun m hm hp => ?_) (fun m j _ => hS m j)
      have hne : m ≠ k := fun e => hi (by rw [← e]; exact plS_mem gt.lt hp)
      rw [plSee_tail hne, aheadL_tail hne]; exact ⟨rfl, rfl⟩
    · have hkr : k ∈ r := by rcases List.mem_cons.1 hk with q | q; exact (e q).elim; exact q
      rw [plSee_tail e, aheadL_tail e, sees_fix gt k hkr]
      refine wld4_congr (gt.base k hkr) (fun m hm hp => ?_) (fun m j hp hj => aheadL_trans gt.nd gt.lt hp (sees_ahead gt.lt gt.nd gt.base hj))
      have hne : m ≠ i := fun e => hi (by rw [← e]; exact aheadL_mem gt.lt hp)
      rw [plSee_tail hne, aheadL_tail hne]; exact ⟨rfl, rfl⟩
end
end Go.Proofs.YtecpeegbfeijaaaDoor

namespace Go.Proofs.YtecpeegbfeijaaaDoor
set_option maxRecDepth 100000
open Go.RowKit

/-- Where one stands in a row, from a place on; -1: nowhere. -/
def placeF : List Int → Int → Nat → Int
  | [], _, _ => -1
  | a :: r, i, k => if a = i then (k : Int) else placeF r i (k + 1)
def placeI (l : List Int) (i : Int) : Int := placeF l i 0
end Go.Proofs.YtecpeegbfeijaaaDoor

namespace Go.Proofs.YtecpeegbfeijaaaDoor
set_option maxRecDepth 100000
open Go.RowKit

/-- Does one come ahead of another one in a row, as the reference says it? -/
def ahR (l : List Int) (i k : Int) : Bool := decide (placeI l i < placeI l k)
/-- Must one be seen by another one, whatever else is, as the reference says it? -/
def mustR (h : List TxnV) (x : Nat) (l : List Int) (i k : Nat) : Bool := ((froR h i k || (hasT x 1 && sesP h i k)) || (hasT x 32 && timP h i k)) || (ahR l (i : Int) (k : Int) && (hasT x 16 || (hasT x 8 && rivR h i k)))
end Go.Proofs.YtecpeegbfeijaaaDoor

namespace Go.Proofs.YtecpeegbfeijaaaDoor
set_option maxRecDepth 100000
open Go.RowKit

/-- All pairs of numbers below n. -/
def gridP (n : Nat) : List Pr := (List.range n).flatMap fun i => (List.range n).map fun k => (((i : Nat) : Int), ((k : Nat) : Int))
theorem gridP_len (n : Nat) : (gridP n).length = n * n := by
  unfold gridP
  rw [List.length_flatMap]
  have : ((List.range n).map fun i => ((List.range n).map fun k => ((((i : Nat) : Int), ((k : Nat) : Int)) : Pr)).length) = (List.range n).map fun _ => n := by simp
  rw [this, List.map_const']
  have hr : ∀ n k : Nat, (List.replicate n k).sum = n * k := by
    intro n k; induction n with
    | zero => simp
    | succ n ih => rw [List.replicate_succ, List.sum_cons, ih, Nat.succ_mul]; omega
  rw [hr, List.length_range]
theorem mem_gridP {n : Nat} {p : Pr} : p ∈ gridP n ↔ ∃ i k : Nat, i < n ∧ k < n ∧ p = ((i : Int), (k : Int)) := by
  unfold gridP
  rw [List.mem_flatMap]
  constructor
  · rintro ⟨i, hi, h⟩
    obtain ⟨k, hk, e⟩ := List.mem_map.1 h
    exact ⟨i, k, List.mem_range.1 hi, List.mem_range.1 hk, e.symm⟩
  · rintro ⟨i, k, hi, hk, rfl⟩
    exact ⟨i, List.mem_range.2 hi, List.mem_map.2 ⟨k, List.mem_range.2 hk, rfl⟩⟩
/-- Each once, of numbers below n, and each is one of M. -/
def InM (n : Nat) (M : Nat → Nat → Prop) (m : List Pr) : Prop := m.Nodup ∧ ∀ p ∈ m, ∃ i k : Nat, i < n ∧ k < n ∧ p = ((i : Int), (k : Int)) ∧ M i k
theorem InM.len {n : Nat} {M : Nat → Nat → Prop} {m : List Pr} (h : InM n M m) : m.length ≤ n * n := by
  rw [← gridP_len]
  refine nodup_le m (gridP n) h.1 fun p hp => ?_
  obtain ⟨i, k, hi, hk, e, _⟩ := h.2 p hp
  exact mem_gridP.2 ⟨i, k, hi, hk, e⟩
theorem InM.put {n : Nat} {M : Nat → Nat → Prop} {m : List Pr} (h : InM n M m) {i k : Nat} (hi : i < n) (hk : k < n) (hM : M i k) : InM n M (putP m (i : Int) (k : Int)) := by
  refine ⟨putP_nodup h.1, fun p hp => ?_⟩
  rcases mem_putP.1 hp with hp | rfl
  · exact h.2 p hp
  · exact ⟨i, k, hi, hk, rfl, hM⟩
/-- What must be seen of the start, what comes ahead, as the reference says it. -/
def staR (h : List TxnV) (x : Nat) (l : List Int) (n : Nat) : Mat := fun i k => decide (i < n) && decide (k < n) && decide (i ≠ k) && mustR h x l i k
/-- Are all pairs ahead of a place looked at: each is there, or isn't wanted? -/
def DoneTo (n : Nat) (P : Nat → Nat → Prop) (i0 k0 : Nat) : Prop := ∀ i k : Nat, i < n → k < n → (i < i0 ∨ (i = i0 ∧ k < k0)) → P i k
theorem DoneTo.row {n : Nat} {P : Nat → Nat → Prop} {i0 : Nat} (h : DoneTo n P i0 n) : DoneTo n P (i0 + 1) 0 := fun i k hi hk hlt => h i k hi hk (by omega)
theorem DoneTo.next {n : Nat} {P : Nat → Nat → Prop} {i0 k0 : Nat} (h : DoneTo n P i0 k0) (hp : P i0 k0) : DoneTo n P i0 (k0 + 1) := fun i k hi hk hlt => by
  by_cases e : i = i0 ∧ k = k0
  · rw [e.1, e.2]; exact hp
  · exact h i k hi hk (by omega)
theorem DoneTo.none {n : Nat} {P : Nat → Nat → Prop} : DoneTo n P 0 0 := fun i k _ _ h => by omega
theorem DoneTo.mono {n : Nat} {P Q : Nat → Nat → Prop} {i0 k0 : Nat} (h : DoneTo n P i0 k0) (hp : ∀ i k, P i k → Q i k) : DoneTo n Q i0 k0 := fun i k hi hk hlt => hp i k (h i k hi hk hlt)
theorem DoneTo.all {n : Nat} {P : Nat → Nat → Prop} {k0 : Nat} (h : DoneTo n P n k0) (i k : Nat) (hi : i < n) (hk : k < n) : P i k := h i k hi hk (.inl hi)
/-- The first round: what must be seen of the start. -/
def FirP (h : List TxnV) (x : Nat) (l : List Int) (n : Nat) (m : List Pr) (i k : Nat) : Prop := staR h x l n i k = true → ((i : Int), (k : Int)) ∈ m
theorem FirP.put {h : List TxnV} {x : Nat} {l : List Int} {n : Nat} {m : List Pr} {a b : Int} {i k : Nat} (hf : FirP h x l n m i k) : FirP h x l n (putP m a b) i k := fun hs => mem_putP.2 (.inl (hf hs))
end Go.Proofs.YtecpeegbfeijaaaDoor

namespace Go.Proofs.YtecpeegbfeijaaaDoor
set_option maxRecDepth 100000
open Go.RowKit

theorem all_congr {α : Type} {p q : α → Bool} : ∀ (l : List α), (∀ a ∈ l, p a = q a) → l.all p = l.all q
  | [], _ => rfl
  | a :: l, h => by rw [List.all_cons, List.all_cons, h a List.mem_cons_self, all_congr l (fun b hb => h b (List.mem_cons_of_mem _ hb))]
end Go.Proofs.YtecpeegbfeijaaaDoor

namespace Go.Proofs.YtecpeegbfeijaaaDoor
set_option maxRecDepth 100000
open Go.RowKit

theorem baseN_bit {h : List TxnV} {C i j : Nat} (hi : i < 64) : (baseN h C i).testBit j = true ↔ j < 64 ∧ baseM h (C : Int) j i = true := by
  unfold baseN
  rw [seeTo_bit _ _ _ _ (Nat.le_refl 64), Bool.and_eq_true, decide_eq_true_eq]
  exact ⟨fun ⟨a, b⟩ => ⟨a, by rwa [hasR_nat _ _ _ a hi] at b⟩, fun ⟨a, b⟩ => ⟨a, by rw [hasR_nat _ _ _ a hi]; exact b⟩⟩
theorem rivN_bit {h : List TxnV} {i j : Nat} : (rivN h i).testBit j = true ↔ j < 64 ∧ rivB h i j = true := by
  unfold rivN
  rw [testBit_mkS, Bool.and_eq_true, decide_eq_true_eq]
section
variable {h : List TxnV} {C : Nat}
theorem RowG.drop : ∀ {p r : List Nat}, RowG h C (p ++ r) → RowG h C r
  | [], _, g => g
  | _ :: p, _, g => RowG.drop (p := p) g.tail
theorem aheadL_drop : ∀ {p r : List Nat}, (p ++ r).Nodup → ∀ {k : Nat}, k ∈ r → aheadL (p ++ r) k = aheadL r k
  | [], _, _, _, _ => rfl
  | i :: p, r, hn, k, hk => by
    obtain ⟨hi, hn'⟩ := List.nodup_cons.1 (show (i :: (p ++ r)).Nodup from hn)
    show aheadL (i :: (p ++ r)) k = _
    rw [aheadL_tail (fun e => hi (by rw [← e]; exact List.mem_append_right _ hk)), aheadL_drop hn' hk]
end
/-- What one reads of others: nothing, or what another one wrote. -/
theorem read_from {h : List TxnV} (hc : checkI h = 0) {k : Nat} (hk : k < h.length) {x : Int × Int} (hx : x ∈ readsOf h k) : x.2 = -1 ∨ ∃ n : Nat, n < h.length ∧ x.2 = (n : Int) ∧ n ≠ k ∧ (wrtN h x.1).testBit n = true := by
  rw [reads_same hc hk] at hx
  unfold rdR at hx
  obtain ⟨o, ho, rfl⟩ := List.mem_map.1 hx
  obtain ⟨ho1, ho2⟩ := List.mem_filter.1 ho
  obtain ⟨h1, h2⟩ := refReads_in ho1
  rcases reads_F (may_of hc) hk h1 h2 with ⟨h0, hn⟩ | ⟨h0, u, hu, hku, hw⟩
  · left; unfold fromR; rw [if_pos h0]
  · right
    obtain ⟨p, hp, hpv, hpk⟩ := real_wr h h.length (Nat.le_refl _) o.val u hu
    obtain ⟨t, ht, hpt, hpw⟩ := wrs_mem.1 hp
    obtain ⟨n, hn, rfl⟩ := List.getElem_of_mem ht
    have h3 := may_wr (may_of hc) hn hpt hpw
    rw [hpv, hu] at h3
    have h4 := Option.some.inj h3
    have hui : u.i = (n : Int) := by rw [h4]
    have hfr : fromR h o = (n : Int) := by unfold fromR; rw [if_neg h0, hw, hui]
    refine ⟨n, hn, hfr, ?_, ?_⟩
    · rintro rfl
      rw [hfr] at ho2
      simp at ho2
    · have h64 := (check_zero hc).1
      show (wrtN h o.key).testBit n = true
      unfold wrtN
      rw [testBit_mkS, decide_eq_true (show n < 64 by omega), decide_eq_true hn, Bool.true_and, Bool.true_and, decide_eq_true_eq, opsAt_eq hn]
      unfold keysOf
      rw [← hku, ← hpk]
      obtain ⟨a, b⟩ := (check_zero hc).2.2.2 _ (List.getElem_mem hn) p hpt
      obtain ⟨q, hq⟩ := Option.isSome_iff_exists.1 (lastW_some h[n].l hpw h[n].l.length (Nat.le_refl _) (by rw [List.take_length]; exact hpt))
      rw [List.take_length] at hq
      refine List.mem_map.2 ⟨q, upTo_mem.2 ⟨p.key.toNat, by omega, ?_⟩, (lastW_key hq).1⟩
      unfold wrK
      rw [Int.toNat_of_nonneg a]; exact hq
theorem from_base {h : List TxnV} {C : Nat} (hC : C < 9223372036854775808) (h64 : h.length ≤ 64) {k n : Nat} (hk : k < h.length) (hn : n < h.length) {x : Int × Int} (hx : x ∈ readsOf h k) (he : x.2 = (n : Int)) : (baseN h C k).testBit n = true := by
  rw [baseN_bit (by omega)]
  refine ⟨by omega, (baseM_iff h C hC n k).2 (.inl ?_)⟩
  refine (prsTo_iff (froP h) h.length n k (by omega) (by omega) h.length).2 ⟨hn, hk, ?_⟩
  unfold froP
  rw [List.any_eq_true]
  exact ⟨x, hx, by rw [he]; simp⟩
theorem readsP_congr {h : List TxnV} {aF aG : Nat → Nat} {s k : Nat} (hc : ∀ x ∈ readsOf h k, 0 ≤ x.2 → aF x.2.toNat = aG x.2.toNat) : readsP h aF s k = readsP h aG s k := by
  unfold readsP
  refine all_congr _ fun x hx => ?_
  unfold readP readW
  by_cases h0 : 0 ≤ x.2
  · rw [if_pos h0, if_pos h0, hc x hx h0]
  · rw [if_neg h0, if_neg h0]
section
variable {h : List TxnV} {C : Nat}
theorem inB_bits {s t : Nat} (hs : IsSet s) : inB s t = true ↔ ∀ j, s.testBit j = true → t.testBit j = true := by
  rw [inB_iff hs]
  exact ⟨fun q j hj => q j (by by_cases e : j < 64; exact e; rw [hs.high (by omega)] at hj; cases hj) hj, fun q j _ hj => q j hj⟩
end
end Go.Proofs.YtecpeegbfeijaaaDoor

namespace Go.Proofs.YtecpeegbfeijaaaDoor
set_option maxRecDepth 100000
open Go.RowKit

/-- Those that write. -/
def wAllN (h : List TxnV) : Nat := mkS fun j => decide (j < h.length) && !(keysOf (opsAt h j)).isEmpty
theorem wAll_set (h : List TxnV) : IsSet (wAllN h) := isSet_mkS _
theorem wAll_bit {h : List TxnV} {j : Nat} : (wAllN h).testBit j = true ↔ j < 64 ∧ j < h.length ∧ keysOf (opsAt h j) ≠ [] := by
  unfold wAllN
  rw [testBit_mkS]
  simp
theorem wrt_all {h : List TxnV} {y : Int} {j : Nat} (hj : (wrtN h y).testBit j = true) : (wAllN h).testBit j = true := by
  unfold wrtN at hj
  rw [testBit_mkS] at hj
  simp only [Bool.and_eq_true, decide_eq_true_eq] at hj
  exact wAll_bit.2 ⟨hj.1, hj.2.1, fun e => by rw [e] at hj; cases hj.2.2⟩
theorem riv_all {h : List TxnV} (hc : checkI h = 0) {i k : Nat} (hr : (rivN h i).testBit k = true) : (wAllN h).testBit i = true ∧ (wAllN h).testBit k = true := by
  have h64 := (check_zero hc).1
  obtain ⟨hk, hr⟩ := rivN_bit.1 hr
  unfold rivB rivR at hr
  simp only [Bool.and_eq_true, decide_eq_true_eq, List.any_eq_true, List.mem_range] at hr
  obtain ⟨hi, hk2, _, n, _, h1, h2⟩ := hr
  have a1 := (keysOf_iff hc hi (n : Int)).2 h1
  have a2 := (keysOf_iff hc hk2 (n : Int)).2 h2
  exact ⟨wAll_bit.2 ⟨by omega, hi, fun e => by rw [e] at a1; cases a1⟩, wAll_bit.2 ⟨hk, hk2, fun e => by rw [e] at a2; cases a2⟩⟩
/-- Two rows alike in all that matters. -/
structure Sim (h : List TxnV) (C : Nat) (r s : List Nat) : Prop where
  mem : ∀ j, j ∈ r ↔ j ∈ s
  wr : ∀ k j, (wAllN h).testBit k = true → (wAllN h).testBit j = true → ((aheadL r k).testBit j = true ↔ (aheadL s k).testBit j = true)
  pf : C.testBit 2 = true → C.testBit 4 = false → ∀ k j, (wAllN h).testBit j = true → ((aheadL r k).testBit j = true ↔ (aheadL s k).testBit j = true)
section
variable {h : List TxnV} {C : Nat} {r s : List Nat}
theorem Sim.symm (q : Sim h C r s) : Sim h C s r := ⟨fun j => (q.mem j).symm, fun k j a b => (q.wr k j a b).symm, fun a b k j c => (q.pf a b k j c).symm⟩
theorem Sim.refl (h : List TxnV) (C : Nat) (r : List Nat) : Sim h C r r := ⟨fun _ => Iff.rfl, fun _ _ _ _ => Iff.rfl, fun _ _ _ _ _ => Iff.rfl⟩
theorem Sim.all (q : Sim h C r s) (hr : ∀ k ∈ r, k < 64) : plS r = plS s := by
  apply Nat.eq_of_testBit_eq
  intro j
  rw [plS_bit j r hr, plS_bit j s (fun k hk => hr k ((q.mem k).2 hk)), Bool.eq_iff_iff, decide_eq_true_eq, decide_eq_true_eq]
  exact q.mem j
theorem Sim.cons (q : Sim h C r s) (hr : ∀ k ∈ r, k < 64) (i : Nat) : Sim h C (i :: r) (i :: s) := by
  have e := q.all hr
  refine ⟨fun j => by rw [List.mem_cons, List.mem_cons, q.mem], fun k j a b => ?_, fun a b k j c => ?_⟩
  · unfold aheadL; split
    · rw [e]
    · exact q.wr k j a b
  · unfold aheadL; split
    · rw [e]
    · exact q.pf a b k j c
theorem wld2_bit {b pl rv j : Nat} (h4 : C.testBit 4 = false) : (wld2 b pl rv C).testBit j = true ↔ b.testBit j = true ∨ (C.testBit 3 = true ∧ rv.testBit j = true ∧ pl.testBit j = true) := by
  have e1 : wld1 b pl C = b := by unfold wld1; rw [h4]; rfl
  unfold wld2
  rw [e1]
  cases C.testBit 3 with
  | false => simp
  | true => simp [Nat.testBit_or, Nat.testBit_and]
theorem RowG.hin (g : RowG h C r) : ∀ k j, (plSee h C r k).testBit j = true → (aheadL r k).testBit j = true := fun _ _ hj => sees_ahead g.lt g.nd g.base hj
/-- Where neither all that come ahead are seen, nor all ahead of one that is seen: each sees just the same. -/
theorem Sim.sees (hc : checkI h = 0) (q : Sim h C r s) (g : RowG h C r) (g' : RowG h C s) (h4 : C.testBit 4 = false) (h2 : C.testBit 2 = false) : ∀ (t p : List Nat), p ++ t = r → ∀ k ∈ t, plSee h C r k = plSee h C s k
  | [], _, _, _, hk => by cases hk
  | i :: t, p, e, k, hk => by
    have ih := Sim.sees hc q g g' h4 h2 t (p ++ [i]) (by rw [List.append_assoc]; exact e)
    rcases List.mem_cons.1 hk with rfl | hk
    · have hkr : k ∈ r := by rw [← e]; simp
      have hks := (q.mem k).1 hkr
      have hnd : (p ++ k :: t).Nodup := by rw [e]; exact g.nd
      have hat : aheadL r k = plS t := by
        rw [← e, aheadL_drop hnd (List.mem_cons_self ..)]; unfold aheadL; rw [if_pos rfl]
      have ht64 : ∀ a ∈ t, a < 64 := fun a ha => g.lt a (by rw [← e]; simp [ha])
      rw [sees_fix g k hkr, sees_fix g' k hks]
      have e2 : wld2 (baseN h C k) (aheadL r k) (rivN h k) C = wld2 (baseN h C k) (aheadL s k) (rivN h k) C := by
        apply Nat.eq_of_testBit_eq
        intro j
        rw [Bool.eq_iff_iff, wld2_bit h4, wld2_bit h4]
        refine or_congr Iff.rfl (and_congr_right fun _ => and_congr_right fun hr => ?_)
        obtain ⟨a, b⟩ := riv_all hc hr
        exact q.wr k j a b
      have e3 : wld3 (baseN h C k) (aheadL r k) (rivN h k) C (plSee h C r) = wld3 (baseN h C k) (aheadL s k) (rivN h k) C (plSee h C s) := by
        unfold wld3
        rw [← e2, joinN_congr (F := plSee h C r) (G := plSee h C s) fun m _ hm => ih m ?_]
        have := wld2_in (g.base k hkr) hm
        rw [hat] at this
        exact plS_mem ht64 this
      unfold wld4
      rw [if_neg (by rw [h2]; simp), if_neg (by rw [h2]; simp)]
      exact e3
    · exact ih k hk
theorem nextN_in (g : RowG h C r) {i : Nat} (hb : ∀ j, (baseN h C i).testBit j = true → (plS r).testBit j = true) {j : Nat} (hj : (nextN h C r i).testBit j = true) : (plS r).testBit j = true :=
  wld4_in hb (fun k j _ hj => ahead_in g.lt (g.hin k j hj)) (fun _ _ _ hj => ahead_in g.lt hj) hj
/-- By Prefix: whom one sees that comes next. -/
theorem next_prefix (g : RowG h C r) (h2 : C.testBit 2 = true) (i j : Nat) : (nextN h C r i).testBit j = true ↔
    (wld2 (baseN h C i) (plS r) (rivN h i) C).testBit j = true ∨ ∃ m, (wld2 (baseN h C i) (plS r) (rivN h i) C).testBit m = true ∧ m < 64 ∧ (aheadL r m).testBit j = true := by
  unfold nextN
  constructor
  · intro hj
    have h3 : ∀ x, (wld3 (baseN h C i) (plS r) (rivN h i) C (plSee h C r)).testBit x = true → (wld2 (baseN h C i) (plS r) (rivN h i) C).testBit x = true ∨ ∃ m, (wld2 (baseN h C i) (plS r) (rivN h i) C).testBit m = true ∧ m < 64 ∧ (aheadL r m).testBit x = true := by
      intro x hx
      unfold wld3 at hx
      split at hx
      · rw [Nat.testBit_or, Bool.or_eq_true, joinN_iff] at hx
        rcases hx with hx | ⟨m, hm, a, b⟩
        · exact .inl hx
        · exact .inr ⟨m, a, hm, g.hin m x b⟩
      · exact .inl hx
    unfold wld4 at hj
    rw [if_pos h2, Nat.testBit_or, Bool.or_eq_true, joinN_iff] at hj
    rcases hj with hj | ⟨m, hm, a, b⟩
    · exact h3 j hj
    · rcases h3 m a with q | ⟨m2, q, hm2, q2⟩
      · exact .inr ⟨m, q, hm, b⟩
      · exact .inr ⟨m2, q, hm2, aheadL_trans g.nd g.lt q2 b⟩
  · rintro (hj | ⟨m, a, hm, b⟩)
    · exact wld4_up (wld3_up hj)
    · unfold wld4
      rw [if_pos h2, Nat.testBit_or, Bool.or_eq_true, joinN_iff]
      exact .inr ⟨m, hm, wld3_up a, b⟩
/-- Of those that write, one sees the same that comes next. -/
theorem Sim.next (hc : checkI h = 0) (q : Sim h C r s) (g : RowG h C r) (g' : RowG h C s) {i : Nat} (hb : ∀ j, (baseN h C i).testBit j = true → (plS r).testBit j = true) {j : Nat} (hj : (wAllN h).testBit j = true) :
    (nextN h C r i).testBit j = true ↔ (nextN h C s i).testBit j = true := by
  have e := q.all g.lt
  cases h4 : C.testBit 4 with
  | true => exact ⟨fun a => wld4_all h4 (by rw [← e]; exact nextN_in g hb a), fun a => wld4_all h4 (by rw [e]; exact nextN_in g' (by rw [← e]; exact hb) a)⟩
  | false =>
    cases h2 : C.testBit 2 with
    | true =>
      rw [next_prefix g h2, next_prefix g' h2, ← e]
      exact or_congr Iff.rfl ⟨fun ⟨m, a, b, c⟩ => ⟨m, a, b, (q.pf h2 h4 m j hj).1 c⟩, fun ⟨m, a, b, c⟩ => ⟨m, a, b, (q.pf h2 h4 m j hj).2 c⟩⟩
    | false =>
      have hs := Sim.sees hc q g g' h4 h2 r [] rfl
      have e3 : wld3 (baseN h C i) (plS r) (rivN h i) C (plSee h C r) = wld3 (baseN h C i) (plS r) (rivN h i) C (plSee h C s) := by
        unfold wld3
        rw [joinN_congr (F := plSee h C r) (G := plSee h C s) fun m _ hm => hs m (plS_mem g.lt (wld2_in hb hm))]
      unfold nextN wld4
      rw [h2, ← e, e3]
      simp only [Bool.false_eq_true, if_false]
theorem lack_bits (a b : Nat) : decide (lackN a b = 0) = true ↔ ∀ k, a.testBit k = true → b.testBit k = true := by rw [decide_eq_true_eq, lack_iff]
/-- Whoever may come in the one may come in the other one. -/
theorem Sim.try (hc : checkI h = 0) (q : Sim h C r s) (g : RowG h C r) (g' : RowG h C s) (i : Nat) : tryP h C r i = tryP h C s i := by
  have e := q.all g.lt
  have h64 := (check_zero hc).1
  unfold tryP
  by_cases hi : i < h.length
  · rw [decide_eq_true hi, Bool.true_and, Bool.true_and, show decide (i ∈ r) = decide (i ∈ s) by simp only [q.mem i], ← e]
    congr 1
    cases hbb : inB (baseN h C i) (plS r) with
    | false => rfl
    | true =>
      have hb := (inB_bits (baseN_set h C i)).1 hbb
      rw [Bool.true_and, Bool.true_and]
      unfold readsP
      refine all_congr _ fun x hx => ?_
      have hrf := read_from hc hi hx
      unfold readP readW
      by_cases h0 : 0 ≤ x.2
      · rw [if_pos h0, if_pos h0, Bool.eq_iff_iff, lack_bits, lack_bits]
        rcases hrf with hrf | ⟨n, hn, hx2, hni, hw⟩
        · omega
        have hWn := wrt_all hw
        rw [hx2, Int.toNat_natCast]
        have side : ∀ (a b : List Nat), (∀ k, (wAllN h).testBit k = true → ((nextN h C a i).testBit k = true → (nextN h C b i).testBit k = true)) → (∀ k, (wAllN h).testBit k = true → ((aheadL b n).testBit k = true → (aheadL a n).testBit k = true)) →
            (∀ k, (nextN h C b i &&& wrtN h x.1).testBit k = true → (withS (aheadL b n) (n : Int)).testBit k = true) → (∀ k, (nextN h C a i &&& wrtN h x.1).testBit k = true → (withS (aheadL a n) (n : Int)).testBit k = true) := by
          intro a b hab hba hB k hk
          rw [Nat.testBit_and, Bool.and_eq_true] at hk
          have hW := wrt_all hk.2
          have := hB k (by rw [Nat.testBit_and, Bool.and_eq_true]; exact ⟨hab k hW hk.1, hk.2⟩)
          rw [testBit_withS] at this ⊢
          simp only [Bool.or_eq_true] at this ⊢
          exact this.imp (hba k hW) id
        exact ⟨side s r (fun k hk a => (q.next hc g g' hb hk).2 a) (fun k hk a => (q.wr n k hWn hk).1 a), side r s (fun k hk a => (q.next hc g g' hb hk).1 a) (fun k hk a => (q.wr n k hWn hk).2 a)⟩
      · rw [if_neg h0, if_neg h0, Bool.eq_iff_iff, decide_eq_true_eq, decide_eq_true_eq]
        have side : ∀ (a b : List Nat), (∀ k, (wAllN h).testBit k = true → ((nextN h C a i).testBit k = true → (nextN h C b i).testBit k = true)) → nextN h C b i &&& wrtN h x.1 = 0 → nextN h C a i &&& wrtN h x.1 = 0 := by
          intro a b hab hB
          apply Nat.eq_of_testBit_eq
          intro k
          rw [Nat.zero_testBit, Nat.testBit_and]
          cases hw : (wrtN h x.1).testBit k with
          | false => rw [Bool.and_false]
          | true =>
            cases hn : (nextN h C a i).testBit k with
            | false => rfl
            | true =>
              have : (nextN h C b i &&& wrtN h x.1).testBit k = true := by rw [Nat.testBit_and, hab k (wrt_all hw) hn, hw]; rfl
              rw [hB, Nat.zero_testBit] at this; cases this
        exact ⟨side s r (fun k hk a => (q.next hc g g' hb hk).2 a), side r s (fun k hk a => (q.next hc g g' hb hk).1 a)⟩
  · rw [decide_eq_false hi]; rfl
end
end Go.Proofs.YtecpeegbfeijaaaDoor

namespace Go.Proofs.YtecpeegbfeijaaaDoor
set_option maxRecDepth 100000
open Go.RowKit

/-- Those of a row that write; of each of a row how many of these are ahead of it. -/
def wrOf (h : List TxnV) (r : List Nat) : List Nat := r.filter fun i => (wAllN h).testBit i
def aheadC (h : List TxnV) : List Nat → Nat → Nat
  | [], _ => 0
  | i :: r, k => if k = i then (wrOf h r).length else aheadC h r k
def reachB (C : Nat) : Bool := C.testBit 2 && !C.testBit 4
def keyL (h : List TxnV) (C : Nat) (r : List Nat) : List Nat := (wrOf h r).reverse ++ if reachB C then (lst (lackN (plS r) (wAllN h))).map (aheadC h r) else []
def byteB (l : List Nat) : ByteArray := ⟨(l.map fun n => UInt8.ofNat n).toArray⟩
def keyB (h : List TxnV) (C : Nat) (r : List Nat) : ByteArray := byteB (keyL h C r)
section
variable {h : List TxnV} {C : Nat} {r s : List Nat}
theorem wrOf_cons (i : Nat) (r : List Nat) : wrOf h (i :: r) = if (wAllN h).testBit i then i :: wrOf h r else wrOf h r := by
  unfold wrOf; rw [List.filter_cons]
theorem mem_wrOf {j : Nat} : j ∈ wrOf h r ↔ j ∈ r ∧ (wAllN h).testBit j = true := by unfold wrOf; rw [List.mem_filter]
theorem wrOf_le : (wrOf h r).length ≤ r.length := List.length_filter_le _ _
theorem mem_of_plS (hr : ∀ k ∈ r, k < 64) (hs : ∀ k ∈ s, k < 64) (hp : plS r = plS s) (j : Nat) : j ∈ r ↔ j ∈ s := by
  have h1 := plS_bit j r hr
  have h2 := plS_bit j s hs
  rw [hp, h2] at h1
  simp only [decide_eq_decide] at h1
  exact h1.symm
theorem wrOf_perm (hr : r.Nodup) (hs : s.Nodup) (hm : ∀ j, j ∈ r ↔ j ∈ s) : (wrOf h r).length = (wrOf h s).length :=
  (((List.perm_ext_iff_of_nodup hr hs).2 hm).filter _).length_eq
/-- Where one that writes stands among these. -/
theorem wr_at : ∀ (r : List Nat), r.Nodup → ∀ a ∈ wrOf h r, (wrOf h r).reverse[aheadC h r a]? = some a
  | [], _, a, ha => by cases ha
  | i :: r, hnd, a, ha => by
    obtain ⟨hi, hnd'⟩ := List.nodup_cons.1 hnd
    obtain ⟨ha1, ha2⟩ := mem_wrOf.1 ha
    by_cases e : a = i
    · subst e
      have e1 : aheadC h (a :: r) a = (wrOf h r).length := by rw [aheadC]; exact if_pos rfl
      rw [wrOf_cons, if_pos ha2, e1, List.reverse_cons, List.getElem?_append_right (by simp)]
      simp
    · have e1 : aheadC h (i :: r) a = aheadC h r a := by rw [aheadC]; exact if_neg e
      have ih := wr_at r hnd' a (mem_wrOf.2 ⟨(List.mem_cons.1 ha1).resolve_left e, ha2⟩)
      rw [e1, wrOf_cons]
      split
      · rw [List.reverse_cons, List.getElem?_append_left (by obtain ⟨q, _⟩ := List.getElem?_eq_some_iff.1 ih; exact q)]
        exact ih
      · exact ih
/-- Rows whose writers come in the same order, and whose others have as many of these ahead. -/
theorem key_alike (nr : r.Nodup) (ns : s.Nodup) (hm : ∀ j, j ∈ r ↔ j ∈ s) (hp : plS r = plS s) (hc : ∀ k ∈ r, aheadC h r k = aheadC h s k) (hr : ∀ k ∈ r, k < 64) : keyB h C r = keyB h C s := by
  have hwm : ∀ a, a ∈ wrOf h r ↔ a ∈ wrOf h s := fun a => by rw [mem_wrOf, mem_wrOf, hm]
  have e1 : (wrOf h r).reverse = (wrOf h s).reverse := by
    have nrr : (wrOf h r).reverse.Nodup := (List.reverse_perm _).nodup_iff.2 (nr.filter _)
    apply List.ext_getElem (by rw [List.length_reverse, List.length_reverse]; exact wrOf_perm nr ns hm)
    intro n h1 h2
    have ha : (wrOf h r).reverse[n] ∈ wrOf h r := List.mem_reverse.1 (List.getElem_mem h1)
    generalize hae : (wrOf h r).reverse[n] = a at *
    have h3 := wr_at r nr a ha
    obtain ⟨h4, h5⟩ := List.getElem?_eq_some_iff.1 h3
    have h6 : aheadC h r a = n := (List.getElem_inj nrr).1 (h5.trans hae.symm)
    have h7 := wr_at s ns a ((hwm a).1 ha)
    rw [← hc a (mem_wrOf.1 ha).1, h6] at h7
    obtain ⟨_, h8⟩ := List.getElem?_eq_some_iff.1 h7
    exact h8.symm
  unfold keyB keyL
  rw [e1, hp]
  congr 2
  split
  · refine List.map_congr_left fun k hk => ?_
    obtain ⟨_, h2⟩ := mem_lst.1 hk
    unfold lackN at h2
    rw [Nat.testBit_xor, Nat.testBit_and, ← hp, plS_bit k r hr] at h2
    by_cases hkr : k ∈ r
    · exact hc k hkr
    · rw [decide_eq_false hkr] at h2; simp at h2
  · rfl
end
end Go.Proofs.YtecpeegbfeijaaaDoor

namespace Go.Proofs.YtecpeegbfeijaaaDoor
set_option maxRecDepth 100000
open Go.RowKit

/-- The map says who writes. -/
def WrsIs (F : Int → Option Nat) (h : List TxnV) : Prop := ∀ y j, ((F y).getD 0).testBit j = (decide (j < h.length) && decide (y ∈ keysOf (opsAt h j)))
theorem wrsIs_of {h : List TxnV} {K : List KRow} (hc : checkI h = 0) (hK : K.map (·.2) = keysTo h h.length) : WrsIs (wrsTo K K.length) h := fun y j => by
  have h64 := (check_zero hc).1
  have hl := keys_len hK
  rw [wrsTo_bit K j y K.length (by omega) (Nat.le_refl _), hl]
  by_cases hj : j < h.length
  · rw [keys_at hK hj]
  · simp [hj]
/-- The map of writers. -/
theorem ordis_map {w : World} {B b : Nat} {h : List TxnV} (hO : OrdIs w B b h) (hc : checkI h = 0) : ∃ bm m c F, w.cell? ⟨B, 193, none⟩ = some (.map (some bm)) ∧ MapI eS Tryd.prog 3 w bm m F c ∧ AllSet F ∧ WrsIs F h := by
  obtain ⟨bm, m, c, vk, vr, K, R, h1, h2, h3, h4, h5, h6⟩ := hO
  exact ⟨bm, m, c, _, h1.cM, h2, h3, wrsIs_of hc h5⟩
theorem keys_in {h : List TxnV} (hc : checkI h = 0) {j : Nat} (hj : j < h.length) {y : Int} (hy : y ∈ keysOf (opsAt h j)) : 0 ≤ y ∧ y < 64 := by
  obtain ⟨_, _, _, hks⟩ := check_zero hc
  obtain ⟨o, ho, rfl⟩ := List.mem_map.1 hy
  have h3 := (refWrites_mem ho).1
  rw [opsAt_eq hj] at h3
  exact hks _ (List.getElem_mem hj) o h3
end Go.Proofs.YtecpeegbfeijaaaDoor

namespace Go.Proofs.YtecpeegbfeijaaaDoor
set_option maxRecDepth 100000
open Go.RowKit

theorem keyIM : Tryd.prog.underlying 3 = some (.int .i64) := by kernel_rfl
theorem mapISM : Tryd.prog.underlying 69 = some (.map 3 36) := by kernel_rfl
theorem eS_injM : ∀ x y : Nat, eS x = eS y → x = y := fun x y e => by
  unfold eS at e
  injection e with _ e
  exact_mod_cast e
/-- All that write to keys that are no longer to come. -/
def Alls (F : Int → Option Nat) (left : Int → Bool) (s : Nat) : Prop := IsSet s ∧ ∀ j, s.testBit j = true ↔ ∃ x u, InI x ∧ F x = some u ∧ left x = false ∧ u.testBit j = true
theorem Alls.start (F : Int → Option Nat) : Alls F (fun x => (F x).isSome) 0 := ⟨by unfold IsSet; omega, fun j => ⟨fun q => by simp at q, fun ⟨x, u, _, h1, h2, _⟩ => by
  have h2 : (F x).isSome = false := h2
  rw [h1] at h2; cases h2⟩⟩
theorem Alls.step {F : Int → Option Nat} {left : Int → Bool} {s : Nat} (h : Alls F left s) (hA : AllSet F) {x : Int} {u : Nat} (hx : InI x) (hf : F x = some u) : Alls F (fun y => left y && !decide (y = x)) (s ||| u) := by
  have hu := hA x
  rw [hf] at hu
  refine ⟨isSet_or h.1 hu, fun j => ?_⟩
  rw [Nat.testBit_or, Bool.or_eq_true, h.2 j]
  constructor
  · rintro (⟨y, v, h1, h2, h3, h4⟩ | h4)
    · exact ⟨y, v, h1, h2, by show (left y && _) = false; rw [h3]; rfl, h4⟩
    · exact ⟨x, u, hx, hf, by simp, h4⟩
  · rintro ⟨y, v, h1, h2, h3, h4⟩
    by_cases e : y = x
    · subst e; rw [hf] at h2; cases h2; exact .inr h4
    · have h3 : (left y && !decide (y = x)) = false := h3
      rw [decide_eq_false e] at h3
      exact .inl ⟨y, v, h1, h2, by simpa using h3, h4⟩
theorem Alls.done {F : Int → Option Nat} {left : Int → Bool} {s : Nat} {h : List TxnV} (q : Alls F left s) (hc : checkI h = 0) (hW : WrsIs F h) (hl : ∀ x, InI x → left x = false) : s = wAllN h := by
  have h64 := (check_zero hc).1
  apply Nat.eq_of_testBit_eq
  intro j
  rw [Bool.eq_iff_iff, q.2 j, wAll_bit]
  constructor
  · rintro ⟨x, u, h1, h2, h3, h4⟩
    have := hW x j
    rw [h2, Option.getD_some, h4] at this
    have := this.symm
    simp only [Bool.and_eq_true, decide_eq_true_eq] at this
    exact ⟨by omega, this.1, fun e => by rw [e] at this; cases this.2⟩
  · rintro ⟨h1, h2, h3⟩
    obtain ⟨y, l, e⟩ := List.exists_cons_of_ne_nil h3
    have hy : y ∈ keysOf (opsAt h j) := by rw [e]; exact List.mem_cons_self ..
    have := hW y j
    rw [decide_eq_true h2, decide_eq_true hy] at this
    have hyi := keys_in hc h2 hy
    have hI : InI y := WalkArith.wf_i64 (by omega)
    cases hF : F y with
    | none => rw [hF] at this; simp at this
    | some u => exact ⟨y, u, hI, hF, hl y hI, by rw [hF] at this; exact this⟩
set_option maxHeartbeats 4000000 in
theorem mwriters_any {w : World} {B b : Nat} {h : List TxnV} (hO : OrdIs w B b h) (hc : checkI h = 0) :
    Calls Tryd.prog 22 #[.pointer (some ⟨B, 0, none⟩)] w fun e w' => e = .returned (.int .u64 ((wAllN h : Nat) : Int)) ∧ Below w.heap.size w w' := by
  obtain ⟨bm, m, c, F, n0, hM, hA, hW⟩ := ordis_map hO hc
  have HD : Hid (∀ left s, (∀ x, InI x → left x = false) → Alls F left s → s = wAllN h) := Lib.hid (fun left s hl q => q.done hc hW hl)
  have HS : Hid (∀ left s x u, InI x → F x = some u → Alls F left s → Alls F (fun y => left y && !decide (y = x)) (s ||| u)) := Lib.hid (fun left s x u hx hf q => q.step hA hx hf)
  have HU : Hid (∀ x u, F x = some u → IsSet u) := Lib.hid (fun x u hf => by have := hA x; rw [hf] at this; exact this)
  have hbm := hM.lt
  clear hO hc hA hW
  go_enter Tryd.func22, Tryd.ntmps22
  go_wp2_with (first | (at_range; refine wpList_rangeI _ rfl _ 69 rfl 3 36 keyIM mapISM _ _ _ _ rfl hM ?_; intro w0 hR0 hg0 hs0) | go_in)
  try go_frame
  have hb0 := (Below.refl w.heap.size w).grown hg0 (Nat.le_refl _) (fun j hj => by cases hj)
  have hpr : w.heap.size ≤ w.heap.size := Nat.le_refl _
  clear hM hg0 hs0 n0
  go_loopw [3] (fun v wx => ∃ (left : Int → Bool) (cnt s : Nat), v = .int .u64 (s : Int) ∧ Hid (Alls F left s) ∧ RangeI eS Tryd.prog 3 wx bm w.heap.size m F left cnt ∧ Below w.heap.size w wx) (fun _ wx => wx.rangeLeft bm w.heap.size)
  case atStart => exact ⟨_, _, 0, rfl, Lib.hid (Alls.start F), hR0, hb0⟩
  case round =>
    clear hR0 hb0
    obtain ⟨left, cnt, s, rfl, HA, hR, hb⟩ := hrel
    have hs := HA.out.1
    go_wp2_with (first | (at_next; refine wpList_nextI _ rfl _ rfl 3 keyIM eS_injM _ _ _ _ _ _ rfl hR ?_ ?_) | go_in)
    · intro hc0 hl0
      have e := HD.out _ _ hl0 HA.out
      subst e
      clear hR hs HA HD HS HU
      go_wp2_with fail
      go_ret
      exact ⟨rfl, hb⟩
    · intro x u w1 cnt1 hx hlx hfu hR1 hlt1 hg1 hs1 hen
      have hu := HU.out x u hfu
      have HA2 := Lib.hid (HS.out _ _ _ _ hx hfu HA.out)
      have hor := bits_or_u64_nat s u hs hu
      have hb1 := hb.grown hg1 hb.size (fun j hj => by cases hj; exact hpr)
      have hle2 := hR.left_eq
      clear hR hb hg1 hs1 hlx hfu hx hu hs HA
      change Sem.run _ _ _ = Result.ok (Value.tuple #[.int .i64 x, .int .u64 (u : Int)]) _ at hen
      simp only [eS]
      go_wp2_with fail
      go_roundw
      case rel => exact ⟨_, _, _, rfl, HA2, hR1, hb1⟩
      case measure => rw [hR1.left_eq, hle2]; exact hlt1
end Go.Proofs.YtecpeegbfeijaaaDoor

namespace Go.Proofs.YtecpeegbfeijaaaDoor
set_option maxRecDepth 100000
open Go.RowKit

/-- A key: who is placed, and what matters of their order. -/
def kV (p : Nat) (s : ByteArray) : Value := .agg #[.int .u64 (p : Int), .string s]
theorem kV_inj {p p' : Nat} {s s' : ByteArray} (h : kV p s = kV p' s') : p = p' ∧ s = s' := by
  unfold kV at h
  simp at h
  exact ⟨by exact_mod_cast h.1, h.2⟩
theorem lawK : Maps.Keyed Tryd.prog 38 :=
  Maps.Keyed.of_law (deep_law_laid laidOut (m := 2) (by omega) (of_decide_eq_true (by kernel_rfl)) (by kernel_rfl) (by kernel_rfl))
noncomputable def elK : TypeId := match Tryd.prog.underlying 47 with | some (.map _ e) => e | _ => 0
theorem undK : Tryd.prog.underlying 47 = some (.map 38 elK) := by kernel_rfl
theorem zeroK (w : World) : (zeroValue elK).run Tryd.prog w = .ok (.agg #[]) w := by kernel_rfl
theorem undKey : ∃ f1 f2 : Field, Tryd.prog.underlying 38 = some (.struct #[f1, f2]) ∧ (f1.name != "_") = true ∧ (f2.name != "_") = true ∧ f1.type = 36 ∧ f2.type = 9 ∧ f1.offset = 0 ∧ f2.offset = 1 := by
  have h0 : (match Tryd.prog.underlying 38 with | some (.struct fs) => fs.toList.map (fun f => (f.name != "_", f.type, f.offset)) | _ => []) = [(true, 36, 0), (true, 9, 1)] := by kernel_rfl
  cases hq : Tryd.prog.underlying 38 with
  | none => rw [hq] at h0; cases h0
  | some k =>
    rw [hq] at h0
    cases k
    case struct fs =>
      obtain ⟨l⟩ := fs
      simp only at h0
      match l, h0 with
      | [f1, f2], h0 =>
        simp only [List.map_cons, List.map_nil, List.cons.injEq, Prod.mk.injEq, and_true] at h0
        obtain ⟨⟨a1, a2, a3⟩, b1, b2, b3⟩ := h0
        exact ⟨f1, f2, rfl, a1, b1, a2, b2, a3, b3⟩
    all_goals cases h0
theorem cellsKey : Tryd.prog.cellsOf 38 = 2 ∧ Tryd.prog.cellsOf 36 = 1 ∧ Tryd.prog.cellsOf 9 = 1 := ⟨by kernel_rfl, by kernel_rfl, by kernel_rfl⟩
theorem litKey {p : Int} {s : ByteArray} (hp : (Lit.int .u64 p).wf = true) (hs : s.size ≤ maxLen) (d : Nat) : ∃ ls, Tryd.prog.keyLits (d + 2) 38 [.int .u64 p, .string s] = some ls := by
  obtain ⟨f1, f2, hu, n1, n2, t1, t2, o1, o2⟩ := undKey
  obtain ⟨c0, c1, c2⟩ := cellsKey
  have e1 : Tryd.prog.keyLits (d + 1) 36 [.int .u64 p] = some [.int .u64 p] := by
    unfold Program.keyLits
    rw [Tryd.underlying36]
    simp only [hp, and_self, if_true]
  have e2 : Tryd.prog.keyLits (d + 1) 9 [.string s] = some [.string s.data.toList] := by
    unfold Program.keyLits
    rw [Tryd.underlying9]
    simp only [hs, if_true]
  unfold Program.keyLits
  rw [hu]
  simp only [c0, List.length_cons, List.length_nil, Nat.zero_add, Nat.reduceAdd, true_and]
  rw [if_pos (by simp [n1, n2])]
  simp [t1, t2, o1, o2, c1, c2, e1, e2]
/-- What a key reads as. -/
theorem keyOf_mk {p : Nat} {s : ByteArray} (hp : p < 18446744073709551616) (hs : s.size ≤ maxLen) : ∃ l, keyOf Tryd.prog 38 (kV p s) = some l ∧ WideAt.IsKeyLit l := by
  have hk : ∃ l, keyOf Tryd.prog 38 (kV p s) = some l := by
    have h1 : Tryd.prog.keyType 38 = true := by kernel_rfl
    have h2 : (kV p s).formed Tryd.prog 38 = true := by kernel_rfl
    obtain ⟨f1, f2, hu, _⟩ := undKey
    have hsz : 1 ≤ Tryd.prog.types.size := of_decide_eq_true (by kernel_rfl)
    obtain ⟨ls, hl⟩ := litKey (p := (p : Int)) (s := s) (WalkArith.wf_u64 (by omega)) hs (Tryd.prog.types.size - 1)
    rw [show Tryd.prog.types.size - 1 + 2 = Tryd.prog.types.size + 1 by omega] at hl
    unfold keyOf
    rw [hu]
    simp only [h1, h2, Bool.and_true, if_true]
    exact ⟨_, by rw [show (kV p s).cells.toList = [.int .u64 (p : Int), .string s] from rfl, hl]; rfl⟩
  obtain ⟨l, hl⟩ := hk
  exact ⟨l, hl, lawK.key hl⟩
/-- Block b is a map of at most n keys: which ones f says. -/
def MemM (w : World) (b n : Nat) (f : Nat → ByteArray → Bool) : Prop :=
  ∃ D, w.ownsMap Tryd.prog 38 (unitElem (H := Unit)) b n D ∧ ∀ p s l, keyOf Tryd.prog 38 (kV p s) = some l → Maps.has D l = f p s
theorem MemM.made (w : World) : MemM (w.alloc (.map #[] 0)) w.heap.size 0 (fun _ _ => false) := ⟨_, World.ownsMap_made w _ _ _, fun _ _ _ _ => rfl⟩
section
variable {w : World} {b n : Nat} {f : Nat → ByteArray → Bool}
theorem MemM.lt (h : MemM w b n f) : b < w.heap.size := by obtain ⟨D, h, _⟩ := h; exact h.lt
theorem MemM.alloc (h : MemM w b n f) (o : Obj) : MemM (w.alloc o) b n f := by obtain ⟨D, h, r⟩ := h; exact ⟨D, h.alloc o, r⟩
theorem MemM.mono (h : MemM w b n f) {n' : Nat} (hn : n ≤ n') : MemM w b n' f := by obtain ⟨D, h, r⟩ := h; exact ⟨D, h.mono hn, r⟩
theorem MemM.kept {w' : World} {row : Option Nat} (h : MemM w b n f) (hg : w.grownBy w' row) (hne : some b ≠ row) : MemM w' b n f := by
  obtain ⟨D, h, r⟩ := h; exact ⟨D, h.kept hg hne, r⟩
theorem MemM.below {w' : World} (h : MemM w b n f) {B : Nat} (hb : Below B w w') (hB : b < B) : MemM w' b n f := by
  obtain ⟨D, ⟨es, clock, h1, h2, h3, h4⟩, r⟩ := h
  exact ⟨D, ⟨es, clock, (hb.block b hB).trans h1, h2, h3, h4⟩, r⟩
theorem MemM.block {w' : World} (h : MemM w b n f) (hb : w'.heap[b]? = w.heap[b]?) : MemM w' b n f := by
  obtain ⟨D, ⟨es, clock, h1, h2, h3, h4⟩, r⟩ := h
  exact ⟨D, ⟨es, clock, hb.trans h1, h2, h3, h4⟩, r⟩
end
section
variable {ops : Array Oper} {rest : List Oper} {o : Oper} {a : Act} {Q : Exit → Act → World → Prop} (w : World)
/-- '_, there := m[k]'. -/
theorem wpList_lookM (hg : o.guard = none) (m x : Operand) (t : TypeId) (hop : o.op = Op.lookup t m x true) (ht : t = 47)
    (b n : Nat) (f : Nat → ByteArray → Bool) (hm : a.eval m = .map (some b)) (hown : MemM w b n f) (p : Nat) (s : ByteArray) (hx : a.eval x = kV p s) (hp : p < 18446744073709551616) (hs : s.size ≤ maxLen)
    (hK : wpList Tryd.prog ops Q rest (a.put o.dst (.tuple #[.agg #[], .bool (f p s)])) w) : wpList Tryd.prog ops Q (o :: rest) a w := by
  subst ht
  obtain ⟨D, hD, r⟩ := hown
  obtain ⟨l, hl, _⟩ := keyOf_mk hp hs
  rw [← r p s l hl] at hK
  exact wpList_lookup_own_unit w hg m x _ hop _ _ lawK undK (zeroK w) b n D hm hD (kV p s) l hx hl hK
/-- 'm[k] = struct{}{}'. -/
theorem wpList_putM (hg : o.guard = none) (m x v : Operand) (t : TypeId) (hop : o.op = Op.mapUpdate t m x v) (ht : t = 47)
    (b n : Nat) (f : Nat → ByteArray → Bool) (hm : a.eval m = .map (some b)) (hown : MemM w b n f) (hn : n < maxLen) (p : Nat) (s : ByteArray) (hx : a.eval x = kV p s) (hp : p < 18446744073709551616) (hs : s.size ≤ maxLen) (hv : a.eval v = .agg #[])
    (hK : ∀ w', MemM w' b (n + 1) (fun q u => decide (q = p ∧ u = s) || f q u) → w.grownBy w' (some b) → wpList Tryd.prog ops Q rest (a.put o.dst undef) w') : wpList Tryd.prog ops Q (o :: rest) a w := by
  subst ht
  obtain ⟨D, hD, r⟩ := hown
  obtain ⟨l, hl, hkl⟩ := keyOf_mk hp hs
  refine wpList_mapUpdate_own w hg m x v _ hop _ _ lawK undK (unitElem (H := Unit)) b n D hm hD hn _ _ _ hx hv hl (.agg []) [] unitElem_mk fun w' h1 h2 => hK w' ⟨_, h1, fun q u lq hq => ?_⟩ h2
  by_cases e : q = p ∧ u = s
  · obtain ⟨rfl, rfl⟩ := e
    rw [hl] at hq
    cases hq
    rw [Maps.has_put_same hD.isMap hkl]
    simp
  · have hne : lq ≠ l := fun h => e (kV_inj (lawK.inj (h ▸ hq) hl))
    rw [Maps.has_put_other hne, r q u lq hq]
    show _ = (decide (q = p ∧ u = s) || f q u)
    rw [decide_eq_false e]
    rfl
end
end Go.Proofs.YtecpeegbfeijaaaDoor

namespace Go.Proofs.YtecpeegbfeijaaaDoor
set_option maxRecDepth 100000
open Go.RowKit

section
variable {W : World} {S B b : Nat} {h : List TxnV} {C : Nat} {r : List Nat} {vb vr : Value} {aF sF : Nat → Nat} {w : World}
set_option maxHeartbeats 4000000 in
theorem pasks_any (p : PlIs W S B b h C r vb vr aF sF w) : Calls Tryd.prog 25 #[.pointer (some ⟨S, 0, none⟩)] w fun e w' => e = .returned (.int .i64 (C : Int)) ∧ w = w' := by
  have h1 := p.a.cC
  clear p
  go_enter Tryd.func25, Tryd.ntmps25
  go_wp2_with fail
  go_ret
  exact ⟨rfl, rfl⟩
set_option maxHeartbeats 4000000 in
theorem pplaced_any (p : PlIs W S B b h C r vb vr aF sF w) : Calls Tryd.prog 10 #[.pointer (some ⟨S, 0, none⟩)] w fun e w' => e = .returned (.int .u64 ((plS r : Nat) : Int)) ∧ w = w' := by
  have h1 := p.a.cP
  clear p
  generalize plS r = s at *
  go_enter Tryd.func10, Tryd.ntmps10
  go_wp2_with fail
  go_ret
  exact ⟨rfl, rfl⟩
theorem PlIs.row (p : PlIs W S B b h C r vb vr aF sF w) : Ints w vr (r.reverse.map Int.ofNat) := by
  have h1 := Row.of_owns p.rw
  unfold Ints
  rw [List.map_map]
  have : (Value.int IntKind.i64 ∘ Int.ofNat) = fun i : Nat => Value.int .i64 (i : Int) := rfl
  rw [this, List.length_map, List.length_reverse]
  exact h1
theorem PlIs.form (p : PlIs W S B b h C r vb vr aF sF w) : ∃ ao cap, vr = .slice ao r.length cap := by
  obtain ⟨ao, cap, e, _⟩ := p.row.form
  rw [List.length_map, List.length_reverse] at e
  exact ⟨ao, cap, e⟩
theorem nodup_len : ∀ (n : Nat) (l : List Nat), l.Nodup → (∀ k ∈ l, k < n) → l.length ≤ n
  | 0, [], _, _ => Nat.le_refl _
  | 0, k :: l, _, h => absurd (h k (List.mem_cons_self ..)) (by omega)
  | n + 1, l, hn, h => by
    by_cases hm : n ∈ l
    · have h1 := nodup_len n (l.erase n) (hn.erase n) (fun k hk => by
        have := (hn.mem_erase_iff).1 hk
        have := h k this.2
        omega)
      have h2 := List.length_erase_of_mem hm
      have h3 := List.length_pos_of_mem hm
      omega
    · have := nodup_len n l hn (fun k hk => by
        have := h k hk
        have : k ≠ n := fun e => hm (by rw [← e]; exact hk)
        omega)
      omega
theorem PlIs.len (p : PlIs W S B b h C r vb vr aF sF w) : r.length ≤ h.length := nodup_len _ _ p.nd p.lt
end
theorem joinF_fold (F : Nat → Nat) : ∀ (l : List Nat) (s : Nat), l.foldl (fun s k => s ||| F k) s = s ||| joinL F l
  | [], s => by rw [joinL_nil]; simp
  | k :: l, s => by
    have e : joinL F (k :: l) = F k ||| joinL F l := by
      show l.foldl _ (0 ||| F k) = _
      rw [joinF_fold F l, Nat.zero_or]
    rw [List.foldl_cons, joinF_fold F l, e, Nat.or_assoc]
theorem joinN_step {F : Nat → Nat} {c : Nat} (hne : lst c ≠ []) (a : Nat) : a ||| joinN F c = (a ||| F (fst c)) ||| joinN F (woS c (fst c : Int)) := by
  have e : lst c = fst c :: lst (woS c (fst c : Int)) := by
    have := lst_step (S := c) (c := c) (acc := []) (by simp) hne
    simpa using this
  unfold joinN
  rw [e]
  show a ||| (lst (woS c (fst c : Int))).foldl _ (0 ||| F (fst c)) = _
  rw [joinF_fold, Nat.zero_or, Nat.or_assoc]
set_option maxHeartbeats 8000000 in
theorem joined_any (S o : Nat) (F : Nat → Nat) (s : Nat) (w : World) (hs : IsSet s) (hF : ∀ k, k < 64 → IsSet (F k)) (hcell : ∀ k, k < 64 → w.cell? ⟨S, o + k, none⟩ = some (.int .u64 ((F k : Nat) : Int))) (ht : Tab w) :
    Calls Tryd.prog 54 #[.int .u64 (s : Int), .pointer (some ⟨S, o, none⟩)] w fun e w' => e = .returned (.int .u64 ((joinN F s : Nat) : Int)) ∧ Below w.heap.size w w' := by
  have HT := Lib.hid (fun wx (hx : Below w.heap.size w wx) => ht.below hx ht.pos)
  have HC := Lib.hid (fun wx (hx : Below w.heap.size w wx) k (hk : k < 64) => (hx.cell (p := ⟨S, o + k, none⟩) (block_lt (hcell k hk))).trans (hcell k hk))
  have HF := Lib.hid hF
  have HV : Hid (joinN F s = 0 ||| joinN F s) := Lib.hid (Nat.zero_or _).symm
  clear hcell ht hF
  go_enter Tryd.func54, Tryd.ntmps54
  go_wp2_with fail
  go_loopw [0, 5] (fun v x wr => ∃ c a : Nat, IsSet c ∧ IsSet a ∧ v = .int .u64 (c : Int) ∧ x = .int .u64 (a : Int) ∧ Hid (joinN F s = a ||| joinN F c) ∧ Below w.heap.size w wr)
    (fun v _ _ => (lst (intOf v).toNat).length)
  case atStart => exact ⟨s, 0, hs, by unfold IsSet; omega, rfl, rfl, HV, Below.refl _ _⟩
  case round =>
    clear HV
    obtain ⟨c, a, hc, ha, rfl, rfl, HJ, hb⟩ := hrel
    rcases Nat.eq_zero_or_pos c with h0 | h0
    · subst h0
      have HR : Hid (((a : Nat) : Int) = ((joinN F s : Nat) : Int)) := Lib.hid (by rw [HJ.out]; unfold joinN; rw [lst_zero, joinL_nil, Nat.or_zero])
      go_wp2_with fail
      go_ret
      exact ⟨ret_i HR.out, hb⟩
    · have hne := lst_ne hc h0
      have h0i : ((c : Int) != 0) = true := by rw [bne_iff_ne]; omega
      have hwo := isSet_woS (n := (fst c : Int)) hc
      have hfl : fst c < 64 := fst_lt hne
      have HN : Hid (joinN F s = (a ||| F (fst c)) ||| joinN F (woS c (fst c : Int))) := Lib.hid (by rw [HJ.out, joinN_step hne])
      have HD := Lib.hid (lst_less hne)
      have hff := HF.out _ hfl
      have hor := isSet_or ha hff
      have HOR : Hid (Go.bits .or .u64 (a : Int) ((F (fst c) : Nat) : Int) = ((a ||| F (fst c) : Nat) : Int)) := Lib.hid (Go.bits_or_u64_nat _ _ ha hff)
      have CF := Lib.hid (fun n => (first_any c (wr.drewN n) hc (HT.out _ (below_drewN hb n))).mono fun _ _ h => And.intro h.1 h.2.symm)
      have CF2 := Lib.hid (fun wx (hx : Below w.heap.size w wx) => first_any c wx hc (HT.out _ hx))
      have CW := Lib.hid (fun wx => wo_any c (fst c : Int) wx hc)
      have hcell := HC.out _ hb _ hfl
      generalize woS c (fst c : Int) = c2 at *
      generalize F (fst c) = y at *
      generalize fst c = f at *
      have hfi : (f : Int) < 64 := by omega
      clear hne HJ h0
      go_wp2_with fail
      go_quiet ((go_at_call 52; exact Calls.quiet_of_same (CF.out _)))
      rw [HOR.out]
      have hb2 := below_drewN hb nq
      generalize wr.drewN nq = w2 at *
      go_wp2_with (first
        | (go_at_call 52; refine (CF2.out _ hb2).mono ?_; rintro e w' ⟨rfl, rfl⟩)
        | (go_at_call 47; refine (CW.out _).mono ?_; rintro e w' ⟨rfl, rfl⟩))
      go_roundw
      case rel => exact ⟨c2, a ||| y, hwo, hor, rfl, rfl, HN, hb2⟩
      case measure => simp only [intOf, Int.toNat_natCast]; exact HD.out
end Go.Proofs.YtecpeegbfeijaaaDoor

namespace Go.Proofs.YtecpeegbfeijaaaDoor
set_option maxRecDepth 100000
open Go.RowKit

theorem bit_ne (x k : Nat) (hx : x < 9223372036854775808) (hk : 2 ^ k < 9223372036854775808) {q : Int} (hq : bits .and .i64 (x : Int) ((2 ^ k : Nat) : Int) = q) : x.testBit k = !decide (q = 0) := by
  have := bit_zero x k hx hk
  rw [hq] at this
  cases hb : x.testBit k
  · rw [decide_eq_true (this.2 hb)]; rfl
  · rw [decide_eq_false (fun e => by rw [this.1 e] at hb; cases hb)]; rfl
set_option maxRecDepth 100000 in
set_option maxHeartbeats 16000000 in
theorem pwould_any {W : World} {S B b : Nat} {h : List TxnV} {C : Nat} {r : List Nat} {vb vr : Value} {aF sF : Nat → Nat} {w : World} (p : PlIs W S B b h C r vb vr aF sF w) (hc : checkI h = 0) (hC : C < 9223372036854775808) (i : Nat) (hi : i < h.length) :
    Calls Tryd.prog 28 #[.pointer (some ⟨S, 0, none⟩), .int .i64 i] w fun e w' => e = .returned (.int .u64 ((wld4 (baseN h C i) (plS r) (rivN h i) C sF aF : Nat) : Int)) ∧ Below w.heap.size w w' := by
  obtain ⟨q16, h16⟩ : ∃ q, bits .and .i64 (C : Int) 16 = q := ⟨_, rfl⟩
  obtain ⟨q8, h8⟩ : ∃ q, bits .and .i64 (C : Int) 8 = q := ⟨_, rfl⟩
  obtain ⟨q2, h2⟩ : ∃ q, bits .and .i64 (C : Int) 2 = q := ⟨_, rfl⟩
  obtain ⟨q4, h4⟩ : ∃ q, bits .and .i64 (C : Int) 4 = q := ⟨_, rfl⟩
  have H16 := Lib.hid (bit_ne C 4 hC (by omega) h16)
  have H8 := Lib.hid (bit_ne C 3 hC (by omega) h8)
  have H2 := Lib.hid (bit_ne C 1 hC (by omega) h2)
  have H4 := Lib.hid (bit_ne C 2 hC (by omega) h4)
  have hbs := baseN_set h C i
  have hps := plS_set r
  have hrs := rivN_set h i
  have E1 : Hid (wld1 (baseN h C i) (plS r) C = if q16 = 0 then baseN h C i else baseN h C i ||| plS r) := Lib.hid (by unfold wld1; rw [H16.out]; by_cases e : q16 = 0 <;> simp [e])
  have E2 : Hid (wld2 (baseN h C i) (plS r) (rivN h i) C = if q8 = 0 then wld1 (baseN h C i) (plS r) C else wld1 (baseN h C i) (plS r) C ||| (rivN h i &&& plS r)) := Lib.hid (by unfold wld2; rw [H8.out]; by_cases e : q8 = 0 <;> simp [e])
  have E3 : Hid (wld3 (baseN h C i) (plS r) (rivN h i) C sF = if q2 = 0 then wld2 (baseN h C i) (plS r) (rivN h i) C else wld2 (baseN h C i) (plS r) (rivN h i) C ||| joinN sF (wld2 (baseN h C i) (plS r) (rivN h i) C)) := Lib.hid (by unfold wld3; rw [H2.out]; by_cases e : q2 = 0 <;> simp [e])
  have E4 : Hid (wld4 (baseN h C i) (plS r) (rivN h i) C sF aF = if q4 = 0 then wld3 (baseN h C i) (plS r) (rivN h i) C sF else wld3 (baseN h C i) (plS r) (rivN h i) C sF ||| joinN aF (wld3 (baseN h C i) (plS r) (rivN h i) C sF)) := Lib.hid (by unfold wld4; rw [H4.out]; by_cases e : q4 = 0 <;> simp [e])
  have hsF : ∀ k, k < 64 → IsSet (sF k) := fun k hk => (p.set k hk).2
  have haF : ∀ k, k < 64 → IsSet (aF k) := fun k hk => (p.set k hk).1
  have s1 := wld1_set (C := C) hbs hps
  have s2 := wld2_set (C := C) hbs hps hrs
  have s3 := wld3_set (C := C) hbs hps hrs hsF
  have CJ1 := Lib.hid (fun s wx (hs : IsSet s) (hx : Below w.heap.size w wx) => joined_any S 69 sF s wx hs hsF (fun k hk => (p.below hx).a.cS hk) (p.below hx).tab)
  have CJ2 := Lib.hid (fun s wx (hs : IsSet s) (hx : Below w.heap.size w wx) => joined_any S 5 aF s wx hs haF (fun k hk => (p.below hx).a.cA hk) (p.below hx).tab)
  have CRV := Lib.hid (fun wx (hx : Below w.heap.size w wx) => ordis_rivals (p.below hx).ord hc i)
  have HS := Lib.hid (fun wx (hx : Below w.heap.size w wx) => And.intro (p.below hx).a.cO (And.intro (p.below hx).a.cC (p.below hx).a.cP))
  obtain ⟨gb, ob, cb, hvb, hcb⟩ : ∃ gb ob cb, vb = .slice (some ⟨gb, ob, none⟩) h.length cb ∧ w.cell? ⟨gb, ob + i, none⟩ = some (.int .u64 ((baseN h C i : Nat) : Int)) := by
    obtain ⟨hl, ao, cap, e, hm, hno, hcl⟩ := Row.of_owns p.ba
    obtain ⟨g, off, e2, hcell⟩ := hcl (by omega)
    refine ⟨g, off, cap, by rw [e, e2], ?_⟩
    rw [hcell i (by omega), List.getElem?_map, List.getElem?_range hi]; rfl
  have cB := p.a.cB
  rw [hvb] at cB
  obtain ⟨n0, n1, n2⟩ := HS.out w (Below.refl _ _)
  have hii : (i : Int) < (h.length : Int) := by omega
  have hb0 := Below.refl w.heap.size w
  have hr0 : IsSet (joinN sF (wld2 (baseN h C i) (plS r) (rivN h i) C)) := joinN_set hsF
  have hr1 : IsSet (joinN aF (wld3 (baseN h C i) (plS r) (rivN h i) C sF)) := joinN_set haF
  clear p H16 H8 H2 H4 hsF haF hvb hc hi
  generalize wld4 (baseN h C i) (plS r) (rivN h i) C sF aF = x4 at *
  generalize wld3 (baseN h C i) (plS r) (rivN h i) C sF = x3 at *
  generalize wld2 (baseN h C i) (plS r) (rivN h i) C = x2 at *
  generalize wld1 (baseN h C i) (plS r) C = x1 at *
  generalize baseN h C i = x0 at *
  generalize plS r = pl at *
  generalize rivN h i = rv at *
  have CJ1 := Lib.hid (fun wx (hx : Below w.heap.size w wx) => CJ1.out x2 wx s2 hx)
  have CJ2 := Lib.hid (fun wx (hx : Below w.heap.size w wx) => CJ2.out x3 wx s3 hx)
  generalize joinN sF x2 = j1 at *
  generalize joinN aF x3 = j2 at *
  have O1 := Go.bits_or_u64_nat _ _ hbs hps
  have O2 := Go.bits_and_u64_nat _ _ hrs hps
  have O3 := Go.bits_or_u64_nat _ _ s1 (isSet_and (t := pl) hrs)
  have O4 := Go.bits_or_u64_nat _ _ s2 hr0
  have O5 := Go.bits_or_u64_nat _ _ s3 hr1
  clear hbs hps hrs s1 s2 s3 hr0 hr1
  go_enter Tryd.func28, Tryd.ntmps28
  go_upto_if 18 with fail
  go_cut [5] from 13 to 24 (fun v wx => v = .int .u64 (x1 : Int) ∧ Below w.heap.size w wx)
  case first =>
    by_cases e : q16 = 0
    · have HE : Hid (x0 = x1) := Lib.hid (by rw [E1.out, if_pos e])
      go_wp2_with fail
      go_meet
      exact ⟨by rw [HE.out], hb0⟩
    · have HE : Hid (x0 ||| pl = x1) := Lib.hid (by rw [E1.out, if_neg e])
      have e2 := bne_iff_ne.2 e
      go_wp2_with fail
      go_meet
      exact ⟨by rw [← HE.out], hb0⟩
  obtain ⟨rfl, hb1⟩ := hcut
  generalize wc = w1 at *
  clear hb0 cB hcb n0 n1 n2
  obtain ⟨n0, n1, n2⟩ := HS.out _ hb1
  go_upto_if 30 with fail
  go_cut [5] from 25 to 43 (fun v wx => v = .int .u64 (x2 : Int) ∧ Below w.heap.size w wx)
  case first =>
    by_cases e : q8 = 0
    · have HE : Hid (x1 = x2) := Lib.hid (by rw [E2.out, if_pos e])
      go_wp2_with fail
      go_meet
      exact ⟨by rw [HE.out], hb1⟩
    · have HE : Hid (x1 ||| (rv &&& pl) = x2) := Lib.hid (by rw [E2.out, if_neg e])
      have e2 := bne_iff_ne.2 e
      go_upto_region 5 with fail
      refine wp_region_held_drew (S := Below w.heap.size w) (by kernel_rfl) hb1.drew (fun hS0 => ?_)
      refine takeG (some 31) (i := 0) (v := ?vua0) rfl rfl (by kernel_rfl) (by kernel_rfl) (by kernel_rfl) (fun _ _ _ h => h) (Or.inl ⟨by rfl, ?hua0⟩) hS0 ?rua0
      case hua0 => (intro w hw; obtain ⟨n0, n1, n2⟩ := HS.out _ hw; go_simp; try (with_reducible rfl))
      try simp only [Act.put, List.setIfInBounds_toArray, List.set_cons_zero, List.set_cons_succ]
      refine takeG (some 32) (i := 1) (v := ?vua1) rfl rfl (by kernel_rfl) (by kernel_rfl) (by kernel_rfl) (fun _ _ _ h => h) (Or.inl ⟨by rfl, ?hua1⟩) hS0 ?rua1
      case hua1 => (intro w hw; obtain ⟨n0, n1, n2⟩ := HS.out _ hw; go_simp; try (with_reducible rfl))
      try simp only [Act.put, List.setIfInBounds_toArray, List.set_cons_zero, List.set_cons_succ]
      refine takeG (some 33) (i := 2) (v := ?vua2) rfl rfl (by kernel_rfl) (by kernel_rfl) (by kernel_rfl) (fun _ _ _ h => h) (Or.inl ⟨by rfl, ?hua2⟩) hS0 ?rua2
      case hua2 => (intro w hw; obtain ⟨n0, n1, n2⟩ := HS.out _ hw; go_simp; try (with_reducible rfl))
      try simp only [Act.put, List.setIfInBounds_toArray, List.set_cons_zero, List.set_cons_succ]
      refine takeG (some 34) (i := 3) (v := ?vua3) rfl rfl (by kernel_rfl) (by kernel_rfl) (by kernel_rfl) (fun _ _ _ h => h) (Or.inl ⟨by rfl, ?hua3⟩) hS0 ?rua3
      case hua3 => (intro w hw; obtain ⟨n0, n1, n2⟩ := HS.out _ hw; go_simp; try (with_reducible rfl))
      try simp only [Act.put, List.setIfInBounds_toArray, List.set_cons_zero, List.set_cons_succ]
      refine takeG (some 35) (i := 4) (v := ?vua4) rfl rfl (by kernel_rfl) (by kernel_rfl) (by kernel_rfl) (fun _ _ _ h => h) (Or.inl ⟨by rfl, ?hua4⟩) hS0 ?rua4
      case hua4 => (intro w hw; obtain ⟨n0, n1, n2⟩ := HS.out _ hw; go_simp; try (with_reducible rfl))
      try simp only [Act.put, List.setIfInBounds_toArray, List.set_cons_zero, List.set_cons_succ]
      refine takeG (some 36) (i := 5) (v := ?vua5) rfl rfl (by kernel_rfl) (by kernel_rfl) (by kernel_rfl) (fun _ _ _ h => h) (Or.inl ⟨by rfl, ?hua5⟩) hS0 ?rua5
      case hua5 => (intro w hw; obtain ⟨n0, n1, n2⟩ := HS.out _ hw; go_simp; try (with_reducible rfl))
      try simp only [Act.put, List.setIfInBounds_toArray, List.set_cons_zero, List.set_cons_succ]
      refine takeG (some 38) (i := 7) (v := ?vua7) rfl rfl (by kernel_rfl) (by kernel_rfl) (by kernel_rfl) (fun _ _ _ h => h) (Or.inl ⟨by rfl, ?hua7⟩) hS0 ?rua7
      case hua7 => (intro w hw; obtain ⟨n0, n1, n2⟩ := HS.out _ hw; go_simp; try (with_reducible rfl))
      try simp only [Act.put, List.setIfInBounds_toArray, List.set_cons_zero, List.set_cons_succ]
      refine takeG (some 39) (i := 8) (v := ?vua8) rfl rfl (by kernel_rfl) (by kernel_rfl) (by kernel_rfl) (fun _ _ _ h => h) (Or.inl ⟨by rfl, ?hua8⟩) hS0 ?rua8
      case hua8 => (intro w hw; obtain ⟨n0, n1, n2⟩ := HS.out _ hw; go_simp; try (with_reducible rfl))
      try simp only [Act.put, List.setIfInBounds_toArray, List.set_cons_zero, List.set_cons_succ]
      refine takeG (some 40) (i := 9) (v := ?vua9) rfl rfl (by kernel_rfl) (by kernel_rfl) (by kernel_rfl) (fun _ _ _ h => h) (Or.inl ⟨by rfl, ?hua9⟩) hS0 ?rua9
      case hua9 => (intro w hw; obtain ⟨n0, n1, n2⟩ := HS.out _ hw; go_simp; try (with_reducible rfl))
      try simp only [Act.put, List.setIfInBounds_toArray, List.set_cons_zero, List.set_cons_succ]
      refine takeG (some 41) (i := 10) (v := ?vua10) rfl rfl (by kernel_rfl) (by kernel_rfl) (by kernel_rfl) (fun _ _ _ h => h) (Or.inl ⟨by rfl, ?hua10⟩) hS0 ?rua10
      case hua10 => (intro w hw; obtain ⟨n0, n1, n2⟩ := HS.out _ hw; go_simp; try (with_reducible rfl))
      try simp only [Act.put, List.setIfInBounds_toArray, List.set_cons_zero, List.set_cons_succ]
      refine wpAnyH_ready (rs := [6]) (by kernel_rfl) (by simp) ?_
      refine AllReadyH.cons rfl (fun K hK => ?_) AllReadyH.nil
      go_simp
      refine (CRV.out _ hS0).mono ?_
      rintro e y1 ⟨rfl, j1⟩
      show K _ _
      have s1 := below_then hS0 j1
      refine hK.out _ _ s1 (fun _ => ?_)
      clear hK K
      refine takeG (some 42) (i := 11) (v := ?vua11) rfl rfl (by kernel_rfl) (by kernel_rfl) (by kernel_rfl) (fun _ _ _ h => h) (Or.inl ⟨by rfl, ?hua11⟩) s1 ?rua11
      case hua11 => (intro w hw; obtain ⟨n0, n1, n2⟩ := HS.out _ hw; go_simp; try (with_reducible rfl))
      try simp only [Act.put, List.setIfInBounds_toArray, List.set_cons_zero, List.set_cons_succ]
      refine takeG (some 43) (i := 12) (v := ?vua12) rfl rfl (by kernel_rfl) (by kernel_rfl) (by kernel_rfl) (fun _ _ _ h => h) (Or.inl ⟨by rfl, ?hua12⟩) s1 ?rua12
      case hua12 => (intro w hw; obtain ⟨n0, n1, n2⟩ := HS.out _ hw; go_simp; try (with_reducible rfl))
      try simp only [Act.put, List.setIfInBounds_toArray, List.set_cons_zero, List.set_cons_succ]
      refine takeG (some 5) (i := 13) (v := ?vua13) rfl rfl (by kernel_rfl) (by kernel_rfl) (by kernel_rfl) (fun _ _ _ h => h) (Or.inl ⟨by rfl, ?hua13⟩) s1 ?rua13
      case hua13 => (intro w hw; obtain ⟨n0, n1, n2⟩ := HS.out _ hw; go_simp; try (with_reducible rfl))
      try simp only [Act.put, List.setIfInBounds_toArray, List.set_cons_zero, List.set_cons_succ]
      refine wpAnyH_done (by kernel_rfl) ?_ _
      rw [HE.out]
      go_wp2_with fail
      go_meet
      exact ⟨rfl, s1⟩
  obtain ⟨rfl, hb2⟩ := hcut
  generalize wc = w2 at *
  clear hb1 n0 n1 n2
  obtain ⟨n0, n1, n2⟩ := HS.out _ hb2
  go_upto_if 49 with fail
  go_cut [5] from 44 to 56 (fun v wx => v = .int .u64 (x3 : Int) ∧ Below w.heap.size w wx)
  case first =>
    by_cases e : q2 = 0
    · have HE : Hid (x2 = x3) := Lib.hid (by rw [E3.out, if_pos e])
      go_wp2_with fail
      go_meet
      exact ⟨by rw [HE.out], hb2⟩
    · have HE : Hid (x2 ||| j1 = x3) := Lib.hid (by rw [E3.out, if_neg e])
      have e2 := bne_iff_ne.2 e
      go_wp2_with fail
      refine (CJ1.out _ hb2).mono ?_
      rintro e w3 ⟨rfl, h3⟩
      have hb3 := below_then hb2 h3
      go_wp2_with fail
      go_meet
      exact ⟨by rw [← HE.out], hb3⟩
  obtain ⟨rfl, hb3⟩ := hcut
  generalize wc = w3 at *
  clear hb2 n0 n1 n2
  obtain ⟨n0, n1, n2⟩ := HS.out _ hb3
  go_upto_region 8 with fail
  by_cases e : q4 = 0
  · have HE : Hid ((x3 : Int) = ((x4 : Nat) : Int)) := Lib.hid (by rw [E4.out, if_pos e])
    go_wp2_with fail
    go_ret
    exact ⟨ret_i HE.out, hb3⟩
  · have HE : Hid (((x3 ||| j2 : Nat) : Int) = ((x4 : Nat) : Int)) := Lib.hid (by rw [E4.out, if_neg e])
    have e2 := bne_iff_ne.2 e
    go_wp2_with fail
    refine (CJ2.out _ hb3).mono ?_
    rintro e w4 ⟨rfl, h4⟩
    have hb4 := below_then hb3 h4
    go_wp2_with fail
    go_ret
    exact ⟨ret_i HE.out, hb4⟩
end Go.Proofs.YtecpeegbfeijaaaDoor

namespace Go.Proofs.YtecpeegbfeijaaaDoor
set_option maxRecDepth 100000
open Go.RowKit

theorem row_of_block {w : World} {g n : Nat} {cs : List Value} {t : TypeId} (hn : cs.length = n) (hm : n ≤ maxLen) (h : w.heap[g]? = some (.cells cs.toArray t (0, 0))) : Row w (.slice (some ⟨g, 0, none⟩) n n) n 1 cs := by
  refine ⟨by omega, _, _, rfl, ⟨Nat.le_refl _, hm⟩, fun e => (by cases e), fun _ => ⟨g, 0, rfl, fun i hi => ?_⟩⟩
  rw [cell_of_row _ _ _ _ _ _ h]; simp
set_option maxHeartbeats 4000000 in
theorem prow_at {W : World} {S B b : Nat} {h : List TxnV} {C : Nat} {r : List Nat} {vb vr : Value} {aF sF : Nat → Nat} {w : World} (p : PlIs W S B b h C r vb vr aF sF w) (h64 : h.length ≤ 64) :
    Calls Tryd.prog 13 #[.pointer (some ⟨S, 0, none⟩)] w fun e w' => ∃ v, e = .returned v ∧ v = .slice (some ⟨w.heap.size, 0, none⟩) r.length r.length ∧ Ints w' v (r.reverse.map Int.ofNat) ∧ Below w.heap.size w w' := by
  obtain ⟨i0, hi0, hz0, hz1, hz2⟩ := info_parts infoInt
  have hlen := p.len
  have hrow := p.row
  have hll : (r.reverse.map Int.ofNat).length = r.length := by simp
  obtain ⟨ao, cap, rfl⟩ := p.form
  have HS := Lib.hid (fun wx (hx : Below w.heap.size w wx) => And.intro (p.below hx).a.cR (p.below hx).row)
  have c3 := p.a.cR
  clear p hrow
  generalize r.reverse.map Int.ofNat = L at *
  generalize r.length = n at *
  have hcl : (L.map (Value.int .i64)).length = n := by simp [hll]
  have hb0 := box_below w (.cells (madeCells #[.int .i64 0] n) 3)
  have hnew := heap_alloc_new w (.cells (madeCells #[.int .i64 0] n) 3)
  have hml : (madeCells #[Value.int .i64 0] n).toList.length = n := by simp [madeCells]
  have hg0 : (w.alloc (.cells (madeCells #[.int .i64 0] n) 3)).heap[w.heap.size]? = some (.cells (madeCells #[.int .i64 0] n).toList.toArray 3 (0, 0)) := by rw [Array.toArray_toList]; exact hnew
  go_enter Tryd.func13, Tryd.ntmps13
  go_upto_region 2 with (at_make; refine wpList_make_row _ rfl _ _ 26 rfl 3 i0 (.int .i64 0) Tryd.underlying26 hi0 hz0 hz1 rfl .i64 .i64 n rfl rfl ?b2 ?b3 ?_)
  case b2 => rw [hz2]; omega
  case b3 => omega
  obtain ⟨d3, hrow⟩ := HS.out _ hb0
  clear hnew c3
  generalize w.alloc (.cells (madeCells #[.int .i64 0] n) 3) = w1 at *
  generalize (madeCells #[Value.int .i64 0] n).toList = Z at *
  obtain ⟨_, ao', cap', he, hm, hno, hc⟩ := hrow
  obtain ⟨e1, e2, e3⟩ : ao = ao' ∧ n = L.length ∧ cap = cap' := by simpa using he
  subst e1 e3
  have hpos : 0 < (L.map (Value.int .i64)).length → (some (⟨w.heap.size, 0, none⟩ : Addr) = some ⟨w.heap.size, 0, none⟩) ∧ ∃ ad, ao = some ad ∧ ∀ j v, (L.map (Value.int .i64))[j]? = some v → w1.cell? (ad.add j) = some v := fun hp => by
    obtain ⟨b, off, rfl, hcell⟩ := hc (by omega)
    refine ⟨rfl, _, rfl, fun j v hv => ?_⟩
    have hj := (List.getElem?_eq_some_iff.1 hv).1
    rw [Addr.add_lit, hcell j (by omega), hv]
  have h1c : ∀ v ∈ L.map (Value.int .i64), v.oneCell' = true := fun v hv => by obtain ⟨x, _, rfl⟩ := List.mem_map.1 hv; rfl
  obtain ⟨X, hX⟩ : ∃ X, X = L.map (Value.int .i64) := ⟨_, rfl⟩
  rw [← hX] at hcl hpos h1c
  have HX := Lib.hid hX
  have E2 := Lib.hid e2
  have HP := Lib.hid hpos
  have HC1 := Lib.hid h1c
  have HCL := Lib.hid hcl
  clear hpos h1c hcl
  clear hX hc hno he e2 hll
  obtain ⟨w2, hrun, HG, hb2⟩ : ∃ w2, Sem.run Tryd.prog (Builtin.copy_ #[26, 26] 3 #[.slice (some ⟨w.heap.size, 0, none⟩) n n, .slice ao n cap]) w1 = .ok (.int .i64 (n : Int)) w2 ∧ Hid (w2.heap[w.heap.size]? = some (.cells X.toArray 3 (0, 0))) ∧ Below w.heap.size w w2 := by
    have hsz1 : (Tryd.prog.info? 3).map (·.size) = some 1 := by rw [hi0]; simp [hz1]
    rcases Nat.eq_zero_or_pos n with h0 | h0
    · have hX0 : X = [] := List.eq_nil_of_length_eq_zero (by rw [HCL.out]; exact h0)
      have hZ0 : Z = [] := List.eq_nil_of_length_eq_zero (by rw [hml]; exact h0)
      refine ⟨w1, ?_, Lib.hid (by rw [hX0, ← hZ0]; exact hg0), hb0⟩
      have := run_copy_none (P := Tryd.prog) w1 26 26 3 3 (some ⟨w.heap.size, 0, none⟩) ao n n n cap Tryd.underlying26 hsz1 (by rw [h0]; rfl)
      rw [this, h0]; rfl
    · obtain ⟨_, ad, rfl, hsrc⟩ := HP.out (by rw [HCL.out]; exact h0)
      have := run_copy_row (P := Tryd.prog) w1 26 26 3 3 w.heap.size 0 n n ad n cap Z.toArray 3 X Tryd.underlying26 hsz1 hg0 (by rw [HCL.out]; simp) hsrc (by rw [HCL.out]; simp [hml]) HC1.out
      refine ⟨_, by rw [this, HCL.out]; rfl, Lib.hid ?_, below_setRow hb0 (Nat.le_refl _) _⟩
      have h3 := setRow_heap w1 w.heap.size Z.toArray (List.take 0 Z.toArray.toList ++ X ++ List.drop (0 + n) Z.toArray.toList).toArray 3 _ hg0
      rw [h3]
      have : List.take 0 Z.toArray.toList ++ X ++ List.drop (0 + n) Z.toArray.toList = X := by simp [hml]
      rw [this]
  have HR : Hid (Ints w2 (.slice (some ⟨w.heap.size, 0, none⟩) n n) L) := Lib.hid (by
    have h1 := row_of_block HCL.out (by unfold maxLen; omega) HG.out
    unfold Ints
    rw [HX.out] at h1
    rw [← E2.out]; exact h1)
  clear HG hg0
  go_wp2_with fail
  go_ret
  exact ⟨_, rfl, rfl, HR.out, hb2⟩
theorem prow_any {W : World} {S B b : Nat} {h : List TxnV} {C : Nat} {r : List Nat} {vb vr : Value} {aF sF : Nat → Nat} {w : World} (p : PlIs W S B b h C r vb vr aF sF w) (h64 : h.length ≤ 64) :
    Calls Tryd.prog 13 #[.pointer (some ⟨S, 0, none⟩)] w fun e w' => ∃ v, e = .returned v ∧ Ints w' v (r.reverse.map Int.ofNat) ∧ Below w.heap.size w w' :=
  (prow_at p h64).mono fun _ _ ⟨v, h1, _, h2, h3⟩ => ⟨v, h1, h2, h3⟩
end Go.Proofs.YtecpeegbfeijaaaDoor
