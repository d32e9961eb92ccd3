/- Walks and plain facts that the proof of the statement CatalogueParts uses, joined: Law LevA LevB TabK LevC LevE TblA Slc VecA SetM SetN RelM SetA SetB SetC SetD SetE SetF OpZ SetG RelA RelC RelB RelD RelE LeaA MapI TxnM TxnA TxnB TxnD TxnE TxnF TxnG TxnH AppS OrdA TxZ TxnL HisA HisB HisC HisD HisE OrdB OrdC OrdG OrdH RelF OrdD OrdE OrdI HisF HisG OrdJ OrdF OrdK OrdM RelP RelG RelH RelI RelN RelJ RelK RelL RelO SetH SetI RelQ OrdO OrdAH RelR LeaC OrdY HisH HisI HisJ. Conditions: each theorem's own. -/
import Derived.Test.YtmcicfdnmfbimaaDoorRows
import Derived.Test.YtmcicfdnmfbimaaDoorProg
import Derived.Test.YtmcicfdnmfbimaaDoorShelfS
import Derived.WalkKit
import Derived.ProofKit
import Derived.OpenShut
import Derived.Deep.DeepHandedRow
import Derived.Lib.LaidTab
import Derived.Laws.Bits128
import Derived.WalkSpells
import Derived.WalkLawsBesides
import Derived.Lib.Hide
import Derived.ChangeSame
import Derived.Laws.Tables
import Derived.Laws.CopyOwn
import Derived.Deep.QuietTactic
import Derived.BigQuiet
import Derived.WalkSmall
import Derived.Laws.AppendOwnNone
import Derived.Laws.Bits64b
import Derived.Laws.Wrap64
import Derived.StillTailTactics
import Derived.Maps.RangeWalk
import Derived.Laws.StructEq
import Derived.OwnWalk
import Derived.Deep.AppendLies
import Derived.Deep.MidRow
import Derived.Deep.RegionHeld3
import Derived.Deep.RegionWith
import Derived.Deep.RegionHeld
import Derived.Deep.CutRange
namespace Go.Proofs.YtmcicfdnmfbimaaDoor
set_option maxHeartbeats 32000000
set_option maxRecDepth 100000
open Lib (hid)
section
open Go.ChangeShapes Go.WideShapes Go.ChangeAt Go.RowKit
theorem own : ownKnob Tryd.prog.godebug = none := by kernel_rfl
theorem laidOut : laidOutB Tryd.prog = true := by kernel_rfl
theorem trodAll_stays {H : Type} {enc : TypeId × Value → H} {W W' : World} (hb : Below W.heap.size W W') :
  ∀ (ts : List TypeId) (vs : List Value) (ds : List (DataW H)) (ps : List MemPlace), (∀ t ∈ ts, Tryd.prog.readableRec t = true ∧ t < Tryd.prog.types.size) →
   DataW.TrodAll enc Tryd.prog W 0 (fun _ => true) true ts vs ds ps → (∀ x ∈ ps, x.block < W.heap.size) →
   DataW.TrodAll enc Tryd.prog W' 0 (fun b => decide (b < W.heap.size)) true ts vs ds ps
 | [], vs, ds, ps, _, h, _ => by
  obtain ⟨rfl, rfl, rfl⟩ := trodAll_nil h
  exact trodAll_mk0
 | t :: ts, vs, ds, ps, hr, h, hlt => by
  obtain ⟨v, vs', d, ds', p, q, rfl, rfl, rfl, hd, hrest⟩ := trodAll_cons h
  have h1 := hr t List.mem_cons_self
  exact trodAll_cons_mk (Below.trod laidOut h1.1 h1.2 hd hb fun x hx => hlt x (List.mem_append_left _ hx))
   (trodAll_stays hb ts vs' ds' q (fun u hu => hr u (List.mem_cons_of_mem _ hu)) hrest fun x hx => hlt x (List.mem_append_right _ hx))
theorem law_post {H : Type} {enc : TypeId × Value → H} {s : ChangeSpec} {f : Func} {W W' : World} {args : Array Value} {ds gs : List (DataW H)} {before : List MemPlace}
  (hW : DataW.Whole enc Tryd.prog f.params.toList s.vars false W args.toList ds gs before) (hv : s.vars = [])
  (hr : ∀ t ∈ f.params.toList, Tryd.prog.readableRec t = true ∧ t < Tryd.prog.types.size) (hb : Below W.heap.size W W')
  (hres : f.resultTypes = #[4]) (hfn : (s.fn H (ds ++ [])).results = [.lit (.bool true)]) (hfa : (s.fn H (ds ++ [])).args = ds) (hfv : (s.fn H (ds ++ [])).vars = []) :
  s.post enc Tryd.prog f false true false false W args (.bool true) W' := by
 have hW' := hW
 obtain ⟨p, q, hA, hV, hpq, hfz, hnd⟩ := hW
 rw [hv] at hV
 obtain ⟨rfl, rfl⟩ := trodVars_none hV
 have hlt : ∀ x ∈ p, x.block < W.heap.size := fun x hx => by
  have := hW'.lt x (by rw [hpq]; exact List.mem_append_left _ hx)
  simpa using this
 refine ⟨ds, [], before, [], p, [], hW', ?_, ?_, ?_, hb.frame _, fun h => by cases h⟩
 ·rw [hfn, hres]
  exact trodAll_cons_mk (shut_bool Tryd.underlying4 _) trodAll_mk0
 ·rw [hfa]
  exact trodAll_stays hb _ _ _ _ hr hA hlt
 ·rw [hfv, hv]; exact rfl
end

section
open Go.RowKit
def askL : List Nat := [0, 1, 3, 9, 5, 11, 13, 17, 34, 36, 44, 48]
def nameL : List (List UInt8) := [[114, 101, 97, 100, 45, 97, 116, 111, 109, 105, 99], [115, 101, 115, 115, 105, 111, 110, 45, 97, 116, 111, 109, 105, 99], [99, 97, 117, 115, 97, 108], [117, 112, 100, 97, 116, 101], [112, 114, 101, 102, 105, 120], [112, 97, 114, 97, 108, 108, 101, 108], [115, 110, 97, 112, 115, 104, 111, 116], [115, 101, 114, 105, 97, 108], [116, 105, 109, 101, 45, 99, 97, 117, 115, 97, 108], [116, 105, 109, 101, 45, 112, 114, 101, 102, 105, 120], [116, 105, 109, 101, 45, 115, 110, 97, 112, 115, 104, 111, 116], [115, 116, 114, 105, 99, 116]]
def isLv (l : Int) : Bool := decide (0 ≤ l ∧ l < 12)
def askAt (k : Nat) : Nat := askL.getD k 0
def nameAt (k : Nat) : ByteArray := ⟨(nameL.getD k []).toArray⟩
def askN (l : Int) : Nat := if isLv l then askAt l.toNat else 0
def clN (k : Nat) : Nat :=
 let a := if k.testBit 4 then k ||| 12 else k
 let b := if a.testBit 2 then a ||| 2 else a
 if b.testBit 5 then b ||| 1 else b
def clI (x : Int) : Nat := clN (x % 64).toNat
theorem askAt_lt : ∀ k : Fin 12, askAt k.val < 64 := by decide
theorem askN_lt (l : Int) : askN l < 64 := by
 unfold askN isLv
 split
 ·rename_i h
  simp only [decide_eq_true_eq] at h
  exact askAt_lt ⟨l.toNat, by omega⟩
 ·omega
theorem clN_lt : ∀ k : Fin 64, clN k.val < 64 := by decide +kernel
theorem clI_lt (x : Int) : clI x < 64 := clN_lt ⟨(x % 64).toNat, by omega⟩
theorem and63 (n : Int) : bits .and .i64 n 63 = n % 64 := by
 have h1 : (BitVec.ofInt 64 63) = 63#64 := by decide
 show IntKind.i64.wrap ((BitVec.ofInt 64 n &&& BitVec.ofInt 64 63).toNat : Int) = _
 have h2 : (BitVec.ofInt 64 n &&& BitVec.ofInt 64 63).toNat = (BitVec.ofInt 64 n).toNat % 64 := by
  rw [BitVec.toNat_and, h1]
  exact Nat.and_two_pow_sub_one_eq_mod _ 6
 rw [h2, BitVec.toNat_ofInt, IntKind.wrap_i64]
 omega
theorem i64_and_nat (a b : Nat) (ha : a < 9223372036854775808) (hb : b < 9223372036854775808) : bits .and .i64 (a : Int) (b : Int) = ((a &&& b : Nat) : Int) := by
 have hx : a &&& b ≤ a := Nat.and_le_left
 have h1 : (BitVec.ofInt 64 (a : Int)).toNat = a := by
  rw [BitVec.ofInt_natCast, BitVec.toNat_ofNat]; exact Nat.mod_eq_of_lt (by omega)
 have h2 : (BitVec.ofInt 64 (b : Int)).toNat = b := by
  rw [BitVec.ofInt_natCast, BitVec.toNat_ofNat]; exact Nat.mod_eq_of_lt (by omega)
 show IntKind.i64.wrap ((BitVec.ofInt 64 (a : Int) &&& BitVec.ofInt 64 (b : Int)).toNat : Int) = _
 rw [BitVec.toNat_and, h1, h2, IntKind.wrap_i64]
 omega
theorem i64_or_nat (a b : Nat) (ha : a < 2 ^ 63) (hb : b < 2 ^ 63) : bits .or .i64 (a : Int) (b : Int) = ((a ||| b : Nat) : Int) := by
 have hx : a ||| b < 2 ^ 63 := Nat.or_lt_two_pow ha hb
 have h1 : (BitVec.ofInt 64 (a : Int)).toNat = a := by
  rw [BitVec.ofInt_natCast, BitVec.toNat_ofNat]; exact Nat.mod_eq_of_lt (by omega)
 have h2 : (BitVec.ofInt 64 (b : Int)).toNat = b := by
  rw [BitVec.ofInt_natCast, BitVec.toNat_ofNat]; exact Nat.mod_eq_of_lt (by omega)
 show IntKind.i64.wrap ((BitVec.ofInt 64 (a : Int) ||| BitVec.ofInt 64 (b : Int)).toNat : Int) = _
 rw [BitVec.toNat_or, h1, h2, IntKind.wrap_i64]
 omega
theorem i64_andNot_nat (a b : Nat) (ha : a < 2 ^ 63) (hb : b < 2 ^ 63) : bits .andNot .i64 (a : Int) (b : Int) = ((a ^^^ (a &&& b) : Nat) : Int) := by
 have hx : a ^^^ (a &&& b) < 2 ^ 63 := Nat.xor_lt_two_pow ha (Nat.lt_of_le_of_lt Nat.and_le_left ha)
 have h1 : (BitVec.ofInt 64 (a : Int)).toNat = a := by
  rw [BitVec.ofInt_natCast, BitVec.toNat_ofNat]; exact Nat.mod_eq_of_lt (by omega)
 have h2 : (BitVec.ofInt 64 (b : Int)).toNat = b := by
  rw [BitVec.ofInt_natCast, BitVec.toNat_ofNat]; exact Nat.mod_eq_of_lt (by omega)
 show IntKind.i64.wrap ((BitVec.ofInt 64 (a : Int) &&& ~~~ (BitVec.ofInt 64 (b : Int))).toNat : Int) = _
 have e : ∀ x y : BitVec 64, x &&& ~~~ y = x ^^^ (x &&& y) := by
  intro x y; ext i hi; simp; cases x[i] <;> cases y[i] <;> rfl
 rw [e, BitVec.toNat_xor, BitVec.toNat_and, h1, h2, IntKind.wrap_i64]
 omega
end

section
open Go.RowKit
def Kinds (w : World) : Prop := ∀ k, k < 12 → w.cell? ⟨0, k * 2, none⟩ = some (.string (nameAt k)) ∧ w.cell? ⟨0, k * 2 + 1, none⟩ = some (.int .i64 (askAt k))
theorem lret_b {a b : Bool} (h : a = b) : Ending.returned (.bool a) = .returned (.bool b) := by rw [h]
theorem lret_i {k : IntKind} {a b : Int} (h : a = b) : Ending.returned (.int k a) = .returned (.int k b) := by rw [h]
theorem lis_any (l : Int) (w : World) : Calls Tryd.prog 31 #[.int .i64 l] w fun e w' => e = .returned (.bool (isLv l)) ∧ w = w' := by
 have H : Hid ((decide (0 ≤ l) && decide (l < 12)) = isLv l) := hid (by unfold isLv; simp)
 by_cases h0 : 0 ≤ l
 ·have H1 : Hid (decide (l < 12) = isLv l) := hid (by rw [← H.out]; simp [h0])
  go_enter Tryd.func31, Tryd.ntmps31
  go_wp2
  go_ret
  exact ⟨lret_b H1.out, rfl⟩
 ·have H1 : Hid (false = isLv l) := hid (by rw [← H.out]; simp [h0])
  go_enter Tryd.func31, Tryd.ntmps31
  go_wp2
  go_ret
  exact ⟨lret_b H1.out, rfl⟩
theorem lis_yes {l : Int} (h : isLv l = true) (w : World) : Calls Tryd.prog 31 #[.int .i64 l] w fun e w' => e = .returned (.bool true) ∧ w = w' := by
 have := lis_any l w; rwa [h] at this
theorem lis_no {l : Int} (h : isLv l = false) (w : World) : Calls Tryd.prog 31 #[.int .i64 l] w fun e w' => e = .returned (.bool false) ∧ w = w' := by
 have := lis_any l w; rwa [h] at this
theorem lasks_any (l : Int) (w : World) (hK : Kinds w) : Calls Tryd.prog 46 #[.int .i64 l] w fun e w' => e = .returned (.int .i64 (askN l)) ∧ w = w' := by
 cases h : isLv l
 ·have C := hid (fun wx => lis_no h wx)
  have H : Hid (((askN l : Nat) : Int) = 0) := hid (by unfold askN; rw [h]; rfl)
  clear h hK
  rw [H.out]
  go_enter Tryd.func46, Tryd.ntmps46
  go_wp2_with (go_at_call 31; refine (C.out _).mono ?_; rintro e w' ⟨rfl, rfl⟩)
  go_ret
  exact ⟨rfl, rfl⟩
 ·have C := hid (fun wx => lis_yes h wx)
  have hl : 0 ≤ l ∧ l < 12 := by simpa [isLv] using h
  obtain ⟨k, rfl⟩ := Int.eq_ofNat_of_zero_le hl.1
  have hk : k < 12 := by omega
  have hki : (k : Int) < 12 := by omega
  have H : Hid (askN (k : Int) = askAt k) := hid (by unfold askN; rw [h]; rfl)
  have hc := (hK k hk).2
  clear h hK hl
  rw [H.out]
  generalize askAt k = a at *
  go_enter Tryd.func46, Tryd.ntmps46
  go_wp2_with (go_at_call 31; refine (C.out _).mono ?_; rintro e w' ⟨rfl, rfl⟩)
  go_ret
  exact ⟨rfl, rfl⟩
theorem cl_bits : ∀ k : Fin 64, (k.val &&& 16 = if k.val.testBit 4 then 16 else 0) ∧ (k.val &&& 4 = if k.val.testBit 2 then 4 else 0) ∧ (k.val &&& 32 = if k.val.testBit 5 then 32 else 0) ∧ (k.val ||| 12 < 64) ∧ (k.val ||| 2 < 64) ∧ (k.val ||| 1 < 64) := by decide +kernel
theorem cl_i64 (k : Nat) (hk : k < 64) : bits .and .i64 (k : Int) 16 = (if k.testBit 4 then 16 else 0) ∧ bits .and .i64 (k : Int) 4 = (if k.testBit 2 then 4 else 0) ∧ bits .and .i64 (k : Int) 32 = (if k.testBit 5 then 32 else 0) ∧
  bits .or .i64 (k : Int) 12 = ((k ||| 12 : Nat) : Int) ∧ bits .or .i64 (k : Int) 2 = ((k ||| 2 : Nat) : Int) ∧ bits .or .i64 (k : Int) 1 = ((k ||| 1 : Nat) : Int) ∧ (k ||| 12 < 64) ∧ (k ||| 2 < 64) := by
 obtain ⟨h1, h2, h3, h4, h5, h6⟩ := cl_bits ⟨k, hk⟩
 simp only at h1 h2 h3 h4 h5 h6
 refine ⟨?_, ?_, ?_, ?_, ?_, ?_, h4, h5⟩
 ·rw [show (16 : Int) = ((16 : Nat) : Int) from rfl, i64_and_nat k 16 (by omega) (by omega), h1]; split <;> rfl
 ·rw [show (4 : Int) = ((4 : Nat) : Int) from rfl, i64_and_nat k 4 (by omega) (by omega), h2]; split <;> rfl
 ·rw [show (32 : Int) = ((32 : Nat) : Int) from rfl, i64_and_nat k 32 (by omega) (by omega), h3]; split <;> rfl
 ·exact i64_or_nat k 12 (by omega) (by omega)
 ·exact i64_or_nat k 2 (by omega) (by omega)
 ·exact i64_or_nat k 1 (by omega) (by omega)
theorem cl_parts (x : Int) : ∃ k a b : Nat, bits .and .i64 x 63 = (k : Int) ∧
  ((bits .and .i64 (k : Int) 16 = 16 ∧ bits .or .i64 (k : Int) 12 = (a : Int)) ∨ (bits .and .i64 (k : Int) 16 = 0 ∧ a = k)) ∧
  ((bits .and .i64 (a : Int) 4 = 4 ∧ bits .or .i64 (a : Int) 2 = (b : Int)) ∨ (bits .and .i64 (a : Int) 4 = 0 ∧ b = a)) ∧
  ((bits .and .i64 (b : Int) 32 = 32 ∧ bits .or .i64 (b : Int) 1 = ((clI x : Nat) : Int)) ∨ (bits .and .i64 (b : Int) 32 = 0 ∧ clI x = b)) := by
 obtain ⟨k, hkx, hk⟩ : ∃ k : Nat, x % 64 = (k : Int) ∧ k < 64 := ⟨(x % 64).toNat, by omega, by omega⟩
 obtain ⟨k1, _, _, k4, _, _, ha, _⟩ := cl_i64 k hk
 obtain ⟨a, hA⟩ : ∃ a : Nat, a = if k.testBit 4 then k ||| 12 else k := ⟨_, rfl⟩
 have hal : a < 64 := by rw [hA]; split <;> omega
 obtain ⟨_, a2, _, _, a5, _, _, hb⟩ := cl_i64 a hal
 obtain ⟨b, hB⟩ : ∃ b : Nat, b = if a.testBit 2 then a ||| 2 else a := ⟨_, rfl⟩
 have hbl : b < 64 := by rw [hB]; split <;> omega
 obtain ⟨_, _, b3, _, _, b6, _, _⟩ := cl_i64 b hbl
 have hC : clI x = if b.testBit 5 then b ||| 1 else b := by unfold clI; rw [hkx, Int.toNat_natCast]; unfold clN; simp only; rw [← hA, ← hB]
 refine ⟨k, a, b, by rw [and63, hkx], ?_, ?_, ?_⟩
 ·cases t : k.testBit 4
  ·exact .inr ⟨by rw [k1, t]; rfl, by rw [hA, t]; rfl⟩
  ·exact .inl ⟨by rw [k1, t]; rfl, by rw [k4, hA, t]; rfl⟩
 ·cases t : a.testBit 2
  ·exact .inr ⟨by rw [a2, t]; rfl, by rw [hB, t]; rfl⟩
  ·exact .inl ⟨by rw [a2, t]; rfl, by rw [a5, hB, t]; rfl⟩
 ·cases t : b.testBit 5
  ·exact .inr ⟨by rw [b3, t]; rfl, by rw [hC, t]; rfl⟩
  ·exact .inl ⟨by rw [b3, t]; rfl, by rw [b6, hC, t]; rfl⟩
theorem lclosed_any (x : Int) (w : World) : Calls Tryd.prog 47 #[.int .i64 x] w fun e w' => e = .returned (.int .i64 (clI x)) ∧ w = w' := by
 obtain ⟨k, a, b, e0, h1, h2, h3⟩ := cl_parts x
 generalize clI x = c at *
 rcases h1 with ⟨e1, e2⟩ | ⟨e1, rfl⟩ <;> rcases h2 with ⟨e3, e4⟩ | ⟨e3, rfl⟩ <;> rcases h3 with ⟨e5, e6⟩ | ⟨e5, rfl⟩
 all_goals
  go_enter Tryd.func47, Tryd.ntmps47
  go_wp2
  go_ret
  exact ⟨rfl, rfl⟩
end

section
open Go.ChangeShapes Go.WideShapes Go.ChangeAt Go.RowKit
theorem gKinds : Tryd.prog.globalNamed "burgage/level.kinds" = some 0 := by kernel_rfl
theorem gKindsType : (Tryd.prog.globals[0]?).map (·.type) = some 86 := by kernel_rfl
theorem cellsKind : Tryd.prog.cellsOf 85 = 2 := by kernel_rfl
theorem cellsStr : Tryd.prog.cellsOf 9 = 1 := by kernel_rfl
theorem cellsInt : Tryd.prog.cellsOf 3 = 1 := by kernel_rfl
theorem laidKinds {H : Type} : (Rows.laid_burgage_level_kinds : DataW H) = .agg ((List.range 12).map fun k => .agg [.lit (.string (nameL.getD k [])), .lit (.int .i64 (askAt k))]) := rfl
theorem kinds_of {W : World} (h : laidMetH Tryd.prog [("burgage/level.kinds", Rows.laid_burgage_level_kinds)] W) : Kinds W := by
 obtain ⟨ps, ⟨g', t', cs, fuel, p, q, hg', ht', hvar, hd, _, _⟩, _⟩ := h
 obtain rfl := Option.some.inj (gKinds.symm.trans hg')
 obtain rfl := Option.some.inj (gKindsType.symm.trans ht')
 obtain ⟨xs, m, rfl, hx, hlen, hxl, hat⟩ := DataW.trod_array Tryd.underlying86 hd
 intro k hk
 have h1 := hat k hk
 have hxk : xs[k]? = some xs[k] := List.getElem?_eq_getElem (by omega)
 rw [hxk, cellsKind] at h1
 obtain ⟨y0, y1, n, hy, hcl, h2, h3⟩ := trod_struct2 Tryd.underlying85 h1
 have hdat := congrArg Prod.fst hx
 rw [laidKinds] at hdat
 simp only [DataW.agg.injEq] at hdat
 have hk2 := congrArg (·[k]?) hdat
 simp only [List.getElem?_map, hxk, Option.map_some, List.getElem?_range hk, hy, Option.some.injEq, DataW.agg.injEq, List.cons.injEq, and_true] at hk2
 obtain ⟨e0, e1⟩ := hk2
 rw [cellsStr] at h2
 rw [cellsInt] at h3
 obtain ⟨s, c0, rfl, _⟩ := DataW.trod_string Tryd.underlying9 h2
 obtain ⟨z, c1, rfl, _⟩ := DataW.trod_int Tryd.underlying3 h3
 simp only [DataW.lit.injEq, Lit.string.injEq, Lit.int.injEq, true_and] at e0 e1
 have hs : s = nameAt k := by unfold nameAt; rw [e0]
 subst hs
 subst e1
 constructor
 ·rw [World.var?_cell gKinds hvar]
  have := congrArg (·[0]?) c0
  simpa [List.getElem?_take, List.getElem?_drop] using this
 ·rw [World.var?_cell gKinds hvar]
  have := congrArg (·[0]?) c1
  simpa [List.getElem?_take, List.getElem?_drop] using this
def leafS : DataW Unit → List Value
 | .lit (.int k n) => [.int k n]
 | .lit (.bool b) => [.bool b]
 | .lit (.string l) => [.string ⟨l.toArray⟩]
 | _ => []
def leafSS : DataW Unit → List Value
 | .agg ds => ds.flatMap fun d => match d with
  | .agg es => es.flatMap leafS
  | d => leafS d
 | d => leafS d
def setS (h : Array Obj) (g : Nat) (d : DataW Unit) : Array Obj := h.modify g fun
 | .cells _ t frozen => .cells (leafSS d).toArray t frozen
 | o => o
noncomputable def laidWorldK (os : Os) : World :=
 { World.holding Tryd.prog os ⟨#[], #[], []⟩ with heap := setS (World.holding Tryd.prog os ⟨#[], #[], []⟩).heap 0 Rows.laid_burgage_level_kinds }
end

section
open Go.RowKit
def hasT (k t : Nat) : Bool := decide (k / t % 2 = 1)
theorem rl_has (k t : Nat) (hk : k < 64) (ht : 0 < t) (ht2 : t ≤ 32) (w : World) : Calls Tryd.prog 20 #[.int .i64 k, .int .i64 t] w fun e w' => e = .returned (.bool (hasT k t)) ∧ w = w' := by
 have h0 : ((t : Int) == 0) = false := by rw [beq_eq_false_iff_ne]; omega
 have hd : ((k : Int).tdiv (t : Int)) = ((k / t : Nat) : Int) := by rw [Int.tdiv_eq_ediv_of_nonneg (Int.natCast_nonneg k)]; rfl
 have hq : k / t < 64 := Nat.lt_of_le_of_lt (Nat.div_le_self _ _) hk
 have hm : (((k / t : Nat) : Int).tmod 2) = ((k / t % 2 : Nat) : Int) := by rw [Int.tmod_eq_emod_of_nonneg (Int.natCast_nonneg _)]; rfl
 have H : Hid ((((k / t % 2 : Nat) : Int) == 1) = hasT k t) := hid (by unfold hasT; rw [Bool.eq_iff_iff, beq_iff_eq, decide_eq_true_eq]; omega)
 have hm2 : k / t % 2 < 2 := Nat.mod_lt _ (by omega)
 rw [← H.out]
 generalize k / t = q at *
 generalize q % 2 = r at *
 go_enter Tryd.func20, Tryd.ntmps20
 go_wp2
 go_ret
 exact ⟨rfl, rfl⟩
theorem rl_asks (l : Int) (w : World) : Calls Tryd.prog 21 #[.int .i64 l] w fun e w' => e = .returned (.int .i64 (askN l)) ∧ w = w' := by
 by_cases h : 0 ≤ l ∧ l < 12
 ·obtain ⟨k, rfl⟩ := Int.eq_ofNat_of_zero_le h.1
  have hk : k < 12 := by omega
  clear h
  match k, hk with
  | 0, _ | 1, _ | 2, _ | 3, _ | 4, _ | 5, _ | 6, _ | 7, _ | 8, _ | 9, _ | 10, _ | 11, _ =>
   go_enter Tryd.func21, Tryd.ntmps21
   go_wp2
   go_ret
   exact ⟨rfl, rfl⟩
  | k + 12, hk => exact absurd hk (by omega)
 ·have H : Hid (((askN l : Nat) : Int) = 0) := hid (by unfold askN isLv; rw [if_neg (by simpa using h)]; rfl)
  rw [H.out]
  by_cases h0 : l < 0
  all_goals
   go_enter Tryd.func21, Tryd.ntmps21
   go_wp2
   go_ret
   exact ⟨rfl, rfl⟩
end

section
open Go.RowKit
theorem block_lt' {w : World} {a : Addr} {v : Value} (h : w.cell? a = some v) : a.block < w.heap.size := by
 by_cases h0 : a.block < w.heap.size
 ·exact h0
 ·simp [World.cell?, Array.getElem?_eq_none (Nat.le_of_not_lt h0)] at h
theorem Kinds.below {w w' : World} (h : Kinds w) (hb : Below w.heap.size w w') : Kinds w' := fun k hk => by
 obtain ⟨h1, h2⟩ := h k hk
 exact ⟨(hb.cell (block_lt' h1)).trans h1, (hb.cell (block_lt' h2)).trans h2⟩
end

section
open Go.RowKit
def missN (a b : Int) : Nat := askN b ^^^ (askN b &&& clN (askN a))
def impB (a b : Int) : Bool := isLv a && (isLv b && decide (missN a b = 0))
theorem clI_ask (a : Int) : clI (askN a : Int) = clN (askN a) := by
 have h := askN_lt a
 unfold clI
 have e : ((askN a : Nat) : Int) % 64 = (askN a : Int) := by omega
 rw [e, Int.toNat_natCast]
theorem lmiss_any (a b : Int) (w : World) (hK : Kinds w) : Calls Tryd.prog 32 #[.int .i64 a, .int .i64 b] w fun e w' => e = .returned (.int .i64 (missN a b)) ∧ w = w' := by
 have ha := askN_lt a
 have hb := askN_lt b
 have hc := clN_lt ⟨askN a, ha⟩
 simp only at hc
 have H : Hid (bits .andNot .i64 (askN b : Int) (clN (askN a) : Int) = (missN a b : Int)) := hid (i64_andNot_nat _ _ (by omega) (by omega))
 have CA := hid (fun l => lasks_any l w hK)
 have CC : Hid (Calls Tryd.prog 47 #[.int .i64 (askN a)] w fun e w' => e = .returned (.int .i64 (clN (askN a))) ∧ w = w') := hid (by have h := lclosed_any (askN a) w; rwa [clI_ask] at h)
 clear hK hc ha hb
 go_enter Tryd.func32, Tryd.ntmps32
 go_wp2_with (first
  | (go_at_call 46; refine (CA.out _).mono ?_; rintro e w' ⟨rfl, rfl⟩)
  | (go_at_call 47; refine (CC.out).mono ?_; rintro e w' ⟨rfl, rfl⟩))
 go_ret
 exact ⟨lret_i H.out, rfl⟩
end

section
open Go.RowKit
def Row (w : World) (v : Value) (n size : Nat) (cs : List Value) : Prop :=
 cs.length = n * size ∧ ∃ ao cap, v = .slice ao n cap ∧ (n ≤ cap ∧ cap ≤ maxLen) ∧ (ao = none → n = 0 ∧ cap = 0) ∧ (0 < n → ∃ b off, ao = some ⟨b, off, none⟩ ∧ ∀ i, i < n * size → w.cell? ⟨b, off + i, none⟩ = cs[i]?)
def Ints (w : World) (v : Value) (xs : List Int) : Prop := Row w v xs.length 1 (xs.map (Value.int .i64))
theorem block_lt {w : World} {a : Addr} {v : Value} (h : w.cell? a = some v) : a.block < w.heap.size := by
 by_cases h0 : a.block < w.heap.size
 ·exact h0
 ·simp [World.cell?, Array.getElem?_eq_none (Nat.le_of_not_lt h0)] at h
theorem Row.below {w w' : World} {v : Value} {n size : Nat} {cs : List Value} (h : Row w v n size cs) (hb : Below w.heap.size w w') : Row w' v n size cs := by
 obtain ⟨hl, ao, cap, rfl, hm, hno, hc⟩ := h
 refine ⟨hl, ao, cap, rfl, hm, hno, fun hn => ?_⟩
 obtain ⟨b, off, rfl, hcell⟩ := hc hn
 refine ⟨b, off, rfl, fun i hi => ?_⟩
 have h1 := hcell i hi
 have h2 : cs[i]? = some cs[i] := List.getElem?_eq_getElem (by omega)
 rw [h2] at h1
 have hlt := block_lt h1
 rw [hb.cell (p := ⟨b, off + i, none⟩) hlt, h1, h2]
theorem Ints.below {w w' : World} {v : Value} {xs : List Int} (h : Ints w v xs) (hb : Below w.heap.size w w') : Ints w' v xs := Row.below h hb
theorem Row.of_owns {w : World} {base : Nat} {e : TypeId} {size : Nat} {v : Value} {n : Nat} {cs : List Value} (h : w.ownsRow base e size v n cs) : Row w v n size cs := by
 obtain ⟨hl, h⟩ := h
 refine ⟨hl, ?_⟩
 rcases h with ⟨rfl, rfl⟩ | ⟨g, cap, cur, rfl, hb, hh, hn, hm, hs, ht⟩
 ·exact ⟨none, 0, rfl, by simp, fun _ => ⟨rfl, rfl⟩, fun h => by omega⟩
 ·refine ⟨some ⟨g, 0, none⟩, cap, rfl, by omega, fun h => (by cases h), fun _ => ⟨g, 0, rfl, fun i hi => ?_⟩⟩
  have hown : w.ownsRow base e size (.slice (some ⟨g, 0, none⟩) n cap) n cs := ⟨hl, .inr ⟨g, cap, cur, rfl, hb, hh, hn, hm, hs, ht⟩⟩
  have := hown.cellAt i hi
  simpa using this
theorem Ints.of_owns {w : World} {base : Nat} {e : TypeId} {v : Value} {n : Nat} {xs : List Int} (h : w.ownsRow base e 1 v n (xs.map (Value.int .i64))) : Ints w v xs := by
 have hr := Row.of_owns h
 have hn : n = xs.length := by have := h.1; simp at this; omega
 subst hn; exact hr
theorem Ints.form {w : World} {v : Value} {xs : List Int} (h : Ints w v xs) : ∃ ao cap, v = .slice ao xs.length cap ∧ xs.length ≤ 9223372036854775807 := by
 obtain ⟨_, ao, cap, rfl, hm, _, _⟩ := h
 exact ⟨ao, cap, rfl, Nat.le_trans hm.1 hm.2⟩
theorem Ints.at {w : World} {ao : Option Addr} {n cap : Nat} {xs : List Int} (h : Ints w (.slice ao n cap) xs) {k : Nat} (hk : k < xs.length) :
  ∃ b off, ao = some ⟨b, off, none⟩ ∧ w.cell? ⟨b, off + k, none⟩ = some (.int .i64 xs[k]) := by
 obtain ⟨_, ao', cap', he, hm, _, hc⟩ := h
 obtain ⟨rfl, _, _⟩ : ao = ao' ∧ n = xs.length ∧ cap = cap' := by simpa using he
 obtain ⟨b, off, rfl, hcell⟩ := hc (by omega)
 refine ⟨b, off, rfl, ?_⟩
 rw [hcell k (by omega)]
 simp [List.getElem?_eq_getElem hk]
theorem owns_below {w w' : World} {base : Nat} {e : TypeId} {size : Nat} {v : Value} {n : Nat} {cs : List Value} (h : w.ownsRow base e size v n cs) (hb : Below w.heap.size w w') : w'.ownsRow base e size v n cs :=
 h.kept (row := none) ⟨hb.os, hb.tape, hb.output, hb.size, fun k hk _ => hb.block k hk⟩ (by cases v.ownBlock <;> simp)
theorem wpList_append_row {P : Program} {w : World} {ops : Array Oper} {rest : List Oper} {o : Oper} {a : Act} {Q : Exit → Act → World → Prop} (hgd : o.guard = none) (s x : Operand) (t : TypeId)
  (ho : o.op = .call { callee := .builtin .append, args := #[s, x], argTypes := #[t, t] })
  (base : Nat) (e : TypeId) (i : TypeInfo) (z : Value) (size bytes : Nat) (ht : P.underlying t = some (.slice e)) (hi : P.info? e = some i) (hz : i.zero = some z)
  (hsize : i.size = size) (hby : i.bytes = bytes) (hzs : z.cells.size = size) (hsz : 0 < size)
  (v : Value) (n : Nat) (xs : List Value) (hs : a.eval s = v) (hown : w.ownsRow base e size v n xs)
  (sv : Value) (m : Nat) (news : List Value) (hx : a.eval x = sv) (hsrc : Row w sv m size news) (h1 : ∀ u ∈ news, u.oneCell' = true)
  (h63 : n + m ≤ maxLen) (hbytes : (n + m) * bytes ≤ 140737488355328) (hbase : base ≤ w.heap.size)
  (h : ∀ v' w', w'.ownsRow base e size v' (n + m) (xs ++ news) → w.grownBy w' v.ownBlock → wpList P ops Q rest (a.put o.dst v') w') : wpList P ops Q (o :: rest) a w := by
 obtain ⟨hl, ao, cap, rfl, _, hno, hc⟩ := hsrc
 cases ao with
 | none =>
  obtain ⟨rfl, rfl⟩ := hno rfl
  have hnews : news = [] := List.eq_nil_of_length_eq_zero (by simpa using hl)
  subst hnews
  exact wpList_append_own_none hgd s x t ho base e i size ht hi v n xs hs hown hx (by simpa using h v w (by simpa using hown) (World.grownBy.refl _ _))
 | some ad =>
  refine wpList_append_own w hgd s x t ho base e i z size bytes ht hi hz hsize hby hzs hsz v n xs hs hown ad m cap news hx hl ?_ h1 h63 hbytes hbase (fun v' w' h2 h3 _ => h v' w' h2 h3)
  intro j u hu
  have hj : j < news.length := (List.getElem?_eq_some_iff.1 hu).1
  have hm : 0 < m := by
   rcases Nat.eq_zero_or_pos m with h0 | h0
   ·subst h0; rw [Nat.zero_mul] at hl; omega
   ·exact h0
  obtain ⟨b, off, he, hcell⟩ := hc hm
  obtain rfl := Option.some.inj he
  rw [Addr.add_lit, hcell j (by omega), hu]
end

section
def bt (n : Int) : Nat := if 0 ≤ n ∧ n < 64 then 2 ^ n.toNat else 0
def hasB (s : Nat) (n : Int) : Bool := decide (0 ≤ n ∧ n < 64) && s.testBit n.toNat
def IsSet (s : Nat) : Prop := s < 18446744073709551616
def withS (s : Nat) (n : Int) : Nat := s ||| bt n
theorem isSet_iff (s : Nat) : IsSet s ↔ s < 2 ^ 64 := by unfold IsSet; omega
theorem isSet_of_bits {s : Nat} (h : ∀ i, 64 ≤ i → s.testBit i = false) : IsSet s := by
 rw [isSet_iff]; exact Nat.lt_pow_two_of_testBit s h
theorem IsSet.high {s : Nat} (h : IsSet s) {i : Nat} (hi : 64 ≤ i) : s.testBit i = false := by
 rw [isSet_iff] at h
 exact Nat.testBit_lt_two_pow (Nat.lt_of_lt_of_le h (Nat.pow_le_pow_right (by omega) hi))
theorem set_ext {s t : Nat} (hs : IsSet s) (ht : IsSet t) (h : ∀ i, i < 64 → s.testBit i = t.testBit i) : s = t := by
 apply Nat.eq_of_testBit_eq
 intro i
 by_cases hi : i < 64
 ·exact h i hi
 ·rw [hs.high (by omega), ht.high (by omega)]
theorem testBit_bt (n : Int) (i : Nat) : (bt n).testBit i = (decide (0 ≤ n ∧ n < 64) && decide (n.toNat = i)) := by
 unfold bt
 split
 ·rename_i h; rw [Nat.testBit_two_pow]; simp [h]
 ·rename_i h; simp [h]
theorem isSet_bt (n : Int) : IsSet (bt n) := by
 apply isSet_of_bits
 intro i hi
 rw [testBit_bt]
 by_cases h : 0 ≤ n ∧ n < 64
 ·simp [h]; omega
 ·simp [h]
theorem isSet_and {s t : Nat} (hs : IsSet s) : IsSet (s &&& t) := by
 apply isSet_of_bits
 intro i hi
 simp [hs.high hi]
theorem isSet_or {s t : Nat} (hs : IsSet s) (ht : IsSet t) : IsSet (s ||| t) := by
 apply isSet_of_bits
 intro i hi
 simp [hs.high hi, ht.high hi]
theorem isSet_xor {s t : Nat} (hs : IsSet s) (ht : IsSet t) : IsSet (s ^^^ t) := by
 apply isSet_of_bits
 intro i hi
 simp [hs.high hi, ht.high hi]
theorem isSet_withS {s : Nat} {n : Int} (hs : IsSet s) : IsSet (withS s n) := isSet_or hs (isSet_bt n)
theorem testBit_withS (s : Nat) (n : Int) (i : Nat) : (withS s n).testBit i = (s.testBit i || (decide (0 ≤ n ∧ n < 64) && decide (n.toNat = i))) := by
 simp only [withS, Nat.testBit_or, testBit_bt]
end

section
def lstTo (s k : Nat) : List Nat := (List.range k).filter fun i => s.testBit i
def lst (s : Nat) : List Nat := lstTo s 64
theorem mem_lst {s i : Nat} : i ∈ lst s ↔ i < 64 ∧ s.testBit i = true := by simp [lst, lstTo]
/-! ### The lowest bit, as the library finds it -/
/-! ### How many bits, as the library counts them -/
def f1 (b : Nat) : Nat := (b / 2 &&& 0x55) + (b &&& 0x55)
def f2 (b : Nat) : Nat := (b / 4 &&& 0x33) + (b &&& 0x33)
/-! ### The library's steps, as the walk writes them -/
def sF (x : Int) : Int := IntKind.u64.wrap (x + x / 4294967296)
end

section
open Go.RowKit
def mkS (p : Nat → Bool) : Nat := ((List.range 64).filter p).foldl (fun s i => s ||| 2 ^ i) 0
theorem testBit_fold (l : List Nat) : ∀ (s i : Nat), (l.foldl (fun s i => s ||| 2 ^ i) s).testBit i = (s.testBit i || l.contains i) := by
 induction l with
 | nil => intro s i; simp
 | cons a l ih =>
  intro s i
  rw [List.foldl_cons, ih, Nat.testBit_or, Nat.testBit_two_pow, List.contains_cons, Bool.or_assoc]
  congr 2
  rw [Bool.eq_iff_iff, decide_eq_true_iff, beq_iff_eq]
  exact ⟨fun h => h.symm, fun h => h.symm⟩
theorem testBit_mkS (p : Nat → Bool) (i : Nat) : (mkS p).testBit i = (decide (i < 64) && p i) := by
 unfold mkS
 rw [testBit_fold, Nat.zero_testBit, Bool.false_or, Bool.eq_iff_iff]
 simp
theorem isSet_mkS (p : Nat → Bool) : IsSet (mkS p) := by
 apply isSet_of_bits
 intro i hi
 rw [testBit_mkS]
 have : ¬ i < 64 := by omega
 simp [this]
theorem mkS_eq {s : Nat} {p : Nat → Bool} (hs : IsSet s) (h : ∀ i, i < 64 → s.testBit i = p i) : s = mkS p := by
 apply set_ext hs (isSet_mkS p)
 intro i hi
 rw [testBit_mkS, h i hi]; simp [hi]
theorem mkS_congr {p q : Nat → Bool} (h : ∀ i, i < 64 → p i = q i) : mkS p = mkS q := by
 apply mkS_eq (isSet_mkS p)
 intro i hi
 rw [testBit_mkS, h i hi]; simp [hi]
abbrev Mat := Nat → Nat → Bool
def rowsA (R : Mat) : Array Value := ((List.range 64).map fun i => Value.int .u64 ((mkS (R i) : Nat) : Int)).toArray
theorem rowsA_size (R : Mat) : (rowsA R).size = 64 := by simp [rowsA]
theorem rowsA_at (R : Mat) {i : Nat} (hi : i < 64) : (rowsA R)[i]? = some (.int .u64 ((mkS (R i) : Nat) : Int)) := by
 simp [rowsA, hi]
def rowSet (R : Mat) (a : Nat) (p : Nat → Bool) : Mat := fun i => if i = a then p else R i
theorem rowsA_set (R : Mat) (a s : Nat) (p : Nat → Bool) (hs : s = mkS p) : (rowsA R).setIfInBounds a (.int .u64 (s : Int)) = rowsA (rowSet R a p) := by
 subst hs
 apply Array.ext_getElem?
 intro i
 by_cases hi : i < 64
 ·rw [rowsA_at _ hi, Array.getElem?_setIfInBounds]
  unfold rowSet
  by_cases e : a = i
  ·subst e; simp [rowsA_size, hi]
  ·rw [if_neg e, rowsA_at R hi, if_neg (fun h => e h.symm)]
 ·rw [Array.getElem?_eq_none (by rw [Array.size_setIfInBounds, rowsA_size]; omega), Array.getElem?_eq_none (by rw [rowsA_size]; omega)]
theorem rowsA_congr {R S : Mat} (h : ∀ i j, i < 64 → j < 64 → R i j = S i j) : rowsA R = rowsA S := by
 apply Array.ext_getElem?
 intro i
 by_cases hi : i < 64
 ·rw [rowsA_at _ hi, rowsA_at _ hi, mkS_congr fun j hj => h i j hi hj]
 ·rw [Array.getElem?_eq_none (by rw [rowsA_size]; omega), Array.getElem?_eq_none (by rw [rowsA_size]; omega)]
theorem rowsA_inj {R S : Mat} (h : rowsA R = rowsA S) : ∀ i j, i < 64 → j < 64 → R i j = S i j := by
 intro i j hi hj
 have h1 := rowsA_at R hi
 rw [h, rowsA_at S hi] at h1
 have h2 : mkS (R i) = mkS (S i) := by
  have := Option.some.inj h1
  simp at this; omega
 have h3 := congrArg (fun s => s.testBit j) h2
 simpa [testBit_mkS, hj] using h3
def noR : Mat := fun _ _ => false
end

section
open Go.RowKit
theorem ret_i {k : IntKind} {a b : Int} (h : a = b) : Ending.returned (.int k a) = .returned (.int k b) := by rw [h]
theorem ret_b {a b : Bool} (h : a = b) : Ending.returned (.bool a) = .returned (.bool b) := by rw [h]
end

section
open Go.RowKit
def inB (s t : Nat) : Bool := (s ^^^ (s &&& t)) == 0
def belowS (n : Int) : Nat := if n ≤ 0 then 0 else if 64 ≤ n then 18446744073709551615 else 2 ^ n.toNat - 1
end

section
open Go.RowKit
def hasL (l : List Int) (n : Int) : Bool := l.any fun x => x == n
end

section
open Go.RowKit
def ofTo (l : List Int) : Nat → Nat
 | 0 => 0
 | m + 1 => 2 * ofTo l m + if hasL l (63 - (m : Int)) then 1 else 0
def ofL (l : List Int) : Nat := ofTo l 64
theorem ofTo_lt (l : List Int) : ∀ m, ofTo l m < 2 ^ m
 | 0 => by simp [ofTo]
 | m + 1 => by
  have := ofTo_lt l m
  simp only [ofTo, Nat.pow_succ]
  split <;> omega
theorem testBit_ofTo (l : List Int) : ∀ m i, m ≤ 64 → (ofTo l m).testBit i = (decide (i < m) && hasL l ((64 - m + i : Nat) : Int))
 | 0, i, _ => by simp [ofTo]
 | m + 1, i, hm => by
  have hb : (if hasL l (63 - (m : Int)) = true then 1 else 0) < 2 ^ 1 := by split <;> omega
  show (2 ^ 1 * ofTo l m + (if hasL l (63 - (m : Int)) = true then 1 else 0)).testBit i = _
  rw [Nat.testBit_two_pow_mul_add _ hb]
  by_cases h0 : i = 0
  ·subst h0
   have e : ((64 - (m + 1) + 0 : Nat) : Int) = 63 - (m : Int) := by omega
   rw [e]
   cases hasL l (63 - (m : Int)) <;> simp
  ·rw [if_neg (by omega), testBit_ofTo l m (i - 1) (by omega)]
   have e : 64 - m + (i - 1) = 64 - (m + 1) + i := by omega
   rw [e]
   congr 1
   simp; omega
theorem testBit_ofL (l : List Int) (i : Nat) : (ofL l).testBit i = (decide (i < 64) && hasL l (i : Int)) := by
 unfold ofL
 rw [testBit_ofTo l 64 i (by omega)]; simp
theorem isSet_ofL (l : List Int) : IsSet (ofL l) := by
 rw [isSet_iff]; exact ofTo_lt l 64
def setL (l : List Int) : Nat := l.foldl withS 0
theorem testBit_foldl (l : List Int) : ∀ (s : Nat) (i : Nat), i < 64 → (l.foldl withS s).testBit i = (s.testBit i || hasL l (i : Int)) := by
 induction l with
 | nil => intro s i _; simp [hasL]
 | cons a l ih =>
  intro s i hi
  rw [List.foldl_cons, ih _ i hi, testBit_withS]
  unfold hasL
  rw [List.any_cons, Bool.or_assoc]
  congr 2
  rw [Bool.eq_iff_iff]; simp; omega
theorem isSet_foldl (l : List Int) : ∀ (s : Nat), IsSet s → IsSet (l.foldl withS s) := by
 induction l with
 | nil => intro s h; exact h
 | cons a l ih => intro s h; exact ih _ (isSet_withS h)
theorem isSet_setL (l : List Int) : IsSet (setL l) := isSet_foldl l 0 (by unfold IsSet; omega)
theorem setL_eq (l : List Int) : setL l = ofL l := by
 apply set_ext (isSet_setL l) (isSet_ofL l)
 intro i hi
 rw [testBit_ofL, setL, testBit_foldl l 0 i hi]; simp [hi]
end

section
open Go.RowKit
theorem infoInt : (Tryd.prog.info? 3).map (fun i => (i.zero, i.size, i.bytes)) = some (some (.int .i64 0), 1, 8) := by kernel_rfl
theorem below_app {B : Nat} {W wr w1 : World} {o : Obj} {e : TypeId} {n size : Nat} {v : Value} {xs : List Value} (hb : Below B W wr) (hB : B ≤ W.heap.size) (hown : wr.ownsRow B e size v n xs)
  (hg : (wr.alloc o).grownBy w1 v.ownBlock) : Below B W w1 :=
 (hb.alloc (Nat.le_trans hB hb.size) o).grown hg (by have := hb.size; simp; omega) fun k hk => (hown.lt k hk).1
end

section
open Go.RowKit
def IntOk (n : Int) : Prop := -9223372036854775808 ≤ n ∧ n ≤ 9223372036854775807
structure OpV where
 wr : Bool
 key : Int
 val : Int
def OpV.v (o : OpV) : Value := .agg #[.bool o.wr, .int .i64 o.key, .int .i64 o.val]
def OpV.ok (o : OpV) : Prop := IntOk o.key ∧ IntOk o.val
def opZ : OpV := ⟨false, 0, 0⟩
def mayO (o : OpV) : Bool := (decide (0 ≤ o.key) && decide (o.key < 64)) && (decide (0 ≤ o.val) && decide (o.val ≤ 2147483647)) && (!o.wr || o.val != 0)
theorem mayO_iff (o : OpV) : mayO o = true ↔ (0 ≤ o.key ∧ o.key < 64) ∧ (0 ≤ o.val ∧ o.val ≤ 2147483647) ∧ (o.wr = true → o.val ≠ 0) := by
 obtain ⟨wr, key, val⟩ := o
 unfold mayO
 cases wr <;> simp [and_assoc]
theorem box_below (w : World) (o : Obj) : Below w.heap.size w (w.alloc o) := (Below.refl _ _).alloc (Nat.le_refl _) _
theorem read_any (key val : Int) (w : World) :
  Calls Tryd.prog 44 #[.int .i64 key, .int .i64 val] w fun e w' => e = .returned (.agg #[.bool false, .int .i64 key, .int .i64 val]) ∧ Below w.heap.size w w' := by
 go_enter Tryd.func44, Tryd.ntmps44
 go_wp2_with fail
 refine bodyPost_ret (v := .agg #[.bool false, .int .i64 key, .int .i64 val]) (by simp [results, Tryd.results44, go_sem]) rfl ⟨rfl, ?_⟩
 exact box_below _ _
theorem write_op (key val : Int) (w : World) :
  Calls Tryd.prog 43 #[.int .i64 key, .int .i64 val] w fun e w' => e = .returned (.agg #[.bool true, .int .i64 key, .int .i64 val]) ∧ Below w.heap.size w w' := by
 go_enter Tryd.func43, Tryd.ntmps43
 go_wp2_with fail
 refine bodyPost_ret (v := .agg #[.bool true, .int .i64 key, .int .i64 val]) (by simp [results, Tryd.results43, go_sem]) rfl ⟨rfl, ?_⟩
 exact box_below _ _
theorem below_then {w0 w1 w2 : World} (h : Below w0.heap.size w0 w1) (k : Below w1.heap.size w1 w2) : Below w0.heap.size w0 w2 := h.trans (k.mono h.size)
theorem opBlock (w : World) (x y z : Value) (t : TypeId) : (w.alloc (.cells #[x, y, z] t)).cell? ⟨w.heap.size, 0, none⟩ = some x ∧ (w.alloc (.cells #[x, y, z] t)).cell? ⟨w.heap.size, 1, none⟩ = some y ∧ (w.alloc (.cells #[x, y, z] t)).cell? ⟨w.heap.size, 2, none⟩ = some z := by
 refine ⟨?_, ?_, ?_⟩ <;> simp
def opV (l : List OpV) : List Value := l.flatMap fun o => [.bool o.wr, .int .i64 o.key, .int .i64 o.val]
theorem opV_len (l : List OpV) : (opV l).length = l.length * 3 := by
 induction l with
 | nil => rfl
 | cons a l ih => unfold opV at *; rw [List.flatMap_cons, List.length_append, ih]; simp; omega
theorem opV_at : ∀ (l : List OpV) (k : Nat) (hk : k < l.length), (opV l)[k * 3]? = some (.bool l[k].wr) ∧ (opV l)[k * 3 + 1]? = some (.int .i64 l[k].key) ∧ (opV l)[k * 3 + 2]? = some (.int .i64 l[k].val)
 | a :: l, 0, _ => ⟨rfl, rfl, rfl⟩
 | a :: l, k + 1, hk => by
  obtain ⟨h0, h1, h2⟩ := opV_at l k (by simpa using hk)
  have e : ∀ j, (opV (a :: l))[(k + 1) * 3 + j]? = (opV l)[k * 3 + j]? := fun j => by
   unfold opV
   rw [List.flatMap_cons, show (k + 1) * 3 + j = 3 + (k * 3 + j) from by omega]
   rw [List.getElem?_append_right (by simp)]
   simp
  exact ⟨(e 0).trans h0, (e 1).trans h1, (e 2).trans h2⟩
def Ops (w : World) (v : Value) (l : List OpV) : Prop := Row w v l.length 3 (opV l)
theorem Ops.below {w w' : World} {v : Value} {l : List OpV} (h : Ops w v l) (hb : Below w.heap.size w w') : Ops w' v l := Row.below h hb
theorem Ops.form {w : World} {v : Value} {l : List OpV} (h : Ops w v l) : ∃ ao cap, v = .slice ao l.length cap ∧ l.length ≤ 9223372036854775807 := by
 obtain ⟨_, ao, cap, rfl, hm, _, _⟩ := h
 exact ⟨ao, cap, rfl, Nat.le_trans hm.1 hm.2⟩
theorem Ops.at {w : World} {ao : Option Addr} {n cap : Nat} {l : List OpV} (h : Ops w (.slice ao n cap) l) {k : Nat} (hk : k < l.length) :
  ∃ b off, ao = some ⟨b, off, none⟩ ∧ w.cell? ⟨b, off + k * 3, none⟩ = some (.bool l[k].wr) ∧ w.cell? ⟨b, off + k * 3 + 1, none⟩ = some (.int .i64 l[k].key) ∧ w.cell? ⟨b, off + k * 3 + 2, none⟩ = some (.int .i64 l[k].val) := by
 obtain ⟨_, ao', cap', he, hm, _, hc⟩ := h
 obtain ⟨rfl, _, _⟩ : ao = ao' ∧ n = l.length ∧ cap = cap' := by simpa using he
 obtain ⟨b, off, rfl, hcell⟩ := hc (by omega)
 obtain ⟨h0, h1, h2⟩ := opV_at l k hk
 refine ⟨b, off, rfl, ?_, ?_, ?_⟩
 ·rw [hcell (k * 3) (by omega), h0]
 ·rw [Nat.add_assoc, hcell (k * 3 + 1) (by omega), h1]
 ·rw [Nat.add_assoc, hcell (k * 3 + 2) (by omega), h2]
def allM (l : List OpV) : Bool := l.all mayO
theorem allM_succ (l : List OpV) (k : Nat) (hk : k < l.length) : allM (l.take (k + 1)) = (allM (l.take k) && mayO l[k]) := by
 unfold allM; rw [List.take_succ_eq_append_getElem hk, List.all_append]; simp
theorem allM_no (l : List OpV) (k : Nat) (hk : k < l.length) (h : mayO l[k] = false) : allM l = false := by
 unfold allM; exact List.all_eq_false.2 ⟨l[k], List.getElem_mem hk, by simp [h]⟩
theorem put_three {w1 : World} {g : Nat} {x0 x1 x2 : Value} (v0 v1 v2 : Value) (c0 : w1.cell? ⟨g, 0, none⟩ = some x0) (c1 : w1.cell? ⟨g, 1, none⟩ = some x1) (c2 : w1.cell? ⟨g, 2, none⟩ = some x2) :
  (((w1.setCell ⟨g, 0, none⟩ v0).setCell ⟨g, 1, none⟩ v1).setCell ⟨g, 2, none⟩ v2).cell? ⟨g, 0, none⟩ = some v0 ∧
  (((w1.setCell ⟨g, 0, none⟩ v0).setCell ⟨g, 1, none⟩ v1).setCell ⟨g, 2, none⟩ v2).cell? ⟨g, 1, none⟩ = some v1 ∧
  (((w1.setCell ⟨g, 0, none⟩ v0).setCell ⟨g, 1, none⟩ v1).setCell ⟨g, 2, none⟩ v2).cell? ⟨g, 2, none⟩ = some v2 := by
 have n01 : (⟨g, 0, none⟩ : Addr) ≠ ⟨g, 1, none⟩ := by simp
 have n02 : (⟨g, 0, none⟩ : Addr) ≠ ⟨g, 2, none⟩ := by simp
 have n12 : (⟨g, 1, none⟩ : Addr) ≠ ⟨g, 2, none⟩ := by simp
 refine ⟨?_, ?_, ?_⟩
 ·rw [World.cell?_setCell_other _ _ _ _ n02.symm, World.cell?_setCell_other _ _ _ _ n01.symm]
  exact World.cell?_setCell_same _ _ _ c0
 ·rw [World.cell?_setCell_other _ _ _ _ n12.symm]
  exact World.cell?_setCell_same _ _ _ ((World.cell?_setCell_other _ _ _ _ n01).trans c1)
 ·exact World.cell?_setCell_same _ _ _ ((World.cell?_setCell_other _ _ _ _ n12).trans ((World.cell?_setCell_other _ _ _ _ n02).trans c2))
theorem below_three {B : Nat} {w w1 : World} {g : Nat} (v0 v1 v2 : Value) (hb : Below B w w1) (hg : B ≤ g) :
  Below B w (((w1.setCell ⟨g, 0, none⟩ v0).setCell ⟨g, 1, none⟩ v1).setCell ⟨g, 2, none⟩ v2) :=
 ((hb.setCell (p := ⟨g, 0, none⟩) hg v0).setCell (p := ⟨g, 1, none⟩) hg v1).setCell (p := ⟨g, 2, none⟩) hg v2
theorem op_cells {w w1 : World} {x y z : Value} {t : TypeId} (hb : Below (w.heap.size + 1) (w.alloc (.cells #[x, y, z] t)) w1) :
  (w1.cell? ⟨w.heap.size, 0, none⟩ = some x ∧ w1.cell? ⟨w.heap.size, 1, none⟩ = some y ∧ w1.cell? ⟨w.heap.size, 2, none⟩ = some z) ∧
  (w1.frozen? ⟨w.heap.size, 0, none⟩ = false ∧ w1.frozen? ⟨w.heap.size, 1, none⟩ = false ∧ w1.frozen? ⟨w.heap.size, 2, none⟩ = false) := by
 have c0 := hb.cell (p := ⟨w.heap.size, 0, none⟩) (by simp)
 have c1 := hb.cell (p := ⟨w.heap.size, 1, none⟩) (by simp)
 have c2 := hb.cell (p := ⟨w.heap.size, 2, none⟩) (by simp)
 have f0 := hb.frozen (p := ⟨w.heap.size, 0, none⟩) (by simp)
 have f1 := hb.frozen (p := ⟨w.heap.size, 1, none⟩) (by simp)
 have f2 := hb.frozen (p := ⟨w.heap.size, 2, none⟩) (by simp)
 simp at c0 c1 c2 f0 f1 f2
 exact ⟨⟨c0, c1, c2⟩, f0, f1, f2⟩
end

section
open Go.RowKit
theorem ints_nat (l : List Nat) : (l.map fun i : Nat => Value.int .i64 (i : Int)) = (l.map Int.ofNat).map (Value.int .i64) := by rw [List.map_map]; rfl
theorem Ints.of_nats {w : World} {base : Nat} {e : TypeId} {v : Value} {n : Nat} {l : List Nat} (h : w.ownsRow base e 1 v n (l.map fun i : Nat => Value.int .i64 (i : Int))) : Ints w v (l.map Int.ofNat) := by
 rw [ints_nat] at h; exact Ints.of_owns h
end

section
open Go.RowKit
def mayB (n : Int) : Bool := decide (0 ≤ n ∧ n < 64)
def hasR (R : Mat) (a b : Int) : Bool := mayB a && hasB (mkS (R a.toNat)) b
def orR (R S : Mat) : Mat := fun i j => R i j || S i j
end

section
open Go.RowKit
def inMTo (R S : Mat) (k : Nat) : Bool := (List.range k).all fun i => inB (mkS (R i)) (mkS (S i))
def inM (R S : Mat) : Bool := inMTo R S 64
theorem hasB_mkS (p : Nat → Bool) (n : Nat) (hn : n < 64) : hasB (mkS p) (n : Int) = p n := by
 unfold hasB
 have h : 0 ≤ (n : Int) ∧ (n : Int) < 64 := by omega
 rw [Int.toNat_natCast, testBit_mkS]
 simp [h, hn]
end

section
open Go.RowKit
def thenR (R S : Mat) : Mat := fun i j => (List.range 64).any fun m => R i m && S m j
end

section
inductive Must (S A : Mat) (tr pf : Bool) : Nat → Nat → Prop
 | base {i j : Nat} : S i j = true → Must S A tr pf i j
 | trans {i m j : Nat} : tr = true → m < 64 → Must S A tr pf i m → Must S A tr pf m j → Must S A tr pf i j
 | pre {i m j : Nat} : pf = true → m < 64 → A i m = true → Must S A tr pf m j → Must S A tr pf i j
section
variable {S A V : Mat} {tr pf : Bool}
theorem thenR_iff (R S : Mat) (i j : Nat) : thenR R S i j = true ↔ ∃ m, m < 64 ∧ R i m = true ∧ S m j = true := by
 unfold thenR
 rw [List.any_eq_true]
 constructor
 ·rintro ⟨m, hm, h⟩
  rw [Bool.and_eq_true] at h
  exact ⟨m, List.mem_range.1 hm, h.1, h.2⟩
 ·rintro ⟨m, hm, h1, h2⟩
  exact ⟨m, List.mem_range.2 hm, by rw [h1, h2]; rfl⟩
theorem orR_iff (R S : Mat) (i j : Nat) : orR R S i j = true ↔ R i j = true ∨ S i j = true := by
 unfold orR; rw [Bool.or_eq_true]
end
end

section
open Go.RowKit
section
variable {α : Type} {e : α → Value} {P : Program} {k : TypeId} {w : World} {b n : Nat} {f : Int → Option α} {c : Nat}
end
section
variable {α : Type} {e : α → Value} {P : Program} (w : World) {ops : Array Oper} {rest : List Oper} {o : Oper} {a : Act} {Q : Exit → Act → World → Prop}
def putF (f : Int → Option α) (key : Int) (val : α) : Int → Option α := fun y => if y = key then some val else f y
theorem putF_same (f : Int → Option α) (key : Int) (val : α) : putF f key val key = some val := by simp [putF]
theorem putF_other (f : Int → Option α) {key y : Int} (val : α) (h : y ≠ key) : putF f key val y = f y := by simp [putF, h]
end
end

section
open Go.RowKit
def eO : OpV → Value := OpV.v
def lastO (l : List OpV) (x : Int) : Option OpV := (l.filter fun o => o.key == x).getLast?
def firstO (l : List OpV) (x : Int) : Option OpV := l.find? fun o => o.key == x
def lastW (l : List OpV) (x : Int) : Option OpV := (l.filter fun o => o.wr && o.key == x).getLast?
theorem take_snoc (l : List OpV) (k : Nat) (hk : k < l.length) : l.take (k + 1) = l.take k ++ [l[k]] := List.take_succ_eq_append_getElem hk
theorem lastO_snoc (l : List OpV) (o : OpV) : lastO (l ++ [o]) = putF (lastO l) o.key o := by
 funext y
 unfold lastO putF
 rw [List.filter_append]
 by_cases h : y = o.key
 ·subst h; simp
 ·have : (o.key == y) = false := by simp; exact fun e => h e.symm
  simp [this, h]
theorem lastW_snoc (l : List OpV) (o : OpV) : lastW (l ++ [o]) = if o.wr then putF (lastW l) o.key o else lastW l := by
 funext y
 cases hw : o.wr
 ·unfold lastW; rw [List.filter_append]; simp [hw]
 ·simp only [if_true]
  unfold lastW putF
  rw [List.filter_append]
  by_cases h : y = o.key
  ·subst h; simp [hw]
  ·have : (o.key == y) = false := by simp; exact fun e => h e.symm
   simp [hw, this, h]
theorem firstO_snoc (l : List OpV) (o : OpV) : firstO (l ++ [o]) = if (firstO l o.key).isSome then firstO l else putF (firstO l) o.key o := by
 funext y
 unfold firstO putF
 by_cases h : y = o.key
 ·subst h
  cases hf : l.find? (fun p => p.key == o.key) <;> simp [hf]
 ·have : (o.key == y) = false := by simp; exact fun e => h e.symm
  cases hf : l.find? (fun p => p.key == o.key) <;> simp [this, h]
theorem firstO_key {l : List OpV} {x : Int} {o : OpV} (h : firstO l x = some o) : o.key = x ∧ o ∈ l := by
 unfold firstO at h
 exact ⟨by simpa using List.find?_some h, List.mem_of_find?_eq_some h⟩
theorem lastW_key {l : List OpV} {x : Int} {o : OpV} (h : lastW l x = some o) : o.key = x ∧ o.wr = true ∧ o ∈ l := by
 unfold lastW at h
 have := List.mem_of_getLast? h
 simp at this
 exact ⟨this.2.2, this.2.1, this.1⟩
def stOk (l : List OpV) (k : Nat) : Bool :=
 match l[k]? with
 | none => true
 | some o => match lastO (l.take k) o.key with
  | none => true
  | some p => o.wr || o.val == p.val
def steadyL (l : List OpV) : Bool := (List.range l.length).all (stOk l)
theorem steadyL_all {l : List OpV} (h : ∀ j, j < l.length → stOk l j = true) : steadyL l = true := by
 unfold steadyL; rw [List.all_eq_true]; intro j hj; exact h j (List.mem_range.1 hj)
theorem steadyL_no {l : List OpV} {k : Nat} (hk : k < l.length) (h : stOk l k = false) : steadyL l = false := by
 unfold steadyL; rw [List.all_eq_false]; exact ⟨k, List.mem_range.2 hk, by simp [h]⟩
theorem stOk_at {l : List OpV} {k : Nat} (hk : k < l.length) : stOk l k = match lastO (l.take k) l[k].key with
  | none => true
  | some p => l[k].wr || l[k].val == p.val := by
 unfold stOk; rw [List.getElem?_eq_getElem hk]
def Rise (f : Int → Option OpV) (wr : Bool) (out : List OpV) : Prop := out.Pairwise (fun a b => a.key < b.key) ∧ ∀ o, o ∈ out ↔ (f o.key = some o ∧ o.wr = wr)
end

section
open Go.RowKit
theorem all_snoc {p : Nat → Prop} {k : Nat} (h : ∀ j, j < k → p j) (hk : p k) : ∀ j, j < k + 1 → p j := fun j hj => by
 rcases Nat.lt_or_eq_of_le (Nat.le_of_lt_succ hj) with h1 | rfl
 ·exact h j h1
 ·exact hk
end

section
open Go.RowKit
theorem lastO_step {l : List OpV} {j : Nat} (hj : j < l.length) (key : Int) : lastO (l.take (j + 1)) key = if key = l[j].key then some l[j] else lastO (l.take j) key := by
 rw [take_snoc l j hj, lastO_snoc]; rfl
theorem before_any (va : Value) (l : List OpV) (k : Nat) (key : Int) (w : World) (ha : Ops w va l) (hk : k ≤ l.length) :
  Calls Tryd.prog 75 #[va, .int .i64 k, .int .i64 key] w fun e w' => e = .returned (.tuple #[eO ((lastO (l.take k) key).getD opZ), .bool (lastO (l.take k) key).isSome]) ∧ Below w.heap.size w w' := by
 obtain ⟨ao, cap, rfl, hal⟩ := ha.form
 obtain ⟨⟨c0, c1, c2⟩, f0, f1, f2⟩ := op_cells (Below.refl (w.heap.size + 1) (w.alloc (.cells #[.bool false, .int .i64 0, .int .i64 0] 71)))
 have hb0 := (Below.refl w.heap.size w).alloc (Nat.le_refl _) (.cells #[.bool false, .int .i64 0, .int .i64 0] 71)
 go_enter Tryd.func75, Tryd.ntmps75
 go_wp2_with fail
 generalize w.alloc (.cells #[.bool false, .int .i64 0, .int .i64 0] 71) = w1 at *
 go_loopw [8] (fun i wr => ∃ j : Nat, j ≤ k ∧ i = .int .i64 ((j : Int) - 1) ∧ lastO (l.take k) key = lastO (l.take j) key ∧ w1 = wr) (fun i _ => (intOf i + 1).toNat)
 case atStart => exact ⟨k, by omega, rfl, rfl, rfl⟩
 case round =>
  obtain ⟨j, hj, hi, hL, rfl⟩ := hrel
  cases j with
  | zero =>
   obtain rfl : u8 = .int .i64 (-1) := hi
   rw [List.take_zero] at hL
   have HL := hid (show lastO (l.take k) key = none from hL)
   clear hL
   go_wp2_with fail
   obtain ⟨d0, d1, d2⟩ := put_three (.bool false) (.int .i64 0) (.int .i64 0) c0 c1 c2
   have hb6 := below_three (.bool false) (.int .i64 0) (.int .i64 0) hb0 (Nat.le_refl _)
   generalize World.setCell _ _ _ = w5 at *
   refine bodyPost_ret (v := .tuple #[.agg #[.bool false, .int .i64 0, .int .i64 0], .bool false]) (by simp [results, Tryd.results75, go_sem, d0, d1, d2]) rfl ⟨?_, hb6⟩
   rw [HL.out]; rfl
  | succ j =>
   have hi' : (((j + 1 : Nat) : Int) - 1) = (j : Int) := by omega
   rw [hi'] at hi
   subst hi
   have hlt : j < l.length := by omega
   have hjl : (j : Int) < (l.length : Int) := by omega
   obtain ⟨g, o, hao, e0, e1, e2⟩ := (ha.below hb0).at hlt
   cases hao
   rw [lastO_step hlt] at hL
   generalize l[j] = x at *
   obtain ⟨wr', kx, vx⟩ := x
   simp only at e0 e1 e2 hL
   by_cases hke : kx = key
   ·subst hke
    rw [if_pos rfl] at hL
    have HL := hid hL
    clear hL
    go_wp2_with fail
    obtain ⟨d0, d1, d2⟩ := put_three (.bool wr') (.int .i64 kx) (.int .i64 vx) c0 c1 c2
    have hb6 := below_three (.bool wr') (.int .i64 kx) (.int .i64 vx) hb0 (Nat.le_refl _)
    generalize World.setCell _ _ _ = w5 at *
    refine bodyPost_ret (v := .tuple #[.agg #[.bool wr', .int .i64 kx, .int .i64 vx], .bool true]) (by simp [results, Tryd.results75, go_sem, d0, d1, d2]) rfl ⟨?_, hb6⟩
    rw [HL.out]; rfl
   ·rw [if_neg (fun h => hke h.symm)] at hL
    have HL := hid hL
    have hke' : (kx == key) = false := by simpa using hke
    clear hL hke
    go_wp2_with fail
    go_roundw
    case rel => exact ⟨j, by omega, by go_num, HL.out, by first | rfl | trivial⟩
    case measure => simp [intOf]
theorem rsteady_any (va : Value) (l : List OpV) (w : World) (ha : Ops w va l) :
  Calls Tryd.prog 64 #[va] w fun e w' => e = .returned (.bool (steadyL l)) ∧ Below w.heap.size w w' := by
 obtain ⟨ao, cap, rfl, hal⟩ := ha.form
 go_enter Tryd.func64, Tryd.ntmps64
 go_wp2_with fail
 go_loopw [3] (fun i wr => ∃ k : Nat, k ≤ l.length ∧ i = .int .i64 k ∧ (∀ j, j < k → stOk l j = true) ∧ Below w.heap.size w wr) (fun i _ => l.length - (intOf i).toNat)
 case atStart => exact ⟨0, by omega, rfl, by omega, Below.refl _ _⟩
 case round =>
  obtain ⟨k, hk, rfl, hst, hb⟩ := hrel
  have HST := hid hst
  clear hst
  by_cases hlt : k < l.length
  ·have hki : (k : Int) < (l.length : Int) := by omega
   obtain ⟨g, o, hao, c0, c1, c2⟩ := (ha.below hb).at hlt
   cases hao
   have HS := hid (stOk_at hlt)
   have HNO := hid (fun h => steadyL_no hlt h)
   have CB := hid (before_any _ l k l[k].key wr (ha.below hb) hk)
   have HAT := hid (fun (wx : World) (hbx : Below w.heap.size w wx) => (ha.below hbx).at hlt)
   generalize l[k] = x at *
   obtain ⟨wr', key, val⟩ := x
   simp only at c0 c1 c2
   generalize lastO (l.take k) key = q at *
   go_wp2_with fail
   refine (CB.out).mono ?_
   rintro e w1 ⟨rfl, hb1⟩
   have hb2 := below_then hb hb1
   clear CB
   cases q with
   | none =>
    have H : Hid (stOk l k = true) := hid HS.out
    have hb3 := hb2.alloc hb2.size (.cells #[.bool false, .int .i64 0, .int .i64 0] 71)
    have hx := opBlock w1 (.bool false) (.int .i64 0) (.int .i64 0) 71
    clear HS HNO c0 c1 c2 HAT
    simp only [Option.getD_none, Option.isSome_none, eO, OpV.v, opZ]
    go_wp2_with fail
    generalize w1.alloc (.cells #[.bool false, .int .i64 0, .int .i64 0] 71) = w2 at *
    obtain ⟨x0, x1, x2⟩ := hx
    go_quiet (fail)
    go_wp2_with fail
    go_roundw
    case rel => exact ⟨k + 1, by omega, by go_num, all_snoc HST.out H.out, below_drewN hb3 _⟩
    case measure => simp [intOf]; omega
   | some p =>
    obtain ⟨pw, pk, pv⟩ := p
    have hb3 := hb2.alloc hb2.size (.cells #[.bool pw, .int .i64 pk, .int .i64 pv] 71)
    have hx := opBlock w1 (.bool pw) (.int .i64 pk) (.int .i64 pv) 71
    have HSP : Hid (stOk l k = (wr' || val == pv)) := HS
    clear HS c0 c1 c2
    simp only [Option.getD_some, Option.isSome_some, eO, OpV.v]
    go_wp2_with fail
    generalize w1.alloc (.cells #[.bool pw, .int .i64 pk, .int .i64 pv] 71) = w2 at *
    obtain ⟨x0, x1, x2⟩ := hx
    obtain ⟨_, _, hao', c0, c1, c2⟩ := HAT.out _ hb3
    cases hao'
    cases wr'
    ·by_cases hvv : val = pv
     ·have H : Hid (stOk l k = true) := hid (by rw [HSP.out, hvv]; simp)
      have hne : (pv != val) = false := by simp [hvv]
      clear HNO HSP hvv
      go_quiet (fail)
      go_wp2_with fail
      go_roundw
      case rel => exact ⟨k + 1, by omega, by go_num, all_snoc HST.out H.out, below_drewN hb3 _⟩
      case measure => simp [intOf]; omega
     ·have H : Hid (steadyL l = false) := hid (HNO.out (by rw [HSP.out]; simpa using hvv))
      have hne : (pv != val) = true := by simpa using (fun h => hvv h.symm)
      clear HNO HSP hvv
      go_quiet (fail)
      go_wp2_with fail
      go_ret
      exact ⟨ret_b H.out.symm, below_drewN hb3 _⟩
    ·have H : Hid (stOk l k = true) := hid (by rw [HSP.out]; rfl)
     clear HNO HSP
     go_quiet (fail)
     go_wp2_with fail
     go_roundw
     case rel => exact ⟨k + 1, by omega, by go_num, all_snoc HST.out H.out, below_drewN hb3 _⟩
     case measure => simp [intOf]; omega
  ·have hkl : k = l.length := by omega
   have H : Hid (steadyL l = true) := hid (steadyL_all (by rw [← hkl]; exact HST.out))
   go_wp2_with fail
   go_ret
   exact ⟨ret_b H.out.symm, hb⟩
end

section
open Go.RowKit
theorem infoOp : (Tryd.prog.info? 71).map (fun i => (i.zero, i.size, i.bytes)) = some (some (.agg #[.bool false, .int .i64 0, .int .i64 0]), 3, 24) := by kernel_rfl
def Own (w : World) (base : Nat) (v : Value) (l : List OpV) : Prop := w.ownsRow base 71 3 v l.length (opV l)
theorem opV_app (l m : List OpV) : opV (l ++ m) = opV l ++ opV m := by simp [opV]
theorem opV_one (l : List OpV) : ∀ u ∈ opV l, u.oneCell' = true := by
 intro u hu
 unfold opV at hu
 obtain ⟨o, _, ho⟩ := List.mem_flatMap.1 hu
 simp at ho
 rcases ho with rfl | rfl | rfl <;> rfl
theorem opLit (w : World) (base : Nat) (o : OpV) (hb : base ≤ w.heap.size) : (w.alloc (.cells #[.bool o.wr, .int .i64 o.key, .int .i64 o.val] 71)).ownsRow base 71 3 (.slice (some ⟨w.heap.size, 0, none⟩) 1 1) 1 (opV [o]) :=
 World.ownsRow_lit (base := base) (size := 3) w #[.bool o.wr, .int .i64 o.key, .int .i64 o.val] 1 hb (by decide) rfl
theorem Own.ops {w : World} {base : Nat} {v : Value} {l : List OpV} (h : Own w base v l) : Ops w v l := Row.of_owns h
theorem Own.below {w w' : World} {base : Nat} {v : Value} {l : List OpV} (h : Own w base v l) (hb : Below w.heap.size w w') : Own w' base v l := owns_below h hb
theorem Own.base {w : World} {base base' : Nat} {v : Value} {l : List OpV} (h : Own w base v l) (hb : base' ≤ base) : Own w base' v l := by
 obtain ⟨h1, h2⟩ := h
 refine ⟨h1, ?_⟩
 rcases h2 with h2 | ⟨g, cap, cur, e1, e2, r⟩
 ·exact .inl h2
 ·exact .inr ⟨g, cap, cur, e1, Nat.le_trans hb e2, r⟩
def rdK (l : List OpV) (k : Nat) : Option OpV := (firstO l k).filter fun o => !o.wr
def wrK (l : List OpV) (k : Nat) : Option OpV := lastW l k
def upTo (g : Nat → Option OpV) (n : Nat) : List OpV := (List.range n).filterMap g
theorem upTo_succ (g : Nat → Option OpV) (n : Nat) : upTo g (n + 1) = upTo g n ++ (g n).toList := by
 unfold upTo
 rw [List.range_succ, List.filterMap_append]
 cases h : g n <;> simp [h]
theorem upTo_len (g : Nat → Option OpV) (n : Nat) : (upTo g n).length ≤ n := by
 have := List.length_filterMap_le g (List.range n)
 unfold upTo; simpa using this
theorem upTo_mem {g : Nat → Option OpV} {n : Nat} {o : OpV} : o ∈ upTo g n ↔ ∃ k, k < n ∧ g k = some o := by
 unfold upTo; simp
theorem upTo_rise {g : Nat → Option OpV} (hg : ∀ k o, g k = some o → o.key = (k : Int)) : ∀ n, (upTo g n).Pairwise (fun a b => a.key < b.key)
 | 0 => by simp [upTo]
 | n + 1 => by
  rw [upTo_succ, List.pairwise_append]
  refine ⟨upTo_rise hg n, by cases g n <;> simp, fun a ha b hb => ?_⟩
  obtain ⟨k, hk, he⟩ := upTo_mem.1 ha
  have hb' : g n = some b := by simpa using hb
  rw [hg _ _ he, hg _ _ hb']; omega
theorem rdK_some {l : List OpV} {k : Nat} {o : OpV} : rdK l k = some o ↔ firstO l k = some o ∧ o.wr = false := by
 unfold rdK; rw [Option.filter_eq_some_iff]; simp
def refReads (l : List OpV) : List OpV := upTo (rdK l) 64
def refWrites (l : List OpV) : List OpV := upTo (wrK l) 64
def keysIn (l : List OpV) : Prop := ∀ o ∈ l, 0 ≤ o.key ∧ o.key < 64
theorem refReads_rise {l : List OpV} (h : keysIn l) : Rise (firstO l) false (refReads l) := by
 refine ⟨upTo_rise (fun k o hk => (firstO_key (rdK_some.1 hk).1).1) 64, fun o => ?_⟩
 unfold refReads
 rw [upTo_mem]
 constructor
 ·rintro ⟨k, _, hk⟩
  obtain ⟨h1, h2⟩ := rdK_some.1 hk
  rw [(firstO_key h1).1]; exact ⟨h1, h2⟩
 ·rintro ⟨h1, h2⟩
  obtain ⟨h3, h4⟩ := h o (firstO_key h1).2
  refine ⟨o.key.toNat, by omega, rdK_some.2 ⟨?_, h2⟩⟩
  rw [Int.toNat_of_nonneg h3]; exact h1
theorem refWrites_rise {l : List OpV} (h : keysIn l) : Rise (lastW l) true (refWrites l) := by
 refine ⟨upTo_rise (fun k o hk => (lastW_key hk).1) 64, fun o => ?_⟩
 unfold refWrites
 rw [upTo_mem]
 constructor
 ·rintro ⟨k, _, hk⟩
  have h1 : lastW l k = some o := hk
  rw [(lastW_key h1).1]; exact ⟨h1, (lastW_key h1).2.1⟩
 ·rintro ⟨h1, h2⟩
  obtain ⟨h3, h4⟩ := h o (lastW_key h1).2.2
  refine ⟨o.key.toNat, by omega, ?_⟩
  unfold wrK
  rw [Int.toNat_of_nonneg h3]; exact h1
theorem allM_keys {l : List OpV} (h : allM l = true) : keysIn l := fun o ho => by
 have := (mayO_iff o).1 (List.all_eq_true.1 h o ho)
 exact this.1
theorem firstO_none {l : List OpV} {x : Int} : (firstO l x).isSome = (lastO l x).isSome := by
 unfold firstO lastO
 rw [Bool.eq_iff_iff, List.find?_isSome]
 rw [← Option.ne_none_iff_isSome, Ne, List.getLast?_eq_none_iff]
 simp [List.filter_eq_nil_iff]
def rdTo (l : List OpV) (k j : Nat) : Option OpV := rdK (l.take j) k
theorem rdTo_succ {l : List OpV} {k j : Nat} (hj : j < l.length) : rdTo l k (j + 1) = if l[j].key = k ∧ l[j].wr = false ∧ lastO (l.take j) k = none then some l[j] else rdTo l k j := by
 unfold rdTo rdK
 rw [take_snoc l j hj, firstO_snoc]
 have hn := firstO_none (l := l.take j) (x := l[j].key)
 by_cases hs : (firstO (l.take j) l[j].key).isSome = true
 ·rw [if_pos hs]
  rw [hs] at hn
  rw [if_neg]
  rintro ⟨h1, _, h3⟩
  rw [h1, h3] at hn
  cases hn
 ·rw [if_neg hs]
  have hf : firstO (l.take j) l[j].key = none := by simpa using hs
  rw [hf] at hn
  have hl : lastO (l.take j) l[j].key = none := by simpa using hn.symm
  unfold putF
  by_cases hk : (k : Int) = l[j].key
  ·rw [if_pos hk]
   cases hw : l[j].wr
   ·rw [if_pos ⟨hk.symm, rfl, by rw [hk]; exact hl⟩]; simp [hw]
   ·rw [if_neg (by simp), hk, hf]; simp [hw]
  ·rw [if_neg hk, if_neg (fun h => hk h.1.symm)]
end

section
open Go.RowKit Go.Lib Go.Sort Go.Shelf
instance : Inhabited OpV := ⟨opZ⟩
end

section
open Go.RowKit Go.Lib Go.Sort Go.Shelf
theorem Own.split {w : World} {base : Nat} {v : Value} {l : List OpV} (h : Own w base v l) : (v = .slice none 0 0 ∧ l = []) ∨ ∃ g cap, v = .slice (some ⟨g, 0, none⟩) l.length cap ∧ base ≤ g := by
 obtain ⟨_, h2⟩ := h
 rcases h2 with ⟨e1, e2⟩ | ⟨g, cap, cur, e1, e2, _⟩
 ·exact .inl ⟨e1, List.eq_nil_of_length_eq_zero e2⟩
 ·exact .inr ⟨g, cap, e1, e2⟩
theorem below_own {w w1 w2 : World} {base : Nat} {v : Value} {l : List OpV} (hb : Below w.heap.size w w1) (hO : Own w1 base v l) (hbase : w.heap.size ≤ base) (hg : w1.grownBy w2 v.ownBlock) : Below w.heap.size w w2 :=
 hb.grown hg hb.size (fun j hj => by
  rcases hO.split with ⟨e, _⟩ | ⟨g, cap, e, hg'⟩
  ·rw [e] at hj; cases hj
  ·rw [e] at hj; have : g = j := (by simpa [Value.ownBlock] using hj); omega)
end

section
open Go.RowKit
structure TxnV where
 s : Int
 b : Int
 c : Int
 v : Value
 l : List OpV
def TxnV.ok (t : TxnV) : Prop := (IntOk t.s ∧ IntOk t.b ∧ IntOk t.c) ∧ ∀ o ∈ t.l, o.ok
def txV (h : List TxnV) : List Value := h.flatMap fun t => [.int .i64 t.s, .int .i64 t.b, .int .i64 t.c, t.v]
theorem txV_at : ∀ (l : List TxnV) (k : Nat) (hk : k < l.length), (txV l)[k * 4]? = some (.int .i64 l[k].s) ∧ (txV l)[k * 4 + 1]? = some (.int .i64 l[k].b) ∧ (txV l)[k * 4 + 2]? = some (.int .i64 l[k].c) ∧ (txV l)[k * 4 + 3]? = some l[k].v
 | a :: l, 0, _ => ⟨rfl, rfl, rfl, rfl⟩
 | a :: l, k + 1, hk => by
  obtain ⟨h0, h1, h2, h3⟩ := txV_at l k (by simpa using hk)
  have e : ∀ j, (txV (a :: l))[(k + 1) * 4 + j]? = (txV l)[k * 4 + j]? := fun j => by
   unfold txV
   rw [List.flatMap_cons, show (k + 1) * 4 + j = 4 + (k * 4 + j) from by omega]
   rw [List.getElem?_append_right (by simp)]
   simp
  exact ⟨(e 0).trans h0, (e 1).trans h1, (e 2).trans h2, (e 3).trans h3⟩
def Txns (w : World) (v : Value) (h : List TxnV) : Prop := Row w v h.length 4 (txV h) ∧ ∀ t ∈ h, Ops w t.v t.l
theorem Txns.below {w w' : World} {v : Value} {h : List TxnV} (hT : Txns w v h) (hb : Below w.heap.size w w') : Txns w' v h := ⟨Row.below hT.1 hb, fun t ht => (hT.2 t ht).below hb⟩
theorem Txns.form {w : World} {v : Value} {l : List TxnV} (h : Txns w v l) : ∃ ao cap, v = .slice ao l.length cap ∧ l.length ≤ 9223372036854775807 := by
 obtain ⟨⟨_, ao, cap, rfl, hm, _, _⟩, _⟩ := h
 exact ⟨ao, cap, rfl, Nat.le_trans hm.1 hm.2⟩
theorem Txns.at {w : World} {ao : Option Addr} {n cap : Nat} {l : List TxnV} (h : Txns w (.slice ao n cap) l) {k : Nat} (hk : k < l.length) :
  ∃ b off, ao = some ⟨b, off, none⟩ ∧ w.cell? ⟨b, off + k * 4, none⟩ = some (.int .i64 l[k].s) ∧ w.cell? ⟨b, off + k * 4 + 1, none⟩ = some (.int .i64 l[k].b) ∧ w.cell? ⟨b, off + k * 4 + 2, none⟩ = some (.int .i64 l[k].c) ∧ w.cell? ⟨b, off + k * 4 + 3, none⟩ = some l[k].v := by
 obtain ⟨⟨_, ao', cap', he, hm, _, hc⟩, _⟩ := h
 obtain ⟨rfl, _, _⟩ : ao = ao' ∧ n = l.length ∧ cap = cap' := by simpa using he
 obtain ⟨b, off, rfl, hcell⟩ := hc (by omega)
 obtain ⟨h0, h1, h2, h3⟩ := txV_at l k hk
 refine ⟨b, off, rfl, ?_, ?_, ?_, ?_⟩
 ·rw [hcell (k * 4) (by omega), h0]
 ·rw [Nat.add_assoc, hcell (k * 4 + 1) (by omega), h1]
 ·rw [Nat.add_assoc, hcell (k * 4 + 2) (by omega), h2]
 ·rw [Nat.add_assoc, hcell (k * 4 + 3) (by omega), h3]
theorem Txns.ops {w : World} {v : Value} {l : List TxnV} (h : Txns w v l) {k : Nat} (hk : k < l.length) : Ops w l[k].v l[k].l := h.2 _ (List.getElem_mem hk)
end

section
open Go.RowKit
def mayT (s b c : Int) (l : List OpV) : Bool := decide (0 ≤ s ∧ s < 64 ∧ 0 ≤ b ∧ b < c ∧ c ≤ 2147483647 ∧ 1 ≤ l.length ∧ l.length ≤ 64) && allM l
theorem mayT_no {s b c : Int} {l : List OpV} (h : ¬ (0 ≤ s ∧ s < 64 ∧ 0 ≤ b ∧ b < c ∧ c ≤ 2147483647 ∧ 1 ≤ l.length ∧ l.length ≤ 64)) : mayT s b c l = false := by
 unfold mayT; simp only [h, decide_false, Bool.false_and]
theorem mayT_yes {s b c : Int} {l : List OpV} (h : 0 ≤ s ∧ s < 64 ∧ 0 ≤ b ∧ b < c ∧ c ≤ 2147483647 ∧ 1 ≤ l.length ∧ l.length ≤ 64) : mayT s b c l = allM l := by
 unfold mayT; simp only [h, and_self, decide_true, Bool.true_and]
end

section
open Go.RowKit
def opsN (h : List TxnV) : Nat := (h.map fun t => t.l.length).sum
theorem opsN_snoc (h : List TxnV) (t : TxnV) : opsN (h ++ [t]) = opsN h + t.l.length := by unfold opsN; simp
theorem opsN_take (h : List TxnV) (k : Nat) (hk : k < h.length) : opsN (h.take (k + 1)) = opsN (h.take k) + h[k].l.length := by
 rw [List.take_succ_eq_append_getElem hk, opsN_snoc]
theorem opsN_le (h : List TxnV) (k : Nat) : opsN (h.take k) ≤ opsN h := by
 have : opsN h = opsN (h.take k) + opsN (h.drop k) := by
  unfold opsN; rw [← List.sum_append, ← List.map_append, List.take_append_drop]
 omega
theorem opsN_at (h : List TxnV) (k : Nat) (hk : k < h.length) : h[k].l.length ≤ opsN h := by
 have h1 := opsN_take h k hk
 have h2 := opsN_le h (k + 1)
 omega
def Short (h : List TxnV) : Prop := ∀ t ∈ h, t.l.length ≤ 6000000000000
theorem ret_int {a b : Int} (h : a = b) : Ending.returned (.int .i64 a) = .returned (.int .i64 b) := by rw [h]
theorem count_any (va : Value) (h : List TxnV) (w : World) (hT : Txns w va h) (hn : opsN h ≤ 4611686018427387904) :
  Calls Tryd.prog 33 #[va] w fun e w' => e = .returned (.int .i64 (opsN h)) ∧ Below w.heap.size w w' := by
 obtain ⟨ao, cap, rfl, hal⟩ := hT.form
 go_enter Tryd.func33, Tryd.ntmps33
 go_wp2_with fail
 go_loopw [3, 4] (fun n i wr => ∃ k : Nat, k ≤ h.length ∧ i = .int .i64 k ∧ n = .int .i64 (opsN (h.take k)) ∧ w = wr) (fun _ i _ => h.length - (intOf i).toNat)
 case atStart => exact ⟨0, by omega, rfl, by simp [opsN], rfl⟩
 case round =>
  obtain ⟨k, hk, rfl, rfl, rfl⟩ := hrel
  by_cases hlt : k < h.length
  ·have hki : (k : Int) < (h.length : Int) := by omega
   obtain ⟨g, o, hao, c0, c1, c2, c3⟩ := hT.at hlt
   cases hao
   have HS := hid (opsN_take h k hlt)
   have hle := opsN_le h (k + 1)
   rw [HS.out] at hle
   obtain ⟨ai, capi, hv, hli⟩ := (hT.ops hlt).form
   rw [hv] at c3
   generalize h[k].l.length = m at *
   generalize opsN (h.take k) = n at *
   clear hv c0 c1 c2
   go_wp2_with fail
   go_roundw
   case rel => exact ⟨k + 1, by omega, by go_num, by rw [HS.out]; go_num, by first | rfl | trivial⟩
   case measure => simp [intOf]; omega
  ·have hkl : k = h.length := by omega
   subst hkl
   have H : Hid ((opsN (h.take h.length) : Int) = opsN h) := hid (by rw [List.take_length])
   generalize opsN (h.take h.length) = n at *
   go_wp2_with fail
   go_ret
   exact ⟨ret_int H.out, Below.refl _ _⟩
end

section
open Go.RowKit
def partsB (h : List TxnV) : Bool := h.all fun t => mayT t.s t.b t.c t.l
def stL (h : List TxnV) : List Int := h.flatMap fun t => [t.b, t.c]
def stampsB (h : List TxnV) : Bool := decide (stL h).Nodup
theorem stL_succ (h : List TxnV) (k : Nat) (hk : k < h.length) : stL (h.take (k + 1)) = stL (h.take k) ++ [h[k].b, h[k].c] := by
 unfold stL; rw [List.take_succ_eq_append_getElem hk, List.flatMap_append]; simp
end

section
open Go.RowKit
def endF (h : List TxnV) : Int → Option Int := fun x => ((h.filter fun t => t.s == x).getLast?).map (·.c)
theorem endF_succ (h : List TxnV) (k : Nat) (hk : k < h.length) : endF (h.take (k + 1)) = putF (endF (h.take k)) h[k].s h[k].c := by
 funext y
 unfold endF putF
 rw [List.take_succ_eq_append_getElem hk, List.filter_append]
 by_cases e : y = h[k].s
 ·subst e; simp
 ·have : (h[k].s == y) = false := by simp; exact fun e2 => e e2.symm
  simp [this, e]
def sesOk (h : List TxnV) (k : Nat) : Bool := match h[k]? with
 | none => true
 | some t => match endF (h.take k) t.s with
  | none => true
  | some e => decide (e < t.b)
def sesB (h : List TxnV) : Bool := (List.range h.length).all (sesOk h)
theorem sesB_all {h : List TxnV} (hh : ∀ j, j < h.length → sesOk h j = true) : sesB h = true := by
 unfold sesB; rw [List.all_eq_true]; intro j hj; exact hh j (List.mem_range.1 hj)
theorem sesOk_at {h : List TxnV} {k : Nat} (hk : k < h.length) : sesOk h k = match endF (h.take k) h[k].s with
  | none => true
  | some e => decide (e < h[k].b) := by
 unfold sesOk; rw [List.getElem?_eq_getElem hk]
end

section
open Go.RowKit
structure WV where
 i : Int
 key : Int
 last : Bool
def addOne (i : Int) (F : Int → Option WV) (o : OpV) : Int → Option WV := if o.wr then putF F o.val ⟨i, o.key, false⟩ else F
def addF (i : Int) (F : Int → Option WV) (l : List OpV) : Int → Option WV := l.foldl (addOne i) F
def finF (i : Int) (F : Int → Option WV) (l : List OpV) : Int → Option WV := l.foldl (fun F o => putF F o.val ⟨i, o.key, true⟩) F
def opsAt (h : List TxnV) (k : Nat) : List OpV := ((h[k]?).map (·.l)).getD []
theorem opsAt_eq {h : List TxnV} {k : Nat} (hk : k < h.length) : opsAt h k = h[k].l := by unfold opsAt; rw [List.getElem?_eq_getElem hk]; rfl
def wrTo (h : List TxnV) (k : Nat) : Int → Option WV := (List.range k).foldl (fun F (j : Nat) => finF (j : Int) (addF (j : Int) F (opsAt h j)) (refWrites (opsAt h j))) fun _ => none
theorem wrTo_succ (h : List TxnV) (k : Nat) : wrTo h (k + 1) = finF k (addF k (wrTo h k) (opsAt h k)) (refWrites (opsAt h k)) := by
 unfold wrTo; rw [List.range_succ, List.foldl_append]; rfl
def wv (l : List OpV) : List Int := (l.filter (·.wr)).map (·.val)
def wvH (h : List TxnV) : List Int := h.flatMap fun t => wv t.l
theorem wv_snoc (l : List OpV) (o : OpV) : wv (l ++ [o]) = wv l ++ (if o.wr then [o.val] else []) := by
 unfold wv; rw [List.filter_append, List.map_append]
 cases h : o.wr <;> simp [h]
theorem wvH_succ (h : List TxnV) (k : Nat) (hk : k < h.length) : wvH (h.take (k + 1)) = wvH (h.take k) ++ wv h[k].l := by
 unfold wvH; rw [List.take_succ_eq_append_getElem hk, List.flatMap_append]; simp
def okW (h : List TxnV) : Bool := decide (wvH h).Nodup
theorem wv_mem {l : List OpV} {x : Int} : x ∈ wv l ↔ ∃ o ∈ l, o.wr = true ∧ o.val = x := by
 unfold wv; simp [and_assoc]
theorem wv_len (l : List OpV) : (wv l).length ≤ l.length := by unfold wv; rw [List.length_map]; exact List.length_filter_le _ _
end

section
open Go.RowKit
def At (w : World) (p : Nat) (o : Obj) : Prop := w.heap[p]? = some o
theorem At.lt {w : World} {p : Nat} {o : Obj} (h : At w p o) : p < w.heap.size := (Array.getElem?_eq_some_iff.1 h).1
theorem At.new (w : World) (o : Obj) : At (w.alloc o) w.heap.size o := heap_alloc_new w o
theorem At.below {w w' : World} {p : Nat} {o : Obj} (h : At w p o) (hb : Below w.heap.size w w') : At w' p o := (hb.block p h.lt).trans h
theorem At.cells4 {w : World} {p : Nat} {x y z u : Value} {t : TypeId} (h : At w p (.cells #[x, y, z, u] t)) : w.cell? ⟨p, 0, none⟩ = some x ∧ w.cell? ⟨p, 1, none⟩ = some y ∧ w.cell? ⟨p, 2, none⟩ = some z ∧ w.cell? ⟨p, 3, none⟩ = some u := by
 refine ⟨?_, ?_, ?_, ?_⟩ <;> (unfold At at h; simp [World.cell?, h])
end

section
open Go.RowKit
def fromO (F : Int → Option WV) (x : Int) : Int := ((F x).map (·.i)).getD (-1)
def rdFr (F : Int → Option WV) (i : Int) (l : List OpV) : List (Int × Int) := (l.filter fun o => fromO F o.val != i).map fun o => (o.key, fromO F o.val)
def frV (l : List (Int × Int)) : List Value := l.flatMap fun p => [.int .i64 p.1, .int .i64 p.2]
theorem frV_app (l m : List (Int × Int)) : frV (l ++ m) = frV l ++ frV m := by simp [frV]
theorem lit_two (w : World) (x y : Value) (t : TypeId) : ∀ j u, [x, y][j]? = some u → (w.alloc (.cells #[x, y] t)).cell? ((⟨w.heap.size, 0, none⟩ : Addr).add j) = some u := by
 have h := At.new w (.cells #[x, y] t)
 unfold At at h
 generalize w.alloc (.cells #[x, y] t) = w1 at *
 generalize w.heap.size = p at *
 intro j u hu
 rcases j with _ | _ | j
 ·simp at hu; subst hu; simp [World.cell?, Addr.add, h]
 ·simp at hu; subst hu; simp [World.cell?, Addr.add, h]
 ·simp at hu
theorem own_base' {w : World} {base base' : Nat} {v : Value} {e : TypeId} {size n : Nat} {xs : List Value} (h : w.ownsRow base e size v n xs) (hb : base' ≤ base) : w.ownsRow base' e size v n xs := by
 obtain ⟨h1, h2⟩ := h
 refine ⟨h1, ?_⟩
 rcases h2 with h2 | ⟨g, cap, cur, e1, e2, r⟩
 ·exact .inl h2
 ·exact .inr ⟨g, cap, cur, e1, Nat.le_trans hb e2, r⟩
end

section
open Go.RowKit
def badFr (F : Int → Option WV) (i : Int) (o : OpV) : Bool := match F o.val with | none => false | some u => decide (u.i = i) || !u.last
theorem anyf_take {f : OpV → Bool} {l : List OpV} {k : Nat} (hk : k < l.length) (h : (l.take k).any f = false) : (l.take (k + 1)).any f = f l[k] := by
 rw [List.take_succ_eq_append_getElem hk, List.any_append, h]; simp
theorem anyf_hit {f : OpV → Bool} {l : List OpV} {k : Nat} (hk : k < l.length) (h : f l[k] = true) : l.any f = true := List.any_eq_true.2 ⟨_, List.getElem_mem hk, h⟩
end

section
open Go.RowKit
def Frs (w : World) (v : Value) (l : List (Int × Int)) : Prop := Row w v l.length 2 (frV l)
theorem Frs.below {w w' : World} {v : Value} {l : List (Int × Int)} (h : Frs w v l) (hb : Below w.heap.size w w') : Frs w' v l := Row.below h hb
theorem frV_at : ∀ (l : List (Int × Int)) (k : Nat) (hk : k < l.length), (frV l)[k * 2]? = some (.int .i64 l[k].1) ∧ (frV l)[k * 2 + 1]? = some (.int .i64 l[k].2)
 | [], k, hk => by simp at hk
 | p :: l, 0, _ => by simp [frV]
 | p :: l, k + 1, hk => by
  obtain ⟨h1, h2⟩ := frV_at l k (by simpa using hk)
  have e : (k + 1) * 2 = k * 2 + 1 + 1 := by omega
  have e2 : frV (p :: l) = .int .i64 p.1 :: .int .i64 p.2 :: frV l := rfl
  rw [e, e2]
  exact ⟨by simpa using h1, by simpa using h2⟩
theorem Frs.form {w : World} {v : Value} {l : List (Int × Int)} (h : Frs w v l) : ∃ ao cap, v = .slice ao l.length cap ∧ l.length ≤ 9223372036854775807 := by
 obtain ⟨_, ao, cap, rfl, hm, _, _⟩ := h
 exact ⟨ao, cap, rfl, Nat.le_trans hm.1 hm.2⟩
theorem Frs.at {w : World} {ao : Option Addr} {n cap : Nat} {l : List (Int × Int)} (h : Frs w (.slice ao n cap) l) {k : Nat} (hk : k < l.length) :
  ∃ b off, ao = some ⟨b, off, none⟩ ∧ w.cell? ⟨b, off + k * 2, none⟩ = some (.int .i64 l[k].1) ∧ w.cell? ⟨b, off + k * 2 + 1, none⟩ = some (.int .i64 l[k].2) := by
 obtain ⟨_, ao', cap', he, hm, _, hc⟩ := h
 obtain ⟨rfl, _, _⟩ : ao = ao' ∧ n = l.length ∧ cap = cap' := by simpa using he
 obtain ⟨b, off, rfl, hcell⟩ := hc (by omega)
 obtain ⟨h0, h1⟩ := frV_at l k hk
 exact ⟨b, off, rfl, by rw [hcell _ (by omega), h0], by rw [Nat.add_assoc, hcell _ (by omega), h1]⟩
end

section
open Go.RowKit
def addM (R : Mat) (a b : Int) : Mat := if mayB a = true ∧ mayB b = true then rowSet R a.toNat (fun j => R a.toNat j || decide (j = b.toNat)) else R
theorem mayB_iff (n : Int) : mayB n = true ↔ 0 ≤ n ∧ n < 64 := by unfold mayB; simp
end

section
open Go.RowKit
def prsRow (S : Nat → Nat → Bool) (a : Nat) (R : Mat) : Nat → Mat
 | 0 => R
 | b + 1 => if S a b then addM (prsRow S a R b) a b else prsRow S a R b
def prsTo (S : Nat → Nat → Bool) (n : Nat) : Nat → Mat
 | 0 => noR
 | a + 1 => prsRow S a (prsTo S n a) n
theorem prsRow_hit {S : Nat → Nat → Bool} {a b : Nat} (R : Mat) (h : S a b = true) : prsRow S a R (b + 1) = addM (prsRow S a R b) a b := if_pos h
theorem prsRow_miss {S : Nat → Nat → Bool} {a b : Nat} (R : Mat) (h : S a b = false) : prsRow S a R (b + 1) = prsRow S a R b := if_neg (by simp [h])
end

section
open Go.RowKit
def rdOk (F : Int → Option WV) (o : OpV) : Bool := o.wr || o.val == 0 || (match F o.val with
 | none => false
 | some u => u.key == o.key)
def rowOk (F : Int → Option WV) (l : List OpV) : Bool := l.all (rdOk F)
def valuesB (h : List TxnV) : Bool := okW h && h.all fun t => rowOk (wrTo h h.length) t.l
end

section
open Go.RowKit
def rightB (h : List TxnV) : Bool := partsB h && (valuesB h && (stampsB h && sesB h))
def checkI (h : List TxnV) : Int := if 64 < h.length ∨ 1024 < opsN h then 3 else if rightB h then 0 else 2
theorem opsN_short : ∀ (h : List TxnV), Short h → opsN h ≤ h.length * 6000000000000
 | [], _ => by simp [opsN]
 | t :: h, hs => by
  have h1 := opsN_short h (fun u hu => hs u (List.mem_cons_of_mem _ hu))
  have h2 := hs t List.mem_cons_self
  unfold opsN at *
  simp only [List.map_cons, List.sum_cons, List.length_cons]
  omega
theorem parts_keys {h : List TxnV} (hp : partsB h = true) : ∀ t ∈ h, keysIn t.l := by
 intro t ht
 have := List.all_eq_true.1 hp t ht
 unfold mayT at this
 simp only [Bool.and_eq_true] at this
 exact allM_keys this.2
end

section
open Go.RowKit
theorem owns_apart {w : World} {b1 b2 : Nat} {e1 e2 : TypeId} {s1 s2 : Nat} {v1 v2 : Value} {n1 n2 : Nat} {x1 x2 : List Value} (h1 : w.ownsRow b1 e1 s1 v1 n1 x1) (h2 : w.ownsRow b2 e2 s2 v2 n2 x2) (he : e1 ≠ e2) : v1.ownBlock = none ∨ v1.ownBlock ≠ v2.ownBlock := by
 obtain ⟨_, h1⟩ := h1
 obtain ⟨_, h2⟩ := h2
 rcases h1 with ⟨rfl, _⟩ | ⟨g1, c1, cur1, rfl, _, hh1, _⟩
 ·exact .inl rfl
 ·right
  rcases h2 with ⟨rfl, _⟩ | ⟨g2, c2, cur2, rfl, _, hh2, _⟩
  ·simp [Value.ownBlock]
  ·intro e
   simp [Value.ownBlock] at e
   subst e
   rw [hh1] at hh2
   injection hh2 with hh2
   injection hh2 with _ hh2
   exact he hh2
abbrev KRow := Value × List Int
abbrev RRow := Value × List (Int × Int)
section
variable {b : Nat} {w : World} {vk vr : Value} {K : List KRow} {R : List RRow}
end
def keysOf (l : List OpV) : List Int := (refWrites l).map OpV.key
def readsOf (h : List TxnV) (i : Nat) : List (Int × Int) := rdFr (wrTo h h.length) (i : Int) (refReads (opsAt h i))
def soundOf (h : List TxnV) (i : Nat) : Bool := !(refReads (opsAt h i)).any (badFr (wrTo h h.length) (i : Int)) && steadyL (opsAt h i)
def soundTo (h : List TxnV) (k : Nat) : Bool := (List.range k).all (soundOf h)
theorem check_zero {h : List TxnV} (hc : checkI h = 0) : h.length ≤ 64 ∧ opsN h ≤ 1024 ∧ okW h = true ∧ ∀ t ∈ h, keysIn t.l := by
 unfold checkI at hc
 by_cases hb : 64 < h.length ∨ 1024 < opsN h
 ·rw [if_pos hb] at hc; omega
 ·rw [if_neg hb] at hc
  cases hr : rightB h
  ·rw [hr] at hc; simp at hc
  ·unfold rightB valuesB at hr
   simp only [Bool.and_eq_true] at hr
   exact ⟨by omega, by omega, hr.2.1.1, parts_keys hr.1⟩
end

section
open Go.RowKit
theorem owns_form {w : World} {b : Nat} {e : TypeId} {s : Nat} {v : Value} {n : Nat} {xs : List Value} (h : w.ownsRow b e s v n xs) : ∃ ao cap, v = .slice ao n cap := by
 rcases h.2 with ⟨rfl, rfl⟩ | ⟨g, cap, cur, rfl, _⟩
 ·exact ⟨_, _, rfl⟩
 ·exact ⟨_, _, rfl⟩
section
variable {C B gx : Nat} {ts tb tc : Int} {tv : Value} {w w' : World}
end
section
variable {W w w' : World} {gx : Nat} {ts tb tc : Int} {tv : Value} {n : Int} {vk vr : Value} {sd : Bool} {K : List KRow} {R : List RRow}
end
end

section
open Go.RowKit
section
variable {W w w' : World} {A : Nat} {va : Value} {n : Int} {S T F : Mat} {vm vk vr : Value} {sd : Bool} {K : List KRow} {R : List RRow}
end
def sAt (h : List TxnV) (k : Nat) : Int := ((h[k]?).map (·.s)).getD 0
def bAt (h : List TxnV) (k : Nat) : Int := ((h[k]?).map (·.b)).getD 0
def cAt (h : List TxnV) (k : Nat) : Int := ((h[k]?).map (·.c)).getD 0
theorem sAt_eq {h : List TxnV} {k : Nat} (hk : k < h.length) : sAt h k = h[k].s := by unfold sAt; rw [List.getElem?_eq_getElem hk]; rfl
theorem bAt_eq {h : List TxnV} {k : Nat} (hk : k < h.length) : bAt h k = h[k].b := by unfold bAt; rw [List.getElem?_eq_getElem hk]; rfl
theorem cAt_eq {h : List TxnV} {k : Nat} (hk : k < h.length) : cAt h k = h[k].c := by unfold cAt; rw [List.getElem?_eq_getElem hk]; rfl
def sesP (h : List TxnV) (a b : Nat) : Bool := decide (a < b) && decide (sAt h a = sAt h b)
def timP (h : List TxnV) (a b : Nat) : Bool := decide (cAt h a < bAt h b)
def froP (h : List TxnV) (a b : Nat) : Bool := (readsOf h b).any fun r => decide (r.2 = (a : Int))
def sesM (h : List TxnV) : Mat := prsTo (sesP h) h.length h.length
def timM (h : List TxnV) : Mat := prsTo (timP h) h.length h.length
def froM (h : List TxnV) : Mat := prsTo (froP h) h.length h.length
end

section
open Go.RowKit
abbrev Pr := Int × Int
def prV (l : List Pr) : List Value := l.flatMap fun p => [.int .i64 p.1, .int .i64 p.2]
theorem prV_len (l : List Pr) : (prV l).length = l.length * 2 := by
 induction l with
 | nil => rfl
 | cons a l ih => unfold prV at *; rw [List.flatMap_cons, List.length_append, ih, List.length_cons]; simp; omega
theorem prV_at : ∀ (l : List Pr) (k : Nat) (hk : k < l.length), (prV l)[2 * k]? = some (.int .i64 l[k].1) ∧ (prV l)[2 * k + 1]? = some (.int .i64 l[k].2)
 | [], k, hk => by simp at hk
 | a :: l, 0, _ => by unfold prV; simp
 | a :: l, k + 1, hk => by
  have := prV_at l k (by simpa using hk)
  unfold prV at *
  rw [List.flatMap_cons, show 2 * (k + 1) = 2 * k + 2 by omega]
  simpa using this
theorem prV_append (l m : List Pr) : prV (l ++ m) = prV l ++ prV m := by unfold prV; rw [List.flatMap_append]
theorem prV_oneCell (l : List Pr) : ∀ u ∈ prV l, u.oneCell' = true := by
 intro u hu
 unfold prV at hu
 obtain ⟨p, _, hp⟩ := List.mem_flatMap.1 hu
 simp at hp
 rcases hp with rfl | rfl <;> rfl
def Prs (w : World) (v : Value) (l : List Pr) : Prop := Row w v l.length 2 (prV l)
theorem Prs.below {w w' : World} {v : Value} {l : List Pr} (h : Prs w v l) (hb : Below w.heap.size w w') : Prs w' v l := Row.below h hb
theorem Prs.of_owns {w : World} {base : Nat} {e : TypeId} {v : Value} {n : Nat} {l : List Pr} (h : w.ownsRow base e 2 v n (prV l)) : Prs w v l := by
 have hr := Row.of_owns h
 have hn : n = l.length := by have := h.1; rw [prV_len] at this; omega
 subst hn; exact hr
theorem Prs.form {w : World} {v : Value} {l : List Pr} (h : Prs w v l) : ∃ ao cap, v = .slice ao l.length cap ∧ l.length ≤ 9223372036854775807 := by
 obtain ⟨_, ao, cap, rfl, hm, _, _⟩ := h
 exact ⟨ao, cap, rfl, Nat.le_trans hm.1 hm.2⟩
theorem Prs.at {w : World} {ao : Option Addr} {n cap : Nat} {l : List Pr} (h : Prs w (.slice ao n cap) l) {k : Nat} (hk : k < l.length) :
  ∃ b off, ao = some ⟨b, off, none⟩ ∧ w.cell? ⟨b, off + k * 2, none⟩ = some (.int .i64 l[k].1) ∧ w.cell? ⟨b, off + k * 2 + 1, none⟩ = some (.int .i64 l[k].2) := by
 obtain ⟨_, ao', cap', he, hm, _, hc⟩ := h
 obtain ⟨rfl, _, _⟩ : ao = ao' ∧ n = l.length ∧ cap = cap' := by simpa using he
 obtain ⟨b, off, rfl, hcell⟩ := hc (by omega)
 obtain ⟨h1, h2⟩ := prV_at l k hk
 refine ⟨b, off, rfl, ?_, ?_⟩
 ·rw [Nat.mul_comm k 2, hcell (2 * k) (by omega), h1]
 ·rw [Nat.mul_comm k 2, Nat.add_assoc, hcell (2 * k + 1) (by omega), h2]
def hasP (l : List Pr) (a b : Int) : Bool := l.any fun p => p.1 == a && p.2 == b
theorem hasP_iff {l : List Pr} {a b : Int} : hasP l a b = true ↔ (a, b) ∈ l := by
 unfold hasP
 rw [List.any_eq_true]
 constructor
 ·rintro ⟨⟨x, y⟩, h, e⟩
  simp at e
  obtain ⟨rfl, rfl⟩ := e
  exact h
 ·intro h; exact ⟨(a, b), h, by simp⟩
theorem hasP_succ (l : List Pr) (a b : Int) (k : Nat) (hk : k < l.length) : hasP (l.take (k + 1)) a b = (hasP (l.take k) a b || (l[k].1 == a && l[k].2 == b)) := by
 unfold hasP
 rw [List.take_succ_eq_append_getElem hk, List.any_append]; simp
theorem hasP_hit (l : List Pr) (a b : Int) (k : Nat) (hk : k < l.length) (h1 : l[k].1 = a) (h2 : l[k].2 = b) : true = hasP l a b := by
 symm
 rw [hasP_iff]
 have : l[k] = (a, b) := Prod.ext h1 h2
 rw [← this]; exact List.getElem_mem hk
def putP (l : List Pr) (a b : Int) : List Pr := if hasP l a b then l else l ++ [(a, b)]
theorem mem_putP {l : List Pr} {a b : Int} {p : Pr} : p ∈ putP l a b ↔ p ∈ l ∨ p = (a, b) := by
 unfold putP
 split
 ·rename_i h
  rw [hasP_iff] at h
  exact ⟨.inl, fun h' => h'.elim id (fun e => e ▸ h)⟩
 ·simp
theorem putP_nodup {l : List Pr} {a b : Int} (h : l.Nodup) : (putP l a b).Nodup := by
 unfold putP
 split
 ·exact h
 ·rename_i hn
  rw [List.nodup_append]
  refine ⟨h, by simp, ?_⟩
  intro x hx y hy
  simp at hy
  subst hy
  rintro rfl
  exact hn (hasP_iff.2 hx)
theorem nodup_le {α : Type} [BEq α] [LawfulBEq α] : ∀ (l m : List α), l.Nodup → (∀ x ∈ l, x ∈ m) → l.length ≤ m.length
 | [], _, _, _ => by simp
 | a :: l, m, hn, hs => by
  rw [List.nodup_cons] at hn
  have ha := hs a List.mem_cons_self
  have := nodup_le l (m.erase a) hn.2 (fun x hx => by
   have hxa : x ≠ a := by rintro rfl; exact hn.1 hx
   exact (List.mem_erase_of_ne hxa).2 (hs x (List.mem_cons_of_mem _ hx)))
  rw [List.length_erase_of_mem ha] at this
  have hpos : 0 < m.length := List.length_pos_of_mem ha
  rw [List.length_cons]; omega
end

section
open Go.RowKit
theorem phas_any (v : Value) (l : List Pr) (a b : Int) (w : World) (hv : Prs w v l) :
  Calls Tryd.prog 69 #[v, .int .i64 a, .int .i64 b] w fun e w' => e = .returned (.bool (hasP l a b)) ∧ w = w' := by
 obtain ⟨ao, cap, rfl, hlen⟩ := hv.form
 go_enter Tryd.func69, Tryd.ntmps69
 go_wp2
 go_loop [7] (fun i => ∃ k : Nat, k ≤ l.length ∧ i = .int .i64 k ∧ hasP (l.take k) a b = false) (fun i => l.length - (intOf i).toNat)
 case atStart => exact ⟨0, Nat.zero_le _, rfl, by simp [hasP]⟩
 case round =>
  obtain ⟨k, hk, rfl, hno⟩ := hrel
  have HNO := hid hno; clear hno
  by_cases hlt : k < l.length
  ·obtain ⟨p, off, rfl, hc1, hc2⟩ := hv.at hlt
   have HS := hid (hasP_succ l a b k hlt)
   have HH := hid (hasP_hit l a b k hlt)
   generalize l[k] = z at *
   obtain ⟨x, y⟩ := z
   simp only at hc1 hc2
   by_cases hx : x = a
   ·have hx' : (x == a) = true := by simpa using hx
    have HX := hid hx
    clear hx
    by_cases hy : y = b
    ·have hy' : (y == b) = true := by simpa using hy
     have HY := hid hy
     clear hy
     go_wp2
     go_ret
     exact ⟨ret_b (HH.out HX.out HY.out), rfl⟩
    ·have hy' : (y == b) = false := by simpa using hy
     go_wp2
     go_round
     case rel => exact ⟨k + 1, by omega, by go_num, by rw [HS.out, HNO.out, hx', hy']; rfl⟩
     case measure => simp [intOf]; omega
   ·have hx' : (x == a) = false := by simpa using hx
    go_wp2
    go_round
    case rel => exact ⟨k + 1, by omega, by go_num, by rw [HS.out, HNO.out, hx']; rfl⟩
    case measure => simp [intOf]; omega
  ·go_wp2
   go_ret
   exact ⟨ret_b (by rw [← HNO.out, List.take_of_length_le (by omega)]), rfl⟩
theorem infoPair : (Tryd.prog.info? 111).map (fun i => (i.zero, i.size, i.bytes)) = some (some (.agg #[.int .i64 0, .int .i64 0]), 2, 16) := by kernel_rfl
theorem Prs.lit (w : World) (base : Nat) (a b : Int) (hb : base ≤ w.heap.size) : (w.alloc (.cells #[.int .i64 a, .int .i64 b] 111)).ownsRow base 111 2 (.slice (some ⟨w.heap.size, 0, none⟩) 1 1) 1 (prV [(a, b)]) :=
 World.ownsRow_lit (base := base) (size := 2) w #[.int .i64 a, .int .i64 b] 1 hb (by decide) rfl
theorem put_any (v : Value) (l : List Pr) (a b : Int) (w : World) (hv : Prs w v l) (hlen : l.length ≤ 1000000000) :
  Calls Tryd.prog 68 #[v, .int .i64 a, .int .i64 b] w fun e w' => ∃ v', e = .returned v' ∧ Prs w' v' (putP l a b) ∧ Below w.heap.size w w' := by
 obtain ⟨i0, hi, hz0, hz1, hz2⟩ := info_parts infoPair
 have C := phas_any v l a b w hv
 cases hh : hasP l a b
 ·have HP : Hid (putP l a b = l ++ [(a, b)]) := hid (by unfold putP; rw [hh]; rfl)
  rw [hh] at C
  have CH := hid C
  clear C hh
  go_enter Tryd.func68, Tryd.ntmps68
  go_wp2_with fail
  refine (CH.out).mono ?_
  rintro e w' ⟨rfl, rfl⟩
  go_wp2_with (at_builtin; refine wpList_append_row rfl _ _ 80 rfl w.heap.size 111 i0 (.agg #[.int .i64 0, .int .i64 0]) 2 16 Tryd.underlying80 hi hz0 hz1 hz2 rfl (by decide) _ 0 [] rfl (World.ownsRow_lit _ _ _ (Nat.le_refl _) (by decide) rfl) _ l.length _ rfl (hv.below ((Below.refl _ _).alloc (Nat.le_refl _) _)) ?c1 ?c2 ?c3 ?c4 ?_)
  case c1 => exact prV_oneCell _
  case c2 => unfold maxLen; omega
  case c3 => omega
  case c4 => simp
  intro v5 w5 hown5 hg5
  have hb5 : Below w.heap.size w w5 := ((Below.refl w.heap.size w).alloc (Nat.le_refl _) _).grown hg5 (by simp) (by intro k hk; simp [Value.ownBlock] at hk; omega)
  clear hg5
  have hsz := hb5.size
  have hown5' : w5.ownsRow w.heap.size 111 2 v5 l.length (prV l) := by simpa using hown5
  clear hown5
  go_wp2_with (at_builtin; refine wpList_append_row rfl _ _ 80 rfl w.heap.size 111 i0 (.agg #[.int .i64 0, .int .i64 0]) 2 16 Tryd.underlying80 hi hz0 hz1 hz2 rfl (by decide) _ _ _ rfl (hown5'.alloc _) _ 1 _ rfl (Row.of_owns (Prs.lit w5 0 a b (Nat.zero_le _))) ?d1 ?d2 ?d3 ?d4 ?_)
  case d1 => exact prV_oneCell _
  case d2 => unfold maxLen; omega
  case d3 => omega
  case d4 => simp; omega
  intro v6 w6 hown6 hg6
  have hb6 := below_app hb5 (Nat.le_refl _) hown5' hg6
  clear hg6 hown5' hb5
  go_wp2
  go_ret
  refine ⟨_, rfl, ?_, hb6⟩
  rw [HP.out]
  rw [← prV_append] at hown6
  exact Prs.of_owns hown6
 ·have HP : Hid (putP l a b = l) := hid (by unfold putP; rw [hh]; rfl)
  rw [hh] at C
  have CH := hid C
  clear C hh
  go_enter Tryd.func68, Tryd.ntmps68
  go_wp2_with fail
  refine (CH.out).mono ?_
  rintro e w' ⟨rfl, rfl⟩
  go_wp2_with fail
  go_ret
  exact ⟨_, rfl, by rw [HP.out]; exact hv, Below.refl _ _⟩
end

section
open Go.RowKit
def lenOf : Value → Nat
 | .slice _ n _ => n
 | _ => 0
end

section
open Go.RowKit
theorem inB_iff {s t : Nat} (hs : IsSet s) : inB s t = true ↔ ∀ i, i < 64 → s.testBit i = true → t.testBit i = true := by
 unfold inB
 rw [beq_iff_eq]
 constructor
 ·intro h i _ hi
  have := congrArg (fun x => Nat.testBit x i) h
  simp [Nat.testBit_xor, Nat.testBit_and, hi] at this
  exact this
 ·intro h
  apply set_ext (isSet_xor hs (isSet_and hs)) (by unfold IsSet; omega)
  intro i hi
  rw [Nat.testBit_xor, Nat.testBit_and]
  cases hb : s.testBit i
  ·simp
  ·simp [h i hi hb]
theorem hasL_iff {l : List Int} {n : Int} : hasL l n = true ↔ n ∈ l := by unfold hasL; simp
theorem below_eq (n : Int) : ofL ((List.range (min 64 n.toNat)).map Int.ofNat) = belowS n := by
 have hb : IsSet (belowS n) := by
  unfold belowS IsSet
  split
  ·omega
  ·split
   ·omega
   ·have : 2 ^ n.toNat ≤ 2 ^ 63 := Nat.pow_le_pow_right (by omega) (by omega)
    omega
 apply set_ext (isSet_ofL _) hb
 intro i hi
 rw [testBit_ofL]
 have e : hasL ((List.range (min 64 n.toNat)).map Int.ofNat) (i : Int) = decide ((i : Int) < n) := by
  rw [Bool.eq_iff_iff, hasL_iff, decide_eq_true_iff]
  constructor
  ·intro h
   obtain ⟨a, ha, he⟩ := List.mem_map.1 h
   have h1 := List.mem_range.1 ha
   have h2 : (a : Int) = (i : Int) := he
   omega
  ·intro h
   exact List.mem_map.2 ⟨i, List.mem_range.2 (by omega), rfl⟩
 rw [e]
 unfold belowS
 by_cases h0 : n ≤ 0
 ·rw [if_pos h0]
  have : ¬ (i : Int) < n := by omega
  simp [this]
 rw [if_neg h0]
 by_cases h1 : 64 ≤ n
 ·rw [if_pos h1, show (18446744073709551615 : Nat) = 2 ^ 64 - 1 from by decide, Nat.testBit_two_pow_sub_one]
  have : (i : Int) < n := by omega
  simp [this]
 ·rw [if_neg h1, Nat.testBit_two_pow_sub_one, Bool.eq_iff_iff]
  simp; omega
end

section
open Go.RowKit
theorem nodup_map {α β : Type} (f : α → β) (hf : ∀ a b, f a = f b → a = b) : ∀ {l : List α}, l.Nodup → (l.map f).Nodup := by
 intro l h
 induction l with
 | nil => exact List.nodup_nil
 | cons a l ih =>
  rw [List.nodup_cons] at h
  rw [List.map_cons, List.nodup_cons]
  refine ⟨?_, ih h.2⟩
  intro hm
  obtain ⟨b, hb, e⟩ := List.mem_map.1 hm
  exact h.1 (hf b a e ▸ hb)
def Rep (R : Mat) (m : List Pr) : Prop := m.Nodup ∧ ∀ a b, (a, b) ∈ m ↔ ∃ i j : Nat, i < 64 ∧ j < 64 ∧ a = (i : Int) ∧ b = (j : Int) ∧ R i j = true
theorem addM_iff (R : Mat) (a b : Int) (i j : Nat) (hi : i < 64) (hj : j < 64) : addM R a b i j = true ↔ R i j = true ∨ (a = (i : Int) ∧ b = (j : Int)) := by
 unfold addM
 split
 ·rename_i h
  have h1 := (mayB_iff a).1 h.1
  have h2 := (mayB_iff b).1 h.2
  unfold rowSet
  by_cases e : i = a.toNat
  ·rw [if_pos e, ← e, Bool.or_eq_true, decide_eq_true_iff]
   apply or_congr Iff.rfl
   constructor
   ·intro h; omega
   ·intro h; omega
  ·rw [if_neg e]
   constructor
   ·exact .inl
   ·rintro (h | h)
    ·exact h
    ·omega
 ·rename_i h
  constructor
  ·exact .inl
  ·rintro (h' | ⟨rfl, rfl⟩)
   ·exact h'
   ·exact absurd ⟨(mayB_iff _).2 (by omega), (mayB_iff _).2 (by omega)⟩ h
theorem hasR_rep {R : Mat} {m : List Pr} (h : Rep R m) (a b : Int) : hasR R a b = true ↔ (a, b) ∈ m := by
 rw [h.2]
 unfold hasR
 rw [Bool.and_eq_true, mayB_iff]
 constructor
 ·rintro ⟨ha, hb⟩
  unfold hasB at hb
  rw [Bool.and_eq_true, decide_eq_true_iff, testBit_mkS, Bool.and_eq_true] at hb
  exact ⟨a.toNat, b.toNat, by omega, by omega, by omega, by omega, hb.2.2⟩
 ·rintro ⟨i, j, hi, hj, rfl, rfl, h⟩
  refine ⟨by omega, ?_⟩
  rw [Int.toNat_natCast, hasB_mkS _ _ hj]; exact h
end

section
open Go.RowKit
theorem prsRow_iff (S : Nat → Nat → Bool) (a : Nat) (R : Mat) (i j : Nat) (hi : i < 64) (hj : j < 64) : ∀ b, prsRow S a R b i j = true ↔ R i j = true ∨ (i = a ∧ j < b ∧ S i j = true)
 | 0 => by simp [prsRow]
 | b + 1 => by
  have ih := prsRow_iff S a R i j hi hj b
  cases hs : S a b with
  | true =>
   rw [prsRow_hit R hs, addM_iff _ _ _ _ _ hi hj, ih]
   constructor
   ·rintro ((h | ⟨h1, h2, h3⟩) | ⟨h1, h2⟩)
    ·exact .inl h
    ·exact .inr ⟨h1, by omega, h3⟩
    ·have e1 : i = a := by omega
     have e2 : j = b := by omega
     subst e1 e2
     exact .inr ⟨rfl, by omega, hs⟩
   ·rintro (h | ⟨h1, h2, h3⟩)
    ·exact .inl (.inl h)
    ·by_cases e : j = b
     ·exact .inr ⟨by omega, by omega⟩
     ·exact .inl (.inr ⟨h1, by omega, h3⟩)
  | false =>
   rw [prsRow_miss R hs, ih]
   constructor
   ·rintro (h | ⟨h1, h2, h3⟩)
    ·exact .inl h
    ·exact .inr ⟨h1, by omega, h3⟩
   ·rintro (h | ⟨h1, h2, h3⟩)
    ·exact .inl h
    ·refine .inr ⟨h1, ?_, h3⟩
     by_cases e : j = b
     ·subst h1 e; rw [hs] at h3; cases h3
     ·omega
theorem prsTo_iff (S : Nat → Nat → Bool) (n : Nat) (i j : Nat) (hi : i < 64) (hj : j < 64) : ∀ a, prsTo S n a i j = true ↔ i < a ∧ j < n ∧ S i j = true
 | 0 => by simp [prsTo, noR]
 | a + 1 => by
  have ih := prsTo_iff S n i j hi hj a
  show prsRow S a (prsTo S n a) n i j = true ↔ _
  rw [prsRow_iff S a _ i j hi hj, ih]
  constructor
  ·rintro (⟨h1, h2⟩ | ⟨h1, h2⟩)
   ·exact ⟨by omega, h2⟩
   ·exact ⟨by omega, h2⟩
  ·rintro ⟨h1, h2⟩
   by_cases e : i = a
   ·exact .inr ⟨e, h2⟩
   ·exact .inl ⟨by omega, h2⟩
end

section
open Go.RowKit
theorem takeG {P : Program} {ops : Array Oper} {Q : Exit → Act → World → Prop} {md : Region.Mode} {S : World → Prop} (d : Option Tmp) {i : Nat} {oi : Oper} {v : Value} {fuel : Nat} {listed : Array Bool} {a : Act} {w : World} (hi : ops[i]? = some oi) (hd : oi.dst = d)
  (hs : Region.noSelect ops = true) (hf : Region.free md ops listed i = true) (hr : (Region.ready md ops listed).contains i = true)
  (hQ : ∀ c a w, Q (.panic c) (a.put oi.dst v) w → Q (.panic c) a w) (hy : YieldsIf P ops S oi v a) (hS : S w)
  (h : wpAnyH P md ops Q S fuel (listed.setIfInBounds i true) (a.put d v) w) : wpAnyH P md ops Q S (fuel + 1) listed a w := by
 subst hd; exact wpAnyH_take hi hs hf hr hQ hy hS h
end

section
open Go.RowKit
theorem Ints.full {w : World} {v : Value} {l : List Int} (h : Ints w v l) : ∃ ao cap, v = .slice ao l.length cap ∧ (l.length ≤ cap ∧ cap ≤ 9223372036854775807) ∧ (ao = none → l.length = 0 ∧ cap = 0) := by
 obtain ⟨_, ao, cap, rfl, hm, hno, _⟩ := h
 exact ⟨ao, cap, rfl, hm, hno⟩
end

section
open Go.RowKit
def baseQ (h : List TxnV) (q1 q2 : Int) : Mat := if q2 = 0 then (if q1 = 0 then froM h else orR (froM h) (sesM h)) else orR (if q1 = 0 then froM h else orR (froM h) (sesM h)) (timM h)
def baseM (h : List TxnV) (x : Int) : Mat := baseQ h (bits .and .i64 x 1) (bits .and .i64 x 32)
end

section
open Go.RowKit
theorem mayop_any (wr : Bool) (key val : Int) (w : World) :
  Calls Tryd.prog 56 #[.agg #[.bool wr, .int .i64 key, .int .i64 val]] w fun e w' => e = .returned (.bool (mayO ⟨wr, key, val⟩)) ∧ Below w.heap.size w w' := by
 have hi : mayO ⟨wr, key, val⟩ = true ↔ (0 ≤ key ∧ key < 64) ∧ (0 ≤ val ∧ val ≤ 2147483647) ∧ (wr = true → val ≠ 0) := mayO_iff ⟨wr, key, val⟩
 have hb := box_below w (.cells #[.bool wr, .int .i64 key, .int .i64 val] 71)
 have NO : Hid (¬ ((0 ≤ key ∧ key < 64) ∧ (0 ≤ val ∧ val ≤ 2147483647) ∧ (wr = true → val ≠ 0)) → false = mayO ⟨wr, key, val⟩) := hid (fun h => by
  cases hm : mayO ⟨wr, key, val⟩
  ·rfl
  ·exact absurd (hi.1 hm) h)
 by_cases d1 : key < 0
 ·have H := hid (NO.out (by omega))
  go_enter Tryd.func56, Tryd.ntmps56
  go_wp2_with fail
  go_ret
  exact ⟨ret_b H.out, hb⟩
 by_cases d2 : (63 : Int) < key
 ·have H := hid (NO.out (by omega))
  go_enter Tryd.func56, Tryd.ntmps56
  go_wp2_with fail
  go_ret
  exact ⟨ret_b H.out, hb⟩
 by_cases d3 : val < 0
 ·have H := hid (NO.out (by omega))
  go_enter Tryd.func56, Tryd.ntmps56
  go_wp2_with fail
  go_ret
  exact ⟨ret_b H.out, hb⟩
 by_cases d4 : (2147483647 : Int) < val
 ·have H := hid (NO.out (by omega))
  go_enter Tryd.func56, Tryd.ntmps56
  go_wp2_with fail
  go_ret
  exact ⟨ret_b H.out, hb⟩
 cases wr
 ·have H : Hid (true = mayO ⟨false, key, val⟩) := hid (hi.2 ⟨by omega, by omega, fun h => by cases h⟩).symm
  clear hi NO
  go_enter Tryd.func56, Tryd.ntmps56
  go_wp2_with fail
  go_ret
  exact ⟨ret_b H.out, hb⟩
 ·by_cases d5 : val = 0
  ·have H := hid (NO.out (fun h => h.2.2 rfl d5))
   subst d5
   clear hi NO
   go_enter Tryd.func56, Tryd.ntmps56
   go_wp2_with fail
   go_ret
   exact ⟨ret_b H.out, hb⟩
  ·have H : Hid (true = mayO ⟨true, key, val⟩) := hid (hi.2 ⟨by omega, by omega, fun _ => d5⟩).symm
   have d6 : (val != 0) = true := by simpa using d5
   clear hi NO d5
   go_enter Tryd.func56, Tryd.ntmps56
   go_wp2_with fail
   go_ret
   exact ⟨ret_b H.out, hb⟩
theorem maytxn_any (s b c : Int) (va : Value) (l : List OpV) (w : World) (ha : Ops w va l) :
  Calls Tryd.prog 48 #[.agg #[.int .i64 s, .int .i64 b, .int .i64 c, va]] w fun e w' => e = .returned (.bool (mayT s b c l)) ∧ Below w.heap.size w w' := by
 obtain ⟨ao, cap, rfl, hal⟩ := ha.form
 have hb0 := (Below.refl w.heap.size w).alloc (Nat.le_refl _) (.cells #[.int .i64 s, .int .i64 b, .int .i64 c, .slice ao l.length cap] 76)
 have hA0 := At.new w (.cells #[.int .i64 s, .int .i64 b, .int .i64 c, .slice ao l.length cap] 76)
 have NO : Hid (¬ (0 ≤ s ∧ s < 64 ∧ 0 ≤ b ∧ b < c ∧ c ≤ 2147483647 ∧ 1 ≤ l.length ∧ l.length ≤ 64) → false = mayT s b c l) := hid (fun h => (mayT_no h).symm)
 by_cases d1 : s < 0
 ·have H := hid (NO.out (by omega))
  go_enter Tryd.func48, Tryd.ntmps48
  go_wp2_with fail
  go_ret
  exact ⟨ret_b H.out, hb0⟩
 by_cases d2 : (63 : Int) < s
 ·have H := hid (NO.out (by omega))
  go_enter Tryd.func48, Tryd.ntmps48
  go_wp2_with fail
  go_ret
  exact ⟨ret_b H.out, hb0⟩
 by_cases d3 : b < 0
 ·have H := hid (NO.out (by omega))
  go_enter Tryd.func48, Tryd.ntmps48
  go_wp2_with fail
  go_ret
  exact ⟨ret_b H.out, hb0⟩
 by_cases d4 : c ≤ b
 ·have H := hid (NO.out (by omega))
  go_enter Tryd.func48, Tryd.ntmps48
  go_wp2_with fail
  go_ret
  exact ⟨ret_b H.out, hb0⟩
 by_cases d5 : (2147483647 : Int) < c
 ·have H := hid (NO.out (by omega))
  go_enter Tryd.func48, Tryd.ntmps48
  go_wp2_with fail
  go_ret
  exact ⟨ret_b H.out, hb0⟩
 by_cases d6 : (l.length : Int) < 1
 ·have H := hid (NO.out (by omega))
  go_enter Tryd.func48, Tryd.ntmps48
  go_wp2_with fail
  go_ret
  exact ⟨ret_b H.out, hb0⟩
 by_cases d7 : (64 : Int) < (l.length : Int)
 ·have H := hid (NO.out (by omega))
  go_enter Tryd.func48, Tryd.ntmps48
  go_wp2_with fail
  go_ret
  exact ⟨ret_b H.out, hb0⟩
 have YES : Hid (mayT s b c l = allM l) := hid (mayT_yes (by omega))
 clear NO
 go_enter Tryd.func48, Tryd.ntmps48
 go_wp2_with fail
 clear d1 d2 d3 d4 d5 d6 d7
 go_loopw [3] (fun i wr => ∃ k : Nat, k ≤ l.length ∧ i = .int .i64 k ∧ allM (l.take k) = true ∧ At wr w.heap.size (.cells #[.int .i64 s, .int .i64 b, .int .i64 c, .slice ao l.length cap] 76) ∧ Below w.heap.size w wr) (fun i _ => l.length - (intOf i).toNat)
 case atStart => exact ⟨0, by omega, rfl, rfl, hA0, hb0⟩
 case round =>
  obtain ⟨k, hk, rfl, hal2, hA, hb⟩ := hrel
  have HA := hid hal2
  clear hal2 hb0 hA0
  obtain ⟨q0, q1, q2, q3⟩ := hA.cells4
  by_cases hlt : k < l.length
  ·have hki : (k : Int) < (l.length : Int) := by omega
   obtain ⟨g, o, hao, c0, c1, c2⟩ := (ha.below hb).at hlt
   cases hao
   have HS := hid (allM_succ l k hlt)
   have HNO := hid (allM_no l k hlt)
   generalize l[k] = x at *
   obtain ⟨xw, xk, xv⟩ := x
   try simp only at c0 c1 c2
   have CR := hid (mayop_any xw xk xv wr)
   generalize mayO ⟨xw, xk, xv⟩ = q at *
   go_wp2_with fail
   refine (CR.out).mono ?_
   rintro e w1 ⟨rfl, hb1⟩
   have hb2 := below_then hb hb1
   have hA1 := hA.below hb1
   clear CR q0 q1 q2 q3
   cases q
   ·have H : Hid (false = mayT s b c l) := hid (by rw [YES.out, HNO.out rfl])
    go_wp2_with fail
    go_ret
    exact ⟨ret_b H.out, hb2⟩
   ·have H : Hid (allM (l.take (k + 1)) = true) := hid (by rw [HS.out, HA.out]; rfl)
    go_wp2_with fail
    go_roundw
    case rel => exact ⟨k + 1, by omega, by go_num, H.out, hA1, hb2⟩
    case measure => simp [intOf]; omega
  ·have hkl : k = l.length := by omega
   have H : Hid (true = mayT s b c l) := hid (by have := HA.out; rw [hkl, List.take_length] at this; rw [YES.out, this])
   go_wp2_with fail
   go_ret
   exact ⟨ret_b H.out, hb⟩
def tmO (x : Int) (l : List OpV) : Nat := (wv l).count x
def tmH (x : Int) (h : List TxnV) : Nat := (wvH h).count x
theorem tmO_succ (x : Int) (l : List OpV) (k : Nat) (hk : k < l.length) : tmO x (l.take (k + 1)) = tmO x (l.take k) + (if l[k].wr = true ∧ l[k].val = x then 1 else 0) := by
 unfold tmO
 rw [take_snoc l k hk, wv_snoc, List.count_append]
 cases hw : l[k].wr
 ·simp
 ·by_cases e : l[k].val = x <;> simp [e]
theorem tmH_succ (x : Int) (h : List TxnV) (k : Nat) (hk : k < h.length) : tmH x (h.take (k + 1)) = tmH x (h.take k) + tmO x h[k].l := by
 unfold tmH tmO; rw [wvH_succ h k hk, List.count_append]
theorem tmO_le (x : Int) (l : List OpV) (k : Nat) : tmO x (l.take k) ≤ k := by
 unfold tmO
 have h1 := List.count_le_length (a := x) (l := wv (l.take k))
 have h2 := wv_len (l.take k)
 rw [List.length_take] at h2
 omega
theorem tmH_le (x : Int) (h : List TxnV) : tmH x h ≤ opsN h := by
 unfold tmH
 have h1 := List.count_le_length (a := x) (l := wvH h)
 have h2 : (wvH h).length ≤ opsN h := by
  unfold wvH opsN
  rw [List.length_flatMap]
  clear h1
  induction h with
  | nil => simp
  | cons t h ih =>
   have := wv_len t.l
   simp only [List.map_cons, List.sum_cons]
   omega
 omega
theorem times_any (va : Value) (h : List TxnV) (x : Int) (w : World) (hT : Txns w va h) (hn : opsN h ≤ 100000) :
  Calls Tryd.prog 49 #[va, .int .i64 x] w fun e w' => e = .returned (.int .i64 (tmH x h)) ∧ Below w.heap.size w w' := by
 obtain ⟨ao, cap, rfl, hal⟩ := hT.form
 go_enter Tryd.func49, Tryd.ntmps49
 go_wp2_with fail
 go_loopw [5, 6] (fun n i wr => ∃ k : Nat, k ≤ h.length ∧ i = .int .i64 k ∧ n = .int .i64 (tmH x (h.take k)) ∧ w = wr) (fun _ i _ => h.length - (intOf i).toNat)
 case atStart => exact ⟨0, by omega, rfl, by simp [tmH, wvH], rfl⟩
 case round =>
  obtain ⟨k, hk, rfl, rfl, rfl⟩ := hrel
  by_cases hlt : k < h.length
  ·have hki : (k : Int) < (h.length : Int) := by omega
   obtain ⟨g, o, hao, c0, c1, c2, c3⟩ := hT.at hlt
   cases hao
   have HS := hid (tmH_succ x h k hlt)
   have hle1 := tmH_le x (h.take k)
   have hle2 := opsN_le h k
   have hle3 := opsN_at h k hlt
   obtain ⟨ai, capi, hv, hli⟩ := (hT.ops hlt).form
   have hO := hT.ops hlt
   rw [hv] at c3 hO
   generalize h[k].l = l at *
   generalize tmH x (h.take k) = m at *
   clear hv c0 c1 c2 hT
   go_wp2_with fail
   go_loopw [5, 7] (fun n i wx => ∃ j : Nat, j ≤ l.length ∧ i = .int .i64 j ∧ n = .int .i64 ((m + tmO x (l.take j) : Nat)) ∧ w = wx) (fun _ i _ => l.length - (intOf i).toNat)
   case atStart => exact ⟨0, by omega, rfl, by simp [tmO, wv], rfl⟩
   case round =>
    obtain ⟨j, hj, rfl, rfl, rfl⟩ := hrel
    have htj := tmO_le x l j
    by_cases hltj : j < l.length
    ·have hkj : (j : Int) < (l.length : Int) := by omega
     obtain ⟨g2, o2, hao2, e0, e1, e2⟩ := hO.at hltj
     cases hao2
     have HSJ := hid (tmO_succ x l j hltj)
     generalize l[j] = y at *
     obtain ⟨yw, yk, yv⟩ := y
     try simp only at e0 e1 e2
     generalize tmO x (l.take j) = n at *
     cases yw with
     | false =>
      have H : Hid (tmO x (l.take (j + 1)) = n) := hid (by rw [HSJ.out]; simp)
      clear HSJ
      go_wp2_with fail
      go_roundw
      case rel => exact ⟨j + 1, by omega, by go_num, by rw [H.out], by first | rfl | trivial⟩
      case measure => simp [intOf]; omega
     | true =>
      by_cases hx : yv = x
      ·have H : Hid (tmO x (l.take (j + 1)) = n + 1) := hid (by rw [HSJ.out]; simp [hx])
       subst hx
       clear HSJ
       go_wp2_with fail
       go_roundw
       case rel => exact ⟨j + 1, by omega, by go_num, by rw [H.out]; go_num, by first | rfl | trivial⟩
       case measure => simp [intOf]; omega
      ·have H : Hid (tmO x (l.take (j + 1)) = n) := hid (by rw [HSJ.out]; simp [hx])
       have hx' : (yv == x) = false := by simpa using hx
       clear HSJ hx
       go_wp2_with fail
       go_roundw
       case rel => exact ⟨j + 1, by omega, by go_num, by rw [H.out], by first | rfl | trivial⟩
       case measure => simp [intOf]; omega
    ·have hj2 : j = l.length := by omega
     subst hj2
     have H : Hid (tmH x (h.take (k + 1)) = m + tmO x (l.take l.length)) := hid (by rw [HS.out, List.take_length])
     generalize tmO x (l.take l.length) = n at *
     go_wp2_with fail
     go_roundw
     case rel => exact ⟨k + 1, by omega, by go_num, by rw [H.out], by first | rfl | trivial⟩
     case measure => simp [intOf]; omega
  ·have hkl : k = h.length := by omega
   subst hkl
   have H : Hid ((tmH x (h.take h.length) : Int) = tmH x h) := hid (by rw [List.take_length])
   generalize tmH x (h.take h.length) = n at *
   go_wp2_with fail
   go_ret
   exact ⟨ret_int H.out, Below.refl _ _⟩
end

section
open Go.RowKit
def isWr (key x : Int) (o : OpV) : Bool := o.wr && (o.key == key && o.val == x)
def wrI (key x : Int) (h : List TxnV) : Int := match h.findIdx? (fun t => t.l.any (isWr key x)) with
 | some i => i
 | none => -1
theorem wrI_hit {key x : Int} {h : List TxnV} {k j : Nat} (hk : k < h.length) (hj : j < h[k].l.length) (hn : ∀ i, ∀ hi : i < k, (h[i]'(by omega)).l.any (isWr key x) = false) (hh : isWr key x h[k].l[j] = true) : wrI key x h = k := by
 unfold wrI
 have : h.findIdx? (fun t => t.l.any (isWr key x)) = some k := by
  rw [List.findIdx?_eq_some_iff_getElem]
  exact ⟨hk, List.any_eq_true.2 ⟨_, List.getElem_mem hj, hh⟩, fun i hi => by rw [hn i hi]; simp⟩
 rw [this]
theorem wrI_none {key x : Int} {h : List TxnV} (hn : ∀ i, ∀ hi : i < h.length, h[i].l.any (isWr key x) = false) : wrI key x h = -1 := by
 unfold wrI
 have : h.findIdx? (fun t => t.l.any (isWr key x)) = none := by
  rw [List.findIdx?_eq_none_iff]
  intro t ht
  obtain ⟨i, hi, rfl⟩ := List.getElem_of_mem ht
  exact hn i hi
 rw [this]
theorem wrI_nonneg {key x : Int} {h : List TxnV} : wrI key x h < 0 ↔ ∀ t ∈ h, ∀ o ∈ t.l, isWr key x o = false := by
 unfold wrI
 cases hf : h.findIdx? (fun t => t.l.any (isWr key x)) with
 | none =>
  rw [List.findIdx?_eq_none_iff] at hf
  simp only [Int.reduceNeg, Int.reduceLT, true_iff]
  intro t ht o ho
  have := List.any_eq_false.1 (hf t ht) o ho
  simpa using this
 | some i =>
  rw [List.findIdx?_eq_some_iff_getElem] at hf
  obtain ⟨hi, h1, _⟩ := hf
  constructor
  ·intro h2; simp only at h2; omega
  ·intro h2
   obtain ⟨o, ho, hw⟩ := List.any_eq_true.1 h1
   rw [h2 _ (List.getElem_mem hi) o ho] at hw
   cases hw
theorem writer_any (va : Value) (h : List TxnV) (key x : Int) (w : World) (hT : Txns w va h) :
  Calls Tryd.prog 50 #[va, .int .i64 key, .int .i64 x] w fun e w' => e = .returned (.int .i64 (wrI key x h)) ∧ Below w.heap.size w w' := by
 obtain ⟨ao, cap, rfl, hal⟩ := hT.form
 have HT := hid (fun wx (hx : Below w.heap.size w wx) => hT.below hx)
 have HHIT : Hid (∀ k j, ∀ hk : k < h.length, ∀ hj : j < h[k].l.length, (∀ i, ∀ hi : i < k, (h[i]'(by omega)).l.any (isWr key x) = false) → isWr key x h[k].l[j] = true → (k : Int) = wrI key x h) := hid (fun k j hk hj hn hh => (wrI_hit hk hj hn hh).symm)
 have HNONE : Hid ((∀ i, ∀ hi : i < h.length, h[i].l.any (isWr key x) = false) → (-1 : Int) = wrI key x h) := hid (fun hn => (wrI_none hn).symm)
 clear hT
 go_enter Tryd.func50, Tryd.ntmps50
 go_wp2_with fail
 go_loopw [7] (fun i wr => ∃ k : Nat, k ≤ h.length ∧ i = .int .i64 k ∧ (∀ i, ∀ _ : i < k, ∀ hi2 : i < h.length, h[i].l.any (isWr key x) = false) ∧ Below w.heap.size w wr) (fun i _ => h.length - (intOf i).toNat)
 case atStart => exact ⟨0, by omega, rfl, by omega, Below.refl _ _⟩
 case round =>
  obtain ⟨k, hk, rfl, hN, hb⟩ := hrel
  have HN := hid hN
  clear hN
  by_cases hlt : k < h.length
  ·have hki : (k : Int) < (h.length : Int) := by omega
   obtain ⟨g, o, hao, c0, c1, c2, c3⟩ := (HT.out _ hb).at hlt
   cases hao
   have HOP := hid (fun wx (hx : Below w.heap.size w wx) => (HT.out wx hx).ops hlt)
   have HAT := hid (fun wx (hx : Below w.heap.size w wx) => (HT.out wx hx).at hlt)
   have HHK := hid (fun j hj hh => HHIT.out k j hlt hj (fun i hi => HN.out i hi (by omega)) hh)
   have HLK : Hid (h[k].l.any (isWr key x) = false → ∀ i, ∀ _ : i < k + 1, ∀ hi2 : i < h.length, h[i].l.any (isWr key x) = false) := hid (fun hh i hi hi2 => by
    rcases Nat.lt_or_eq_of_le (Nat.le_of_lt_succ hi) with h1 | rfl
    ·exact HN.out i h1 hi2
    ·exact hh)
   obtain ⟨ai, capi, hv, hli⟩ := ((HT.out _ hb).ops hlt).form
   rw [hv] at HOP c3 HAT
   generalize h[k].l = l at *
   clear hv c0 c1 c2 c3 HHIT HNONE
   go_wp2_with fail
   go_loopw [8] (fun i wx => ∃ j : Nat, j ≤ l.length ∧ i = .int .i64 j ∧ ((l.take j).any (isWr key x) = false) ∧ Below w.heap.size w wx) (fun i _ => l.length - (intOf i).toNat)
   case atStart => exact ⟨0, by omega, rfl, rfl, hb⟩
   case round =>
    obtain ⟨j, hj, rfl, hA, hb2⟩ := hrel
    have HA := hid hA
    clear hA hb
    obtain ⟨_, _, hao, c0, c1, c2, c3⟩ := HAT.out _ hb2
    cases hao
    clear c0 c1 c2
    by_cases hltj : j < l.length
    ·have hkj : (j : Int) < (l.length : Int) := by omega
     obtain ⟨g2, o2, hao2, e0, e1, e2⟩ := (HOP.out _ hb2).at hltj
     cases hao2
     have HS : Hid ((l.take (j + 1)).any (isWr key x) = ((l.take j).any (isWr key x) || isWr key x l[j])) := hid (by rw [take_snoc l j hltj, List.any_append]; simp)
     have HH := hid (HHK.out j hltj)
     generalize l[j] = y at *
     obtain ⟨yw, yk, yv⟩ := y
     try simp only at e0 e1 e2
     have hb3 := hb2.alloc hb2.size (.cells #[.bool yw, .int .i64 yk, .int .i64 yv] 71)
     clear HHK
     cases yw with
     | false =>
      have H : Hid ((l.take (j + 1)).any (isWr key x) = false) := hid (by rw [HS.out, HA.out]; rfl)
      clear HS HH
      go_wp2_with fail
      go_roundw
      case rel => exact ⟨j + 1, by omega, by go_num, H.out, hb3⟩
      case measure => simp [intOf]; omega
     | true =>
      by_cases hyk : yk = key
      ·subst hyk
       by_cases hyv : yv = x
       ·have H := hid (HH.out (by subst hyv; unfold isWr; simp))
        subst hyv
        clear HS HH
        go_wp2_with fail
        go_ret
        exact ⟨ret_int H.out, hb3⟩
       ·have H : Hid ((l.take (j + 1)).any (isWr yk x) = false) := hid (by rw [HS.out, HA.out]; unfold isWr; simp [hyv])
        have hyv' : (yv == x) = false := by simpa using hyv
        clear HS HH hyv
        go_wp2_with fail
        go_roundw
        case rel => exact ⟨j + 1, by omega, by go_num, H.out, hb3⟩
        case measure => simp [intOf]; omega
      ·have H : Hid ((l.take (j + 1)).any (isWr key x) = false) := hid (by rw [HS.out, HA.out]; unfold isWr; simp [hyk])
       have hyk' : (yk == key) = false := by simpa using hyk
       clear HS HH hyk
       go_wp2_with fail
       go_roundw
       case rel => exact ⟨j + 1, by omega, by go_num, H.out, hb3⟩
       case measure => simp [intOf]; omega
    ·have hj2 : j = l.length := by omega
     subst hj2
     have H := hid (HLK.out (by have := HA.out; rwa [List.take_length] at this))
     go_wp2_with fail
     go_roundw
     case rel => exact ⟨k + 1, by omega, by go_num, H.out, hb2⟩
     case measure => simp [intOf]; omega
  ·have hkl : k = h.length := by omega
   subst hkl
   have H := hid (HNONE.out (fun i hi => HN.out i hi hi))
   clear HHIT HNONE
   go_wp2_with fail
   go_ret
   exact ⟨ret_int H.out, hb⟩
end

section
open Go.RowKit
def apartB (a t : TxnV) : Bool := (a.b != t.b && (a.b != t.c && (a.c != t.b && a.c != t.c))) && !(a.s == t.s && decide (t.b < a.c))
def opR (h : List TxnV) (o : OpV) : Bool := if o.wr then tmH o.val h == 1 else o.val == 0 || !decide (wrI o.key o.val h < 0)
def rowR (h : List TxnV) (k : Nat) (t : TxnV) : Bool := mayT t.s t.b t.c t.l && ((h.take k).all (fun a => apartB a t) && t.l.all (opR h))
def mayRef (h : List TxnV) : Bool := (List.range h.length).all fun k => match h[k]? with
 | some t => rowR h k t
 | none => true
theorem mayRef_no {h : List TxnV} {k : Nat} (hk : k < h.length) (hn : rowR h k h[k] = false) : mayRef h = false := by
 unfold mayRef
 rw [List.all_eq_false]
 exact ⟨k, List.mem_range.2 hk, by rw [List.getElem?_eq_getElem hk]; simp [hn]⟩
theorem mayRef_yes {h : List TxnV} (hn : ∀ k, ∀ hk : k < h.length, rowR h k h[k] = true) : mayRef h = true := by
 unfold mayRef
 rw [List.all_eq_true]
 intro k hk
 have := List.mem_range.1 hk
 rw [List.getElem?_eq_getElem this]; exact hn k this
theorem rowR_a {h : List TxnV} {k : Nat} {t : TxnV} (hn : mayT t.s t.b t.c t.l = false) : rowR h k t = false := by unfold rowR; rw [hn]; rfl
theorem rowR_b {h : List TxnV} {k : Nat} {t : TxnV} {j : Nat} (hj : j < k) (hk : k ≤ h.length) (hn : apartB (h[j]'(by omega)) t = false) : rowR h k t = false := by
 unfold rowR
 have : (h.take k).all (fun a => apartB a t) = false := List.all_eq_false.2 ⟨h[j]'(by omega), by rw [List.mem_take_iff_getElem]; exact ⟨j, by omega, rfl⟩, by simp [hn]⟩
 rw [this]; simp
theorem rowR_c {h : List TxnV} {k : Nat} {t : TxnV} {j : Nat} (hj : j < t.l.length) (hn : opR h t.l[j] = false) : rowR h k t = false := by
 unfold rowR
 have : t.l.all (opR h) = false := List.all_eq_false.2 ⟨t.l[j], List.getElem_mem hj, by simp [hn]⟩
 rw [this]; simp
theorem rmay_any (va : Value) (h : List TxnV) (w : World) (hT : Txns w va h) (hn : opsN h ≤ 100000) :
  Calls Tryd.prog 34 #[va] w fun e w' => e = .returned (.bool (mayRef h)) ∧ Below w.heap.size w w' := by
 obtain ⟨ao, cap, rfl, hal⟩ := hT.form
 have HT := hid (fun wx (hx : Below w.heap.size w wx) => hT.below hx)
 have HNO : Hid (∀ k, ∀ hk : k < h.length, rowR h k h[k] = false → false = mayRef h) := hid (fun k hk hh => (mayRef_no hk hh).symm)
 have HTM : Hid (∀ x wx, Below w.heap.size w wx → Calls Tryd.prog 49 #[.slice ao h.length cap, .int .i64 x] wx fun e w' => e = .returned (.int .i64 (tmH x h)) ∧ Below wx.heap.size wx w') := hid (fun x wx hx => times_any _ h x wx (hT.below hx) hn)
 have HWR : Hid (∀ key x wx, Below w.heap.size w wx → Calls Tryd.prog 50 #[.slice ao h.length cap, .int .i64 key, .int .i64 x] wx fun e w' => e = .returned (.int .i64 (wrI key x h)) ∧ Below wx.heap.size wx w') := hid (fun key x wx hx => writer_any _ h key x wx (hT.below hx))
 clear hT
 go_enter Tryd.func34, Tryd.ntmps34
 go_wp2_with fail
 go_loopw [3] (fun i wr => ∃ k : Nat, k ≤ h.length ∧ i = .int .i64 k ∧ (∀ j, ∀ _ : j < k, ∀ hj : j < h.length, rowR h j h[j] = true) ∧ Below w.heap.size w wr) (fun i _ => h.length - (intOf i).toNat)
 case atStart => exact ⟨0, by omega, rfl, by omega, Below.refl _ _⟩
 case round =>
  obtain ⟨k, hk, rfl, hN, hb⟩ := hrel
  have HN := hid hN
  clear hN
  by_cases hlt : k < h.length
  ·have hki : (k : Int) < (h.length : Int) := by omega
   obtain ⟨g, o, hao, c0, c1, c2, c3⟩ := (HT.out _ hb).at hlt
   cases hao
   have HOP := hid (fun wx (hx : Below w.heap.size w wx) => (HT.out wx hx).ops hlt)
   have HAT := hid (fun wx (hx : Below w.heap.size w wx) => (HT.out wx hx).at hlt)
   have HAJ := hid (fun wx (hx : Below w.heap.size w wx) j (hj : j < h.length) => (HT.out wx hx).at hj)
   have HNK := hid (HNO.out k hlt)
   have HLK : Hid (rowR h k h[k] = true → ∀ i, ∀ _ : i < k + 1, ∀ hi2 : i < h.length, rowR h i h[i] = true) := hid (fun hh i hi hi2 => by
    rcases Nat.lt_or_eq_of_le (Nat.le_of_lt_succ hi) with h1 | rfl
    ·exact HN.out i h1 hi2
    ·exact hh)
   have HJV : Hid (∀ wx, Below w.heap.size w wx → ∀ j, ∀ hj : j < h.length, ∃ a' m' c', (h[j]).v = .slice a' m' c') := hid (fun wx hx j hj => by
    obtain ⟨a', c', hv', _⟩ := ((HT.out wx hx).ops hj).form
    exact ⟨a', _, c', hv'⟩)
   generalize ht : h[k] = t at *
   have HTK := hid ht
   clear ht
   obtain ⟨s, b, c, v, l⟩ := t
   simp only at c0 c1 c2 c3 HOP HAT
   obtain ⟨ai, capi, rfl, hli⟩ := (HOP.out _ hb).form
   have CM := hid (maytxn_any s b c _ l wr (HOP.out _ hb))
   clear HN
   cases hm : mayT s b c l
   ·have H := hid (HNK.out (rowR_a hm))
    rw [hm] at CM
    clear hm HNK HLK HNO
    go_wp2_with fail
    refine (CM.out).mono ?_
    rintro e w1 ⟨rfl, hb1⟩
    have hb2 := below_then hb hb1
    go_wp2_with fail
    go_ret
    exact ⟨ret_b H.out, hb2⟩
   rw [hm] at CM
   have HM := hid hm
   clear hm
   go_wp2_with fail
   refine (CM.out).mono ?_
   rintro e w1 ⟨rfl, hb1⟩
   have hb2 := below_then hb hb1
   clear CM hb hb1 c0 c1 c2 c3
   go_wp2_with fail
   go_loopw [4] (fun i wx => ∃ j : Nat, j ≤ k ∧ i = .int .i64 j ∧ ((h.take j).all (fun a => apartB a ⟨s, b, c, .slice ai l.length capi, l⟩) = true) ∧ Below w.heap.size w wx) (fun i _ => k - (intOf i).toNat)
   case atStart => exact ⟨0, by omega, rfl, rfl, hb2⟩
   case round =>
    obtain ⟨j, hj, rfl, hA, hb3⟩ := hrel
    have HA := hid hA
    clear hA hb2
    by_cases hltj : j < k
    ·have hkj : (j : Int) < (k : Int) := by omega
     have hjl : j < h.length := by omega
     have hjl' : (j : Int) < (h.length : Int) := by omega
     obtain ⟨_, _, hao, c0, c1, c2, c3⟩ := HAJ.out _ hb3 j hjl
     cases hao
     have HS : Hid ((h.take (j + 1)).all (fun a => apartB a ⟨s, b, c, .slice ai l.length capi, l⟩) = ((h.take j).all (fun a => apartB a ⟨s, b, c, .slice ai l.length capi, l⟩) && apartB h[j] ⟨s, b, c, .slice ai l.length capi, l⟩)) := hid (by rw [List.take_succ_eq_append_getElem hjl, List.all_append]; simp)
     have HB := hid (fun hh => HNK.out (rowR_b hltj hk hh))
     obtain ⟨a1, m1, cap1, hv1⟩ := HJV.out _ hb3 j hjl
     rw [hv1] at c3
     generalize h[j] = u at *
     obtain ⟨us, ub, uc, uv, ul⟩ := u
     simp only at c0 c1 c2 hv1
     subst hv1
     have hb4 := hb3.alloc hb3.size (.cells #[.int .i64 us, .int .i64 ub, .int .i64 uc, .slice a1 m1 cap1] 76)
     have hb5 := hb4.alloc hb4.size (.cells #[.int .i64 s, .int .i64 b, .int .i64 c, .slice ai l.length capi] 76)
     obtain ⟨_, _, hao, e0, e1, e2, e3⟩ := HAT.out _ hb4
     cases hao
     have HAP : Hid (apartB ⟨us, ub, uc, .slice a1 m1 cap1, ul⟩ ⟨s, b, c, .slice ai l.length capi, l⟩ = ((ub != b && (ub != c && (uc != b && uc != c))) && !(us == s && decide (b < uc)))) := hid rfl
     generalize apartB ⟨us, ub, uc, .slice a1 m1 cap1, ul⟩ ⟨s, b, c, .slice ai l.length capi, l⟩ = q at *
     cases b1 : ub == b
     case true =>
      have H := hid (HB.out (by rw [HAP.out]; simp [bne, b1]))
      clear HLK HNO HNK HB HAP HS
      go_wp2_with fail
      go_ret
      exact ⟨ret_b H.out, hb5⟩
     cases b2 : ub == c
     case true =>
      have H := hid (HB.out (by rw [HAP.out]; simp [bne, b1, b2]))
      clear HLK HNO HNK HB HAP HS
      go_wp2_with fail
      go_ret
      exact ⟨ret_b H.out, hb5⟩
     cases b3 : uc == b
     case true =>
      have H := hid (HB.out (by rw [HAP.out]; simp [bne, b1, b2, b3]))
      clear HLK HNO HNK HB HAP HS
      go_wp2_with fail
      go_ret
      exact ⟨ret_b H.out, hb5⟩
     cases b4 : uc == c
     case true =>
      have H := hid (HB.out (by rw [HAP.out]; simp [bne, b1, b2, b3, b4]))
      clear HLK HNO HNK HB HAP HS
      go_wp2_with fail
      go_ret
      exact ⟨ret_b H.out, hb5⟩
     cases b5 : us == s
     case false =>
      have H : Hid ((h.take (j + 1)).all (fun a => apartB a ⟨s, b, c, .slice ai l.length capi, l⟩) = true) := hid (by rw [HS.out, HA.out, HAP.out]; simp [bne, b1, b2, b3, b4, b5])
      clear HB HAP HS
      go_wp2_with fail
      go_roundw
      case rel => exact ⟨j + 1, by omega, by go_num, H.out, hb5⟩
      case measure => simp [intOf]; omega
     by_cases d6 : b < uc
     ·have H := hid (HB.out (by rw [HAP.out]; simp [bne, b1, b2, b3, b4, b5, d6]))
      clear HLK HNO HNK HB HAP HS
      go_wp2_with fail
      go_ret
      exact ⟨ret_b H.out, hb5⟩
     ·have H : Hid ((h.take (j + 1)).all (fun a => apartB a ⟨s, b, c, .slice ai l.length capi, l⟩) = true) := hid (by rw [HS.out, HA.out, HAP.out]; simp [bne, b1, b2, b3, b4, b5, d6])
      clear HB HAP HS
      go_wp2_with fail
      go_roundw
      case rel => exact ⟨j + 1, by omega, by go_num, H.out, hb5⟩
      case measure => simp [intOf]; omega
    ·have hjk : j = k := by omega
     subst hjk
     have HRO : Hid (rowR h j ⟨s, b, c, .slice ai l.length capi, l⟩ = l.all (opR h)) := hid (by unfold rowR; rw [HM.out, HA.out]; rfl)
     have HOO := hid (fun i hi hh => HNK.out (rowR_c (j := i) hi hh))
     clear HNK HM HA HJV HAJ
     go_wp2_with fail
     go_loopw [7] (fun i wx => ∃ m : Nat, m ≤ l.length ∧ i = .int .i64 m ∧ (l.take m).all (opR h) = true ∧ Below w.heap.size w wx) (fun i _ => l.length - (intOf i).toNat)
     case atStart => exact ⟨0, by omega, rfl, rfl, hb3⟩
     case round =>
      obtain ⟨m, hm, rfl, hA, hb4⟩ := hrel
      have HA := hid hA
      clear hA hb3
      obtain ⟨_, _, hao, c0, c1, c2, c3⟩ := HAT.out _ hb4
      cases hao
      clear c0 c1 c2
      by_cases hltm : m < l.length
      ·have hkm : (m : Int) < (l.length : Int) := by omega
       obtain ⟨g2, o2, hao2, e0, e1, e2⟩ := (HOP.out _ hb4).at hltm
       cases hao2
       have HS : Hid ((l.take (m + 1)).all (opR h) = ((l.take m).all (opR h) && opR h l[m])) := hid (by rw [take_snoc l m hltm, List.all_append]; simp)
       have HB := hid (HOO.out m hltm)
       generalize l[m] = y at *
       obtain ⟨yw, yk, yv⟩ := y
       try simp only at e0 e1 e2
       have hb5 := hb4.alloc hb4.size (.cells #[.bool yw, .int .i64 yk, .int .i64 yv] 71)
       have HOR : Hid (opR h ⟨yw, yk, yv⟩ = if yw then tmH yv h == 1 else yv == 0 || !decide (wrI yk yv h < 0)) := hid rfl
       generalize opR h ⟨yw, yk, yv⟩ = q at *
       cases yw with
       | true =>
        simp only [if_true] at HOR
        have CT := hid (HTM.out yv _ hb5)
        generalize tmH yv h = n at *
        cases hn1 : n == 1
        ·have H := hid (HB.out (by rw [HOR.out, hn1]))
         have hn2 : ((n : Int) != 1) = true := by simp at hn1 ⊢; omega
         clear HLK HNO HOO HB HOR HS hn1
         go_wp2_with fail
         refine (CT.out).mono ?_
         rintro e w6 ⟨rfl, hb6⟩
         have hb7 := below_then hb5 hb6
         go_wp2_with fail
         go_ret
         exact ⟨ret_b H.out, hb7⟩
        ·have H : Hid ((l.take (m + 1)).all (opR h) = true) := hid (by rw [HS.out, HA.out, HOR.out, hn1]; rfl)
         obtain rfl : n = 1 := by simpa using hn1
         change Hid (Calls _ _ _ _ fun e w' => e = .returned (.int .i64 1) ∧ _) at CT
         clear HB HOR HS hn1
         obtain ⟨x0, x1, x2⟩ := opBlock wr (.bool true) (.int .i64 yk) (.int .i64 yv) 71
         go_wp2_with fail
         refine (CT.out).mono ?_
         rintro e w6 ⟨rfl, hb6⟩
         have hb7 := below_then hb5 hb6
         have z0 := (hb6.cell (p := ⟨wr.heap.size, 0, none⟩) (block_lt x0)).trans x0
         have z1 := (hb6.cell (p := ⟨wr.heap.size, 1, none⟩) (block_lt x1)).trans x1
         have z2 := (hb6.cell (p := ⟨wr.heap.size, 2, none⟩) (block_lt x2)).trans x2
         clear x0 x1 x2
         go_wp2_with fail
         go_roundw
         case rel => exact ⟨m + 1, by omega, by go_num, H.out, hb7⟩
         case measure => simp [intOf]; omega
       | false =>
        simp only [Bool.false_eq_true, if_false] at HOR
        cases hz : yv == 0
        ·have hz2 : (yv != 0) = true := by simp [bne, hz]
         have CW := hid (HWR.out yk yv _ hb5)
         generalize wrI yk yv h = n at *
         by_cases hneg : n < 0
         ·have H := hid (HB.out (by rw [HOR.out, hz]; simp [hneg]))
          clear HLK HNO HOO HB HOR HS
          go_wp2_with fail
          refine (CW.out).mono ?_
          rintro e w6 ⟨rfl, hb6⟩
          have hb7 := below_then hb5 hb6
          go_wp2_with fail
          go_ret
          exact ⟨ret_b H.out, hb7⟩
         ·have H : Hid ((l.take (m + 1)).all (opR h) = true) := hid (by rw [HS.out, HA.out, HOR.out, hz]; simp [hneg])
          clear HB HOR HS
          go_wp2_with fail
          refine (CW.out).mono ?_
          rintro e w6 ⟨rfl, hb6⟩
          have hb7 := below_then hb5 hb6
          go_wp2_with fail
          go_roundw
          case rel => exact ⟨m + 1, by omega, by go_num, H.out, hb7⟩
          case measure => simp [intOf]; omega
        ·have hz2 : (yv != 0) = false := by simp [bne, hz]
         have H : Hid ((l.take (m + 1)).all (opR h) = true) := hid (by rw [HS.out, HA.out, HOR.out, hz]; rfl)
         clear HB HOR HS
         go_wp2_with fail
         go_roundw
         case rel => exact ⟨m + 1, by omega, by go_num, H.out, hb5⟩
         case measure => simp [intOf]; omega
      ·have hm2 : m = l.length := by omega
       subst hm2
       have H := hid (HLK.out (by rw [HRO.out]; have := HA.out; rwa [List.take_length] at this))
       go_wp2_with fail
       go_roundw
       case rel => exact ⟨j + 1, by omega, by go_num, H.out, hb4⟩
       case measure => simp [intOf]; omega
  ·have hkl : k = h.length := by omega
   subst hkl
   have H : Hid (true = mayRef h) := hid (mayRef_yes (fun k hk => HN.out k hk hk)).symm
   clear HNO HTM HWR
   go_wp2_with fail
   go_ret
   exact ⟨ret_b H.out, hb⟩
end

end Go.Proofs.YtmcicfdnmfbimaaDoor
