/- Walks and plain facts that the proof of the statement WholeEnough uses, joined: Law Slc SetM SetA OpZ Bld JoinZ TabN SetN SetB Tab LevA LevB TabK TabW TokM TokA TokB TokC SetC SetD SetE TokD TokE TabX ArgZ TxZ ArgT LevC LevE TblA VecA RelM SetF SetG. Conditions: each theorem's own. -/
import Derived.Test.YtnhkjehfmbfmmaaGreatDoorRows
import Derived.Test.YtnhkjehfmbfmmaaGreatDoorProg
import Derived.Test.YtnhkjehfmbfmmaaGreatDoorShelf
import Derived.WalkKit
import Derived.ProofKit
import Derived.OpenShut
import Derived.Deep.DeepHandedRow
import Derived.Lib.LaidTab
import Derived.Lib.Hide
import Derived.WalkSpells
import Derived.WalkSmall
import Derived.Laws.AppendOwnNone
import Derived.Laws.Bits64b
import Derived.WalkLawsBesides
import Derived.Lib.Builder
import Derived.Lib.AppendStr
import Derived.Lib.ItoaNum
import Derived.Lib.ItoaLen
import Derived.Laws.IdiomStrings
import Derived.Laws.Concat
import Derived.IntWalk
import Derived.Stop.LaidErr
import Derived.Laws.Wrap64
import Derived.Laws.Bits128
import Derived.ChangeSame
import Derived.Lib.SplitLaws
import Derived.Deep.QuietTactic
import Derived.BigQuiet
import Derived.Deep.Slices
import Derived.Deep.Strs
import Derived.Lib.SmallJoins
import Derived.Laws.Tables
import Derived.Laws.CopyOwn
namespace Go.Proofs.YtnhkjehfmbfmmaaGreatDoor
set_option maxHeartbeats 32000000
set_option maxRecDepth 100000
set_option linter.unusedSimpArgs false
set_option linter.unusedVariables false
open Lib (hid)
section
open Go.ChangeShapes Go.WideShapes Go.ChangeAt Go.RowKit
theorem own : ownKnob Tryz.prog.godebug = none := by kernel_rfl
theorem laidOut : laidOutB Tryz.prog = true := by kernel_rfl
theorem trodAll_stays {H : Type} {enc : TypeId × Value → H} {W W' : World} (hb : Below W.heap.size W W') :
  ∀ (ts : List TypeId) (vs : List Value) (ds : List (DataW H)) (ps : List MemPlace), (∀ t ∈ ts, Tryz.prog.readableRec t = true ∧ t < Tryz.prog.types.size) →
   DataW.TrodAll enc Tryz.prog W 0 (fun _ => true) true ts vs ds ps → (∀ x ∈ ps, x.block < W.heap.size) →
   DataW.TrodAll enc Tryz.prog W' 0 (fun b => decide (b < W.heap.size)) true ts vs ds ps
 | [], vs, ds, ps, _, h, _ => by
  obtain ⟨rfl, rfl, rfl⟩ := trodAll_nil h
  exact trodAll_mk0
 | t :: ts, vs, ds, ps, hr, h, hlt => by
  obtain ⟨v, vs', d, ds', p, q, rfl, rfl, rfl, hd, hrest⟩ := trodAll_cons h
  have h1 := hr t List.mem_cons_self
  exact trodAll_cons_mk (Below.trod laidOut h1.1 h1.2 hd hb fun x hx => hlt x (List.mem_append_left _ hx))
   (trodAll_stays hb ts vs' ds' q (fun u hu => hr u (List.mem_cons_of_mem _ hu)) hrest fun x hx => hlt x (List.mem_append_right _ hx))
theorem law_post {H : Type} {enc : TypeId × Value → H} {s : ChangeSpec} {f : Func} {W W' : World} {args : Array Value} {ds gs : List (DataW H)} {before : List MemPlace}
  (hW : DataW.Whole enc Tryz.prog f.params.toList s.vars false W args.toList ds gs before) (hv : s.vars = [])
  (hr : ∀ t ∈ f.params.toList, Tryz.prog.readableRec t = true ∧ t < Tryz.prog.types.size) (hb : Below W.heap.size W W')
  (hres : f.resultTypes = #[4]) (hfn : (s.fn H (ds ++ [])).results = [.lit (.bool true)]) (hfa : (s.fn H (ds ++ [])).args = ds) (hfv : (s.fn H (ds ++ [])).vars = []) :
  s.post enc Tryz.prog f false true false false W args (.bool true) W' := by
 have hW' := hW
 obtain ⟨p, q, hA, hV, hpq, hfz, hnd⟩ := hW
 rw [hv] at hV
 obtain ⟨rfl, rfl⟩ := trodVars_none hV
 have hlt : ∀ x ∈ p, x.block < W.heap.size := fun x hx => by
  have := hW'.lt x (by rw [hpq]; exact List.mem_append_left _ hx)
  simpa using this
 refine ⟨ds, [], before, [], p, [], hW', ?_, ?_, ?_, hb.frame _, fun h => by cases h⟩
 ·rw [hfn, hres]
  exact trodAll_cons_mk (shut_bool Tryz.underlying4 _) trodAll_mk0
 ·rw [hfa]
  exact trodAll_stays hb _ _ _ _ hr hA hlt
 ·rw [hfv, hv]; exact rfl
end

section
open Go.RowKit
def Row (w : World) (v : Value) (n size : Nat) (cs : List Value) : Prop :=
 cs.length = n * size ∧ ∃ ao cap, v = .slice ao n cap ∧ (n ≤ cap ∧ cap ≤ maxLen) ∧ (ao = none → n = 0 ∧ cap = 0) ∧ (0 < n → ∃ b off, ao = some ⟨b, off, none⟩ ∧ ∀ i, i < n * size → w.cell? ⟨b, off + i, none⟩ = cs[i]?)
def Ints (w : World) (v : Value) (xs : List Int) : Prop := Row w v xs.length 1 (xs.map (Value.int .i64))
theorem block_lt {w : World} {a : Addr} {v : Value} (h : w.cell? a = some v) : a.block < w.heap.size := by
 by_cases h0 : a.block < w.heap.size
 ·exact h0
 ·simp [World.cell?, Array.getElem?_eq_none (Nat.le_of_not_lt h0)] at h
theorem Row.below {w w' : World} {v : Value} {n size : Nat} {cs : List Value} (h : Row w v n size cs) (hb : Below w.heap.size w w') : Row w' v n size cs := by
 obtain ⟨hl, ao, cap, rfl, hm, hno, hc⟩ := h
 refine ⟨hl, ao, cap, rfl, hm, hno, fun hn => ?_⟩
 obtain ⟨b, off, rfl, hcell⟩ := hc hn
 refine ⟨b, off, rfl, fun i hi => ?_⟩
 have h1 := hcell i hi
 have h2 : cs[i]? = some cs[i] := List.getElem?_eq_getElem (by omega)
 rw [h2] at h1
 have hlt := block_lt h1
 rw [hb.cell (p := ⟨b, off + i, none⟩) hlt, h1, h2]
theorem Ints.below {w w' : World} {v : Value} {xs : List Int} (h : Ints w v xs) (hb : Below w.heap.size w w') : Ints w' v xs := Row.below h hb
theorem Row.drewN {w : World} {v : Value} {n size : Nat} {cs : List Value} (h : Row w v n size cs) (k : Nat) : Row (w.drewN k) v n size cs := h.below (below_drewN (Below.refl _ _) k)
theorem Row.of_owns {w : World} {base : Nat} {e : TypeId} {size : Nat} {v : Value} {n : Nat} {cs : List Value} (h : w.ownsRow base e size v n cs) : Row w v n size cs := by
 obtain ⟨hl, h⟩ := h
 refine ⟨hl, ?_⟩
 rcases h with ⟨rfl, rfl⟩ | ⟨g, cap, cur, rfl, hb, hh, hn, hm, hs, ht⟩
 ·exact ⟨none, 0, rfl, by simp, fun _ => ⟨rfl, rfl⟩, fun h => by omega⟩
 ·refine ⟨some ⟨g, 0, none⟩, cap, rfl, by omega, fun h => (by cases h), fun _ => ⟨g, 0, rfl, fun i hi => ?_⟩⟩
  have hown : w.ownsRow base e size (.slice (some ⟨g, 0, none⟩) n cap) n cs := ⟨hl, .inr ⟨g, cap, cur, rfl, hb, hh, hn, hm, hs, ht⟩⟩
  have := hown.cellAt i hi
  simpa using this
theorem Ints.of_owns {w : World} {base : Nat} {e : TypeId} {v : Value} {n : Nat} {xs : List Int} (h : w.ownsRow base e 1 v n (xs.map (Value.int .i64))) : Ints w v xs := by
 have hr := Row.of_owns h
 have hn : n = xs.length := by have := h.1; simp at this; omega
 subst hn; exact hr
theorem Ints.form {w : World} {v : Value} {xs : List Int} (h : Ints w v xs) : ∃ ao cap, v = .slice ao xs.length cap ∧ xs.length ≤ 9223372036854775807 := by
 obtain ⟨_, ao, cap, rfl, hm, _, _⟩ := h
 exact ⟨ao, cap, rfl, Nat.le_trans hm.1 hm.2⟩
theorem Ints.at {w : World} {ao : Option Addr} {n cap : Nat} {xs : List Int} (h : Ints w (.slice ao n cap) xs) {k : Nat} (hk : k < xs.length) :
  ∃ b off, ao = some ⟨b, off, none⟩ ∧ w.cell? ⟨b, off + k, none⟩ = some (.int .i64 xs[k]) := by
 obtain ⟨_, ao', cap', he, hm, _, hc⟩ := h
 obtain ⟨rfl, _, _⟩ : ao = ao' ∧ n = xs.length ∧ cap = cap' := by simpa using he
 obtain ⟨b, off, rfl, hcell⟩ := hc (by omega)
 refine ⟨b, off, rfl, ?_⟩
 rw [hcell k (by omega)]
 simp [List.getElem?_eq_getElem hk]
theorem owns_below {w w' : World} {base : Nat} {e : TypeId} {size : Nat} {v : Value} {n : Nat} {cs : List Value} (h : w.ownsRow base e size v n cs) (hb : Below w.heap.size w w') : w'.ownsRow base e size v n cs :=
 h.kept (row := none) ⟨hb.os, hb.tape, hb.output, hb.size, fun k hk _ => hb.block k hk⟩ (by cases v.ownBlock <;> simp)
theorem wpList_append_row {P : Program} {w : World} {ops : Array Oper} {rest : List Oper} {o : Oper} {a : Act} {Q : Exit → Act → World → Prop} (hgd : o.guard = none) (s x : Operand) (t : TypeId)
  (ho : o.op = .call { callee := .builtin .append, args := #[s, x], argTypes := #[t, t] })
  (base : Nat) (e : TypeId) (i : TypeInfo) (z : Value) (size bytes : Nat) (ht : P.underlying t = some (.slice e)) (hi : P.info? e = some i) (hz : i.zero = some z)
  (hsize : i.size = size) (hby : i.bytes = bytes) (hzs : z.cells.size = size) (hsz : 0 < size)
  (v : Value) (n : Nat) (xs : List Value) (hs : a.eval s = v) (hown : w.ownsRow base e size v n xs)
  (sv : Value) (m : Nat) (news : List Value) (hx : a.eval x = sv) (hsrc : Row w sv m size news) (h1 : ∀ u ∈ news, u.oneCell' = true)
  (h63 : n + m ≤ maxLen) (hbytes : (n + m) * bytes ≤ 140737488355328) (hbase : base ≤ w.heap.size)
  (h : ∀ v' w', w'.ownsRow base e size v' (n + m) (xs ++ news) → w.grownBy w' v.ownBlock → wpList P ops Q rest (a.put o.dst v') w') : wpList P ops Q (o :: rest) a w := by
 obtain ⟨hl, ao, cap, rfl, _, hno, hc⟩ := hsrc
 cases ao with
 | none =>
  obtain ⟨rfl, rfl⟩ := hno rfl
  have hnews : news = [] := List.eq_nil_of_length_eq_zero (by simpa using hl)
  subst hnews
  exact wpList_append_own_none hgd s x t ho base e i size ht hi v n xs hs hown hx (by simpa using h v w (by simpa using hown) (World.grownBy.refl _ _))
 | some ad =>
  refine wpList_append_own w hgd s x t ho base e i z size bytes ht hi hz hsize hby hzs hsz v n xs hs hown ad m cap news hx hl ?_ h1 h63 hbytes hbase (fun v' w' h2 h3 _ => h v' w' h2 h3)
  intro j u hu
  have hj : j < news.length := (List.getElem?_eq_some_iff.1 hu).1
  have hm : 0 < m := by
   rcases Nat.eq_zero_or_pos m with h0 | h0
   ·subst h0; rw [Nat.zero_mul] at hl; omega
   ·exact h0
  obtain ⟨b, off, he, hcell⟩ := hc hm
  obtain rfl := Option.some.inj he
  rw [Addr.add_lit, hcell j (by omega), hu]
end

section
def bt (n : Int) : Nat := if 0 ≤ n ∧ n < 64 then 2 ^ n.toNat else 0
def hasB (s : Nat) (n : Int) : Bool := decide (0 ≤ n ∧ n < 64) && s.testBit n.toNat
def IsSet (s : Nat) : Prop := s < 18446744073709551616
def withS (s : Nat) (n : Int) : Nat := s ||| bt n
def woS (s : Nat) (n : Int) : Nat := s ^^^ (s &&& bt n)
theorem isSet_iff (s : Nat) : IsSet s ↔ s < 2 ^ 64 := by unfold IsSet; omega
theorem isSet_of_bits {s : Nat} (h : ∀ i, 64 ≤ i → s.testBit i = false) : IsSet s := by
 rw [isSet_iff]; exact Nat.lt_pow_two_of_testBit s h
theorem IsSet.high {s : Nat} (h : IsSet s) {i : Nat} (hi : 64 ≤ i) : s.testBit i = false := by
 rw [isSet_iff] at h
 exact Nat.testBit_lt_two_pow (Nat.lt_of_lt_of_le h (Nat.pow_le_pow_right (by omega) hi))
theorem set_ext {s t : Nat} (hs : IsSet s) (ht : IsSet t) (h : ∀ i, i < 64 → s.testBit i = t.testBit i) : s = t := by
 apply Nat.eq_of_testBit_eq
 intro i
 by_cases hi : i < 64
 ·exact h i hi
 ·rw [hs.high (by omega), ht.high (by omega)]
theorem testBit_bt (n : Int) (i : Nat) : (bt n).testBit i = (decide (0 ≤ n ∧ n < 64) && decide (n.toNat = i)) := by
 unfold bt
 split
 ·rename_i h; rw [Nat.testBit_two_pow]; simp [h]
 ·rename_i h; simp [h]
theorem isSet_bt (n : Int) : IsSet (bt n) := by
 apply isSet_of_bits
 intro i hi
 rw [testBit_bt]
 by_cases h : 0 ≤ n ∧ n < 64
 ·simp [h]; omega
 ·simp [h]
theorem isSet_and {s t : Nat} (hs : IsSet s) : IsSet (s &&& t) := by
 apply isSet_of_bits
 intro i hi
 simp [hs.high hi]
theorem isSet_or {s t : Nat} (hs : IsSet s) (ht : IsSet t) : IsSet (s ||| t) := by
 apply isSet_of_bits
 intro i hi
 simp [hs.high hi, ht.high hi]
theorem isSet_xor {s t : Nat} (hs : IsSet s) (ht : IsSet t) : IsSet (s ^^^ t) := by
 apply isSet_of_bits
 intro i hi
 simp [hs.high hi, ht.high hi]
theorem isSet_withS {s : Nat} {n : Int} (hs : IsSet s) : IsSet (withS s n) := isSet_or hs (isSet_bt n)
theorem isSet_woS {s : Nat} {n : Int} (hs : IsSet s) : IsSet (woS s n) := isSet_xor hs (isSet_and hs)
theorem testBit_withS (s : Nat) (n : Int) (i : Nat) : (withS s n).testBit i = (s.testBit i || (decide (0 ≤ n ∧ n < 64) && decide (n.toNat = i))) := by
 simp only [withS, Nat.testBit_or, testBit_bt]
theorem testBit_woS (s : Nat) (n : Int) (i : Nat) : (woS s n).testBit i = (s.testBit i && !(decide (0 ≤ n ∧ n < 64) && decide (n.toNat = i))) := by
 simp only [woS, Nat.testBit_xor, Nat.testBit_and, testBit_bt]
 cases s.testBit i <;> simp
theorem and_bt_ne (s : Nat) (n : Int) : (s &&& bt n != 0) = hasB s n := by
 unfold hasB
 by_cases h : 0 ≤ n ∧ n < 64
 ·have e : s &&& bt n = if s.testBit n.toNat then 2 ^ n.toNat else 0 := by
   apply Nat.eq_of_testBit_eq
   intro i
   rw [Nat.testBit_and, testBit_bt]
   by_cases hb : s.testBit n.toNat = true
   ·simp only [h, hb, if_true, Nat.testBit_two_pow]
    by_cases e : n.toNat = i
    ·subst e; simp [hb]
    ·simp [e]
   ·simp only [h, hb]
    by_cases e : n.toNat = i
    ·subst e; simp [hb]
    ·simp [e]
  rw [e]
  cases hb : s.testBit n.toNat
  ·simp
  ·have : 0 < 2 ^ n.toNat := Nat.two_pow_pos _
   simp [h]
 ·have : bt n = 0 := by unfold bt; simp [h]
  rw [this]; simp [h]
theorem bits_has (s : Nat) (n : Int) (hs : IsSet s) : (Go.bits .and .u64 (s : Int) ((bt n : Nat) : Int) != 0) = hasB s n := by
 rw [Go.bits_and_u64_nat s (bt n) hs (isSet_bt n), ← and_bt_ne]
 rw [Bool.eq_iff_iff]; simp
theorem bits_with (s : Nat) (n : Int) (hs : IsSet s) : Go.bits .or .u64 (s : Int) ((bt n : Nat) : Int) = ((withS s n : Nat) : Int) :=
 Go.bits_or_u64_nat s (bt n) hs (isSet_bt n)
theorem bits_andNot_u64_nat (a b : Nat) (ha : a < 18446744073709551616) (hb : b < 18446744073709551616) :
  Go.bits .andNot .u64 (a : Int) (b : Int) = ((a ^^^ (a &&& b) : Nat) : Int) := by
 have hx : a ^^^ (a &&& b) < 2 ^ 64 := Nat.xor_lt_two_pow (by omega) (Nat.and_lt_two_pow _ (by omega))
 have h1 : (BitVec.ofInt 64 (a : Int)).toNat = a := by
  rw [BitVec.ofInt_natCast, BitVec.toNat_ofNat]; exact Nat.mod_eq_of_lt (by omega)
 have h2 : (BitVec.ofInt 64 (b : Int)).toNat = b := by
  rw [BitVec.ofInt_natCast, BitVec.toNat_ofNat]; exact Nat.mod_eq_of_lt (by omega)
 show IntKind.u64.wrap ((BitVec.ofInt 64 (a : Int) &&& ~~~ (BitVec.ofInt 64 (b : Int))).toNat : Int) = _
 have e : ∀ x y : BitVec 64, x &&& ~~~ y = x ^^^ (x &&& y) := by
  intro x y; ext i hi; simp; cases x[i] <;> cases y[i] <;> rfl
 rw [e, BitVec.toNat_xor, BitVec.toNat_and, h1, h2, IntKind.wrap_u64]
 omega
theorem bits_wo (s : Nat) (n : Int) (hs : IsSet s) : Go.bits .andNot .u64 (s : Int) ((bt n : Nat) : Int) = ((woS s n : Nat) : Int) :=
 bits_andNot_u64_nat s (bt n) hs (isSet_bt n)
theorem wrap_two_pow (n : Int) (h0 : 0 ≤ n) (h1 : n < 64) : IntKind.u64.wrap (2 ^ n.toNat) = ((bt n : Nat) : Int) := by
 have h := isSet_bt n
 unfold bt IsSet at *
 rw [if_pos ⟨h0, h1⟩] at *
 rw [IntKind.wrap_u64]
 have : ((2 : Int) ^ n.toNat) = ((2 ^ n.toNat : Nat) : Int) := by simp
 rw [this]; generalize 2 ^ n.toNat = k at *; omega
theorem bt_out (n : Int) (h : ¬ (0 ≤ n ∧ n < 64)) : (0 : Int) = ((bt n : Nat) : Int) := by unfold bt; simp [h]
end

section
open Go.RowKit
theorem ret_i {k : IntKind} {a b : Int} (h : a = b) : Ending.returned (.int k a) = .returned (.int k b) := by rw [h]
theorem ret_b {a b : Bool} (h : a = b) : Ending.returned (.bool a) = .returned (.bool b) := by rw [h]
theorem bit_in (n : Int) (w : World) (h0 : 0 ≤ n) (h1 : n < 64) :
  Calls Tryz.prog 146 #[.int .i64 n] w fun e w' => e = .returned (.int .u64 ((bt n : Nat) : Int)) ∧ w = w' := by
 go_enter Tryz.func146, Tryz.ntmps146
 go_wp2
 go_ret
 exact ⟨ret_i (wrap_two_pow n h0 h1), rfl⟩
theorem bit_out (n : Int) (w : World) (h : ¬ (0 ≤ n ∧ n < 64)) :
  Calls Tryz.prog 146 #[.int .i64 n] w fun e w' => e = .returned (.int .u64 ((bt n : Nat) : Int)) ∧ w = w' := by
 have e := bt_out n h
 have H := hid e; clear e
 by_cases h0 : n < 0
 all_goals
  go_enter Tryz.func146, Tryz.ntmps146
  go_wp2
  go_ret
  exact ⟨ret_i H.out, rfl⟩
theorem bit_any (n : Int) (w : World) :
  Calls Tryz.prog 146 #[.int .i64 n] w fun e w' => e = .returned (.int .u64 ((bt n : Nat) : Int)) ∧ w = w' := by
 by_cases h : 0 ≤ n ∧ n < 64
 ·exact bit_in n w h.1 h.2
 ·exact bit_out n w h
theorem has_any (s : Nat) (n : Int) (w : World) (hs : IsSet s) :
  Calls Tryz.prog 173 #[.int .u64 (s : Int), .int .i64 n] w fun e w' => e = .returned (.bool (hasB s n)) ∧ w = w' := by
 go_enter Tryz.func173, Tryz.ntmps173
 go_wp2_with (go_at_call 146; refine (bit_any _ _).mono ?_; rintro e w' ⟨rfl, rfl⟩)
 go_ret
 exact ⟨ret_b (bits_has s n hs), rfl⟩
theorem with_any (s : Nat) (n : Int) (w : World) (hs : IsSet s) :
  Calls Tryz.prog 106 #[.int .u64 (s : Int), .int .i64 n] w fun e w' => e = .returned (.int .u64 ((withS s n : Nat) : Int)) ∧ w = w' := by
 go_enter Tryz.func106, Tryz.ntmps106
 go_wp2_with (go_at_call 146; refine (bit_any _ _).mono ?_; rintro e w' ⟨rfl, rfl⟩)
 go_ret
 exact ⟨ret_i (bits_with s n hs), rfl⟩
theorem wo_any (s : Nat) (n : Int) (w : World) (hs : IsSet s) :
  Calls Tryz.prog 233 #[.int .u64 (s : Int), .int .i64 n] w fun e w' => e = .returned (.int .u64 ((woS s n : Nat) : Int)) ∧ w = w' := by
 go_enter Tryz.func233, Tryz.ntmps233
 go_wp2_with (go_at_call 146; refine (bit_any _ _).mono ?_; rintro e w' ⟨rfl, rfl⟩)
 go_ret
 exact ⟨ret_i (bits_wo s n hs), rfl⟩
end

section
open Go.RowKit
def IntOk (n : Int) : Prop := -9223372036854775808 ≤ n ∧ n ≤ 9223372036854775807
structure OpV where
 wr : Bool
 key : Int
 val : Int
def OpV.v (o : OpV) : Value := .agg #[.bool o.wr, .int .i64 o.key, .int .i64 o.val]
def OpV.ok (o : OpV) : Prop := IntOk o.key ∧ IntOk o.val
def opZ : OpV := ⟨false, 0, 0⟩
def mayO (o : OpV) : Bool := (decide (0 ≤ o.key) && decide (o.key < 64)) && (decide (0 ≤ o.val) && decide (o.val ≤ 2147483647)) && (!o.wr || o.val != 0)
theorem mayO_iff (o : OpV) : mayO o = true ↔ (0 ≤ o.key ∧ o.key < 64) ∧ (0 ≤ o.val ∧ o.val ≤ 2147483647) ∧ (o.wr = true → o.val ≠ 0) := by
 obtain ⟨wr, key, val⟩ := o
 unfold mayO
 cases wr <;> simp [and_assoc]
theorem box_below (w : World) (o : Obj) : Below w.heap.size w (w.alloc o) := (Below.refl _ _).alloc (Nat.le_refl _) _
theorem right_any (wr : Bool) (key val : Int) (w : World) :
  Calls Tryz.prog 163 #[.agg #[.bool wr, .int .i64 key, .int .i64 val]] w fun e w' => e = .returned (.bool (mayO ⟨wr, key, val⟩)) ∧ Below w.heap.size w w' := by
 have hi := mayO_iff ⟨wr, key, val⟩
 by_cases h : mayO ⟨wr, key, val⟩ = true
 ·obtain ⟨⟨h1, h2⟩, ⟨h3, h4⟩, h5⟩ := hi.1 h
  have HM := hid h
  have c1 : ¬ key < 0 := by simpa using h1
  have c2 : ¬ (64 : Int) ≤ key := by simp at h2; omega
  have c3 : ¬ val < 0 := by simpa using h3
  have c4 : ¬ (2147483647 : Int) < val := by simp at h4; omega
  simp only at h1 h2 h3 h4 h5
  clear h hi
  cases wr
  ·clear h5
   go_enter Tryz.func163, Tryz.ntmps163
   go_wp2_with fail
   go_ret
   exact ⟨ret_b HM.out.symm, box_below _ _⟩
  ·have c5 : (val != 0) = true := by rw [bne_iff_ne]; exact h5 rfl
   clear h5
   go_enter Tryz.func163, Tryz.ntmps163
   go_wp2_with fail
   go_ret
   exact ⟨ret_b HM.out.symm, box_below _ _⟩
 ·have HM : Hid (mayO ⟨wr, key, val⟩ = false) := hid (by simpa using h)
  have hn : ¬ ((0 ≤ key ∧ key < 64) ∧ (0 ≤ val ∧ val ≤ 2147483647) ∧ (wr = true → val ≠ 0)) := fun k => h (hi.2 k)
  clear h hi
  by_cases c1 : key < 0
  ·go_enter Tryz.func163, Tryz.ntmps163
   clear hn
   go_wp2_with fail
   go_ret
   exact ⟨ret_b HM.out.symm, box_below _ _⟩
  by_cases c2 : (64 : Int) ≤ key
  ·clear hn
   go_enter Tryz.func163, Tryz.ntmps163
   go_wp2_with fail
   go_ret
   exact ⟨ret_b HM.out.symm, box_below _ _⟩
  by_cases c3 : val < 0
  ·clear hn
   go_enter Tryz.func163, Tryz.ntmps163
   go_wp2_with fail
   go_ret
   exact ⟨ret_b HM.out.symm, box_below _ _⟩
  by_cases c4 : (2147483647 : Int) < val
  ·clear hn
   go_enter Tryz.func163, Tryz.ntmps163
   go_wp2_with fail
   go_ret
   exact ⟨ret_b HM.out.symm, box_below _ _⟩
  cases wr
  ·exfalso; apply hn; exact ⟨⟨by omega, by omega⟩, ⟨by omega, by omega⟩, fun h => by cases h⟩
  ·have hv : val = 0 := by
    by_cases h : val = 0
    ·exact h
    ·exfalso; apply hn; exact ⟨⟨by omega, by omega⟩, ⟨by omega, by omega⟩, fun _ => h⟩
   subst hv
   clear hn
   go_enter Tryz.func163, Tryz.ntmps163
   go_wp2_with fail
   go_ret
   exact ⟨ret_b HM.out.symm, box_below _ _⟩
theorem below_then {w0 w1 w2 : World} (h : Below w0.heap.size w0 w1) (k : Below w1.heap.size w1 w2) : Below w0.heap.size w0 w2 := h.trans (k.mono h.size)
theorem opBlock (w : World) (x y z : Value) (t : TypeId) : (w.alloc (.cells #[x, y, z] t)).cell? ⟨w.heap.size, 0, none⟩ = some x ∧ (w.alloc (.cells #[x, y, z] t)).cell? ⟨w.heap.size, 1, none⟩ = some y ∧ (w.alloc (.cells #[x, y, z] t)).cell? ⟨w.heap.size, 2, none⟩ = some z := by
 refine ⟨?_, ?_, ?_⟩ <;> simp
theorem ints_lit (w : World) (xs : List Int) (cs : Array Value) (n : Nat) (hc : cs.toList = xs.map (Value.int .i64)) (hn : n = xs.length) (hm : n ≤ maxLen) :
  Ints (w.alloc (.cells cs 3)) (.slice (some ⟨w.heap.size, 0, none⟩) n n) xs := by
 have hs : cs.size = n * 1 := by
  have := congrArg List.length hc
  simp at this; omega
 have h := World.ownsRow_lit (base := 0) (e := 3) (size := 1) w cs n (Nat.zero_le _) hm hs
 rw [hc] at h
 exact Ints.of_owns h
def opV (l : List OpV) : List Value := l.flatMap fun o => [.bool o.wr, .int .i64 o.key, .int .i64 o.val]
theorem opV_len (l : List OpV) : (opV l).length = l.length * 3 := by
 induction l with
 | nil => rfl
 | cons a l ih => unfold opV at *; rw [List.flatMap_cons, List.length_append, ih]; simp; omega
theorem opV_at : ∀ (l : List OpV) (k : Nat) (hk : k < l.length), (opV l)[k * 3]? = some (.bool l[k].wr) ∧ (opV l)[k * 3 + 1]? = some (.int .i64 l[k].key) ∧ (opV l)[k * 3 + 2]? = some (.int .i64 l[k].val)
 | a :: l, 0, _ => ⟨rfl, rfl, rfl⟩
 | a :: l, k + 1, hk => by
  obtain ⟨h0, h1, h2⟩ := opV_at l k (by simpa using hk)
  have e : ∀ j, (opV (a :: l))[(k + 1) * 3 + j]? = (opV l)[k * 3 + j]? := fun j => by
   unfold opV
   rw [List.flatMap_cons, show (k + 1) * 3 + j = 3 + (k * 3 + j) from by omega]
   rw [List.getElem?_append_right (by simp)]
   simp
  exact ⟨(e 0).trans h0, (e 1).trans h1, (e 2).trans h2⟩
def Ops (w : World) (v : Value) (l : List OpV) : Prop := Row w v l.length 3 (opV l)
theorem Ops.below {w w' : World} {v : Value} {l : List OpV} (h : Ops w v l) (hb : Below w.heap.size w w') : Ops w' v l := Row.below h hb
theorem Ops.form {w : World} {v : Value} {l : List OpV} (h : Ops w v l) : ∃ ao cap, v = .slice ao l.length cap ∧ l.length ≤ 9223372036854775807 := by
 obtain ⟨_, ao, cap, rfl, hm, _, _⟩ := h
 exact ⟨ao, cap, rfl, Nat.le_trans hm.1 hm.2⟩
theorem Ops.at {w : World} {ao : Option Addr} {n cap : Nat} {l : List OpV} (h : Ops w (.slice ao n cap) l) {k : Nat} (hk : k < l.length) :
  ∃ b off, ao = some ⟨b, off, none⟩ ∧ w.cell? ⟨b, off + k * 3, none⟩ = some (.bool l[k].wr) ∧ w.cell? ⟨b, off + k * 3 + 1, none⟩ = some (.int .i64 l[k].key) ∧ w.cell? ⟨b, off + k * 3 + 2, none⟩ = some (.int .i64 l[k].val) := by
 obtain ⟨_, ao', cap', he, hm, _, hc⟩ := h
 obtain ⟨rfl, _, _⟩ : ao = ao' ∧ n = l.length ∧ cap = cap' := by simpa using he
 obtain ⟨b, off, rfl, hcell⟩ := hc (by omega)
 obtain ⟨h0, h1, h2⟩ := opV_at l k hk
 refine ⟨b, off, rfl, ?_, ?_, ?_⟩
 ·rw [hcell (k * 3) (by omega), h0]
 ·rw [Nat.add_assoc, hcell (k * 3 + 1) (by omega), h1]
 ·rw [Nat.add_assoc, hcell (k * 3 + 2) (by omega), h2]
def allM (l : List OpV) : Bool := l.all mayO
theorem allM_succ (l : List OpV) (k : Nat) (hk : k < l.length) : allM (l.take (k + 1)) = (allM (l.take k) && mayO l[k]) := by
 unfold allM; rw [List.take_succ_eq_append_getElem hk, List.all_append]; simp
theorem allM_no (l : List OpV) (k : Nat) (hk : k < l.length) (h : mayO l[k] = false) : allM l = false := by
 unfold allM; exact List.all_eq_false.2 ⟨l[k], List.getElem_mem hk, by simp [h]⟩
theorem put_three {w1 : World} {g : Nat} {x0 x1 x2 : Value} (v0 v1 v2 : Value) (c0 : w1.cell? ⟨g, 0, none⟩ = some x0) (c1 : w1.cell? ⟨g, 1, none⟩ = some x1) (c2 : w1.cell? ⟨g, 2, none⟩ = some x2) :
  (((w1.setCell ⟨g, 0, none⟩ v0).setCell ⟨g, 1, none⟩ v1).setCell ⟨g, 2, none⟩ v2).cell? ⟨g, 0, none⟩ = some v0 ∧
  (((w1.setCell ⟨g, 0, none⟩ v0).setCell ⟨g, 1, none⟩ v1).setCell ⟨g, 2, none⟩ v2).cell? ⟨g, 1, none⟩ = some v1 ∧
  (((w1.setCell ⟨g, 0, none⟩ v0).setCell ⟨g, 1, none⟩ v1).setCell ⟨g, 2, none⟩ v2).cell? ⟨g, 2, none⟩ = some v2 := by
 have n01 : (⟨g, 0, none⟩ : Addr) ≠ ⟨g, 1, none⟩ := by simp
 have n02 : (⟨g, 0, none⟩ : Addr) ≠ ⟨g, 2, none⟩ := by simp
 have n12 : (⟨g, 1, none⟩ : Addr) ≠ ⟨g, 2, none⟩ := by simp
 refine ⟨?_, ?_, ?_⟩
 ·rw [World.cell?_setCell_other _ _ _ _ n02.symm, World.cell?_setCell_other _ _ _ _ n01.symm]
  exact World.cell?_setCell_same _ _ _ c0
 ·rw [World.cell?_setCell_other _ _ _ _ n12.symm]
  exact World.cell?_setCell_same _ _ _ ((World.cell?_setCell_other _ _ _ _ n01).trans c1)
 ·exact World.cell?_setCell_same _ _ _ ((World.cell?_setCell_other _ _ _ _ n12).trans ((World.cell?_setCell_other _ _ _ _ n02).trans c2))
theorem below_three {B : Nat} {w w1 : World} {g : Nat} (v0 v1 v2 : Value) (hb : Below B w w1) (hg : B ≤ g) :
  Below B w (((w1.setCell ⟨g, 0, none⟩ v0).setCell ⟨g, 1, none⟩ v1).setCell ⟨g, 2, none⟩ v2) :=
 ((hb.setCell (p := ⟨g, 0, none⟩) hg v0).setCell (p := ⟨g, 1, none⟩) hg v1).setCell (p := ⟨g, 2, none⟩) hg v2
theorem op_cells {w w1 : World} {x y z : Value} {t : TypeId} (hb : Below (w.heap.size + 1) (w.alloc (.cells #[x, y, z] t)) w1) :
  (w1.cell? ⟨w.heap.size, 0, none⟩ = some x ∧ w1.cell? ⟨w.heap.size, 1, none⟩ = some y ∧ w1.cell? ⟨w.heap.size, 2, none⟩ = some z) ∧
  (w1.frozen? ⟨w.heap.size, 0, none⟩ = false ∧ w1.frozen? ⟨w.heap.size, 1, none⟩ = false ∧ w1.frozen? ⟨w.heap.size, 2, none⟩ = false) := by
 have c0 := hb.cell (p := ⟨w.heap.size, 0, none⟩) (by simp)
 have c1 := hb.cell (p := ⟨w.heap.size, 1, none⟩) (by simp)
 have c2 := hb.cell (p := ⟨w.heap.size, 2, none⟩) (by simp)
 have f0 := hb.frozen (p := ⟨w.heap.size, 0, none⟩) (by simp)
 have f1 := hb.frozen (p := ⟨w.heap.size, 1, none⟩) (by simp)
 have f2 := hb.frozen (p := ⟨w.heap.size, 2, none⟩) (by simp)
 simp at c0 c1 c2 f0 f1 f2
 exact ⟨⟨c0, c1, c2⟩, f0, f1, f2⟩
end

section
open Go.RowKit
theorem bldSize : (Tryz.prog.info? 130).map (·.size) = some 2 := by kernel_rfl
theorem bldLies : liesAt Tryz.prog Tryz.prog.depth 130 (2 / Tryz.prog.cellsOf 130) 0 130 1 = true := by kernel_rfl
theorem infoU8 : (Tryz.prog.info? 5).map (fun i => (i.zero, i.size, i.bytes)) = some (some (.int .u8 0), 1, 1) := by kernel_rfl
def Bld (B b : Nat) (l : List UInt8) (w : World) : Prop := Lib.IsBuilder 130 5 B b (Lib.byteCells l) w ∧ B ≤ w.heap.size
theorem copy_used (b : Nat) (w : World) (h : w.cell? ⟨b, 0, none⟩ = some (.pointer (some ⟨b, 0, none⟩))) :
  Calls Tryz.prog 114 #[.pointer (some ⟨b, 0, none⟩)] w fun e w' => e = .returned (.tuple #[]) ∧ w = w' := by
 obtain ⟨j, hj, _⟩ := Option.map_eq_some_iff.1 bldSize
 have hq := Lib.run_neq_ptr_same (P := Tryz.prog) w ⟨b, 0, none⟩ Tryz.underlying127 hj
 go_enter Tryz.func114, Tryz.ntmps114
 go_wp2
 go_end0
 exact ⟨rfl, rfl⟩
theorem copy_fresh (b : Nat) (w : World) (h : w.cell? ⟨b, 0, none⟩ = some (.pointer none)) (hs : w.shape? b = some (130, 2)) (hf : w.frozen? ⟨b, 0, none⟩ = false) :
  Calls Tryz.prog 114 #[.pointer (some ⟨b, 0, none⟩)] w fun e w' => e = .returned (.tuple #[]) ∧ w' = w.setCell ⟨b, 0, none⟩ (.pointer (some ⟨b, 0, none⟩)) := by
 obtain ⟨j, hj, hjs⟩ := Option.map_eq_some_iff.1 bldSize
 have HTO := hid (Lib.run_to_unsafe (P := Tryz.prog) w ⟨b, 0, none⟩ Tryz.underlying127 Tryz.underlying226 hj (by rw [hjs]; decide) hs (Nat.zero_lt_succ 1))
 have HFROM := hid (Lib.run_from_unsafe (P := Tryz.prog) w ⟨b, 0, none⟩ Tryz.underlying226 Tryz.underlying127 hj hs bldLies)
 clear hjs
 go_enter Tryz.func114, Tryz.ntmps114
 go_wp2
 rw [HTO.out]
 simp only [Result.andThen]
 rw [Oper.upon_value]
 go_wp2
 rw [run_callFunc_extern Tryz.func154 (by kernel_rfl) (by kernel_rfl) (by kernel_rfl) (e := Extern.AbiNoEscape.same) (by kernel_rfl), Lib.run_noEscape]
 simp only [Result.andThen]
 rw [Oper.upon_value]
 go_wp2
 rw [HFROM.out]
 simp only [Result.andThen]
 rw [Oper.upon_value]
 go_wp2
 go_end0
 exact ⟨rfl, rfl⟩
theorem copy_any (B b : Nat) (l : List UInt8) (w : World) (h : Bld B b l w) :
  Calls Tryz.prog 114 #[.pointer (some ⟨b, 0, none⟩)] w fun e w' => e = .returned (.tuple #[]) ∧ Lib.BuilderAt 130 5 B b (.pointer (some ⟨b, 0, none⟩)) (Lib.byteCells l) w' ∧ Below B w w' := by
 rcases h.1 with h | h
 ·refine (copy_fresh b w h.cell0 h.shape h.frozen0).mono ?_
  rintro e w' ⟨rfl, rfl⟩
  exact ⟨rfl, h.used _, (Below.refl B w).setCell (p := ⟨b, 0, none⟩) h.1 _⟩
 ·refine (copy_used b w h.cell0).mono ?_
  rintro e w' ⟨rfl, rfl⟩
  exact ⟨rfl, h, Below.refl B _⟩
theorem own_slice {w : World} {B e n : Nat} {v : Value} {xs : List Value} (h : w.ownsRow B e 1 v n xs) : ∃ ao k cap, v = .slice ao k cap := by
 rcases h.2 with ⟨h, _⟩ | ⟨g, cap, cur, h, _⟩
 ·exact ⟨_, _, _, h⟩
 ·exact ⟨_, _, _, h⟩
theorem strCells_bytes (s : ByteArray) : Lib.strCells s = Lib.byteCells s.data.toList := rfl
theorem write_any (B b : Nat) (l : List UInt8) (s : ByteArray) (w : World) (h : Bld B b l w) (hlen : l.length + s.size ≤ 140737488355328) :
  Calls Tryz.prog 68 #[.pointer (some ⟨b, 0, none⟩), .string s] w fun e w' => e = .returned (.tuple #[.int .i64 s.size, .nilIface]) ∧ Bld B b (l ++ s.data.toList) w' ∧ Below B w w' := by
 obtain ⟨i0, hi, hz0, hz1, hz2⟩ := info_parts infoU8
 have hBw := h.2
 have hll : (Lib.byteCells l).length = l.length := Lib.byteCells_length l
 have C := hid (copy_any B b l w h)
 clear h
 go_enter Tryz.func68, Tryz.ntmps68
 go_wp2_with fail
 refine (C.out).mono ?_
 rintro e w1 ⟨rfl, h1, hb1⟩
 obtain ⟨hB, v, hbk, hown, hne⟩ := h1
 have hsz := hb1.size
 have c0 : w1.cell? ⟨b, 0, none⟩ = some (.pointer (some ⟨b, 0, none⟩)) := by rw [Lib.cell_of_heap hbk]; rfl
 have c1 : w1.cell? ⟨b, 1, none⟩ = some v := by rw [Lib.cell_of_heap hbk]; rfl
 have hlt : b < w1.heap.size := by
  rcases Nat.lt_or_ge b w1.heap.size with h' | h'
  ·exact h'
  ·simp [Array.getElem?_eq_none h'] at hbk
 rw [hll] at hown
 have HBK := hid hbk
 clear hbk hll
 go_wp2_with (at_builtin; refine Lib.wpList_append_own_string _ rfl _ _ 128 9 rfl B 5 i0 Tryz.underlying128 Tryz.underlying9 hi hz0 hz1 hz2 _ _ _ rfl hown s rfl ?c3 ?c4 ?c5 ?_)
 case c3 => unfold maxLen; omega
 case c4 => omega
 case c5 => omega
 intro v' w2 hown' hgrow _
 have hb2 : w2.heap[b]? = some (.cells #[.pointer (some ⟨b, 0, none⟩), v] 130 (0, 0)) := by
  rw [hgrow.block b hlt (fun e => hne e.symm)]
  exact HBK.out
 have d0 : w2.cell? ⟨b, 0, none⟩ = some (.pointer (some ⟨b, 0, none⟩)) := by rw [Lib.cell_of_heap hb2]; rfl
 have d1 : w2.cell? ⟨b, 1, none⟩ = some v := by rw [Lib.cell_of_heap hb2]; rfl
 have f1 : w2.frozen? ⟨b, 1, none⟩ = false := Lib.frozen_of_heap hb2 1
 have HB2 := hid hb2
 clear hb2 c0 c1
 obtain ⟨ao, k, cap, rfl⟩ := own_slice hown'
 go_wp2
 go_ret2
 refine ⟨rfl, ⟨.inr ?_, ?_⟩, ?_⟩
 ·refine Lib.BuilderAt.put hB HB2.out (bs' := Lib.byteCells (l ++ s.data.toList)) ?_ (by decide)
  rw [Lib.byteCells_append, ← strCells_bytes]
  simpa [Lib.strCells_length, Lib.byteCells_length] using hown'
 ·have := hgrow.size; simp [World.setCell]; omega
 ·exact (hb1.grown hgrow (by omega) (fun k hk => (hown.lt k hk).1)).setCell (p := ⟨b, 1, none⟩) hB _
theorem bld_new (w : World) : Bld w.heap.size w.heap.size [] (w.alloc (.cells #[.pointer none, .slice none 0 0] 130)) := ⟨Lib.fresh_isBuilder _ _ w, by simp⟩
theorem bld_string (B b : Nat) (l : List UInt8) (w : World) (h : Bld B b l w) :
  Calls Tryz.prog 70 #[.pointer (some ⟨b, 0, none⟩)] w fun e w' => e = .returned (.string ⟨l.toArray⟩) ∧ Below B w w' :=
 Tryz.Builder_String_any B b l w h.1 h.2
theorem Bld.grown {B b : Nat} {l : List UInt8} {w w' : World} (h : Bld B b l w) (hb : Below w.heap.size w w') : Bld B b l w' := by
 obtain ⟨h1, h2⟩ := h
 have key : ∀ p, Lib.BuilderAt 130 5 B b p (Lib.byteCells l) w → Lib.BuilderAt 130 5 B b p (Lib.byteCells l) w' := by
  rintro p ⟨hB, v, hbk, hown, hne⟩
  have hlt : b < w.heap.size := by
   rcases Nat.lt_or_ge b w.heap.size with h' | h'
   ·exact h'
   ·simp [Array.getElem?_eq_none h'] at hbk
  refine ⟨hB, v, by rw [hb.block b hlt]; exact hbk, ?_, hne⟩
  exact hown.kept (row := none) ⟨hb.os, hb.tape, hb.output, hb.size, fun k hk _ => hb.block k hk⟩ (by cases v.ownBlock <;> simp)
 exact ⟨h1.elim (fun h => .inl (key _ h)) (fun h => .inr (key _ h)), Nat.le_trans h2 hb.size⟩
end

section
open Go.RowKit
theorem gTen : Tryz.prog.globalNamed "internal/strconv.uint64pow10" = some 2 := by kernel_rfl
def Ten (w : World) : Prop := Lib.TabIs Tryz.prog w "internal/strconv.uint64pow10" .u64 Lib.pow10Tab
theorem Ten.pos {w : World} (h : Ten w) : 2 < w.heap.size := by
 have := Lib.TabIs.cell h gTen 0 (by decide)
 exact block_lt this
theorem Ten.below {w w' : World} (h : Ten w) (hb : Below w.heap.size w w') : Ten w' := var?_below hb gTen h.pos h
theorem below_sort_grow (w : World) (k : Nat) (os : Array Obj) : Below w.heap.size w (Sort.grow (w.drewN k) os) :=
 ⟨rfl, rfl, rfl, by simp [Sort.grow, World.drewN], fun i hi => by
  have : (Sort.grow (w.drewN k) os).heap = w.heap ++ os := rfl
  rw [this, Array.getElem?_append_left hi]⟩
theorem itoa_ten (n : Int) (w : World) (he : Ten w) (hn : IntOk n) :
  Calls Tryz.prog 155 #[.int .i64 n] w fun e w' => e = .returned (.string ⟨(Lib.itoa n).toArray⟩) ∧ Below w.heap.size w w' := by
 refine (Tryz.strconv_Itoa n hn.1 hn.2 w he).mono fun e w' ⟨h, k, os, hw⟩ => ⟨h, ?_⟩
 subst hw
 exact below_sort_grow w k os
def joinTo (s : List UInt8) (l : List Int) : List UInt8 := s ++ l.flatMap fun n => 32 :: Lib.itoa n
theorem joinTo_nil (s : List UInt8) : joinTo s [] = s := by simp [joinTo]
theorem joinTo_succ (s : List UInt8) (l : List Int) (k : Nat) (hk : k < l.length) : joinTo s (l.take (k + 1)) = (joinTo s (l.take k) ++ [32]) ++ Lib.itoa l[k] := by
 unfold joinTo
 rw [List.take_succ_eq_append_getElem hk, List.flatMap_append]
 simp
theorem joinTo_len (s : List UInt8) : ∀ (l : List Int), (∀ n ∈ l, IntOk n) → (joinTo s l).length ≤ s.length + 22 * l.length := by
 intro l
 induction l with
 | nil => intro _; simp [joinTo]
 | cons a l ih =>
  intro h
  have h1 := ih (fun n hn => h n (List.mem_cons_of_mem _ hn))
  have ha := h a List.mem_cons_self
  have h2 := Lib.itoa_length_le a ha.1 ha.2
  unfold joinTo at *
  rw [List.flatMap_cons]
  simp only [List.length_append, List.length_cons] at *
  omega
def joinB (s : ByteArray) (l : List Int) : ByteArray := ⟨(joinTo s.data.toList l).toArray⟩
theorem join_ten (s : ByteArray) (va : Value) (l : List Int) (w : World) (he : Ten w) (hI : Ints w va l) (hl : ∀ n ∈ l, IntOk n) (hlen : s.size + 22 * l.length ≤ 1000000000) :
  Calls Tryz.prog 115 #[.string s, va] w fun e w' => e = .returned (.string (joinB s l)) ∧ Below w.heap.size w w' := by
 obtain ⟨ao, cap, rfl, hal⟩ := hI.form
 have hsl := Lib.size_eq s
 have HLEN : Hid (∀ k, k ≤ l.length → (joinTo s.data.toList (l.take k)).length ≤ s.size + 22 * k) := hid (fun k hk => by
  have := joinTo_len s.data.toList (l.take k) (fun n hn => hl n (List.mem_of_mem_take hn))
  rw [← hsl, List.length_take, Nat.min_eq_left hk] at this
  exact this)
 have HL := hid hl
 have HENV := hid he
 have hB0 := bld_new w
 have hb0 := (Below.refl w.heap.size w).alloc (Nat.le_refl _) (.cells #[.pointer none, .slice none 0 0] 130)
 have CW := hid (write_any w.heap.size w.heap.size [] s _ hB0 (by simp; omega))
 clear hl he hsl
 go_enter Tryz.func115, Tryz.ntmps115
 go_wp2_with fail
 refine (CW.out).mono ?_
 rintro e w1 ⟨rfl, hB1, hb1⟩
 have hbb := hb0.trans (hb1.mono (Nat.le_refl _))
 rw [List.nil_append] at hB1
 clear hB0 hb0 hb1 CW
 go_wp2_with fail
 go_loopw [12] (fun i wr => ∃ k : Nat, k ≤ l.length ∧ i = .int .i64 k ∧ Bld w.heap.size w.heap.size (joinTo s.data.toList (l.take k)) wr ∧ Below w.heap.size w wr) (fun i _ => l.length - (intOf i).toNat)
 case atStart => exact ⟨0, by omega, rfl, by rw [List.take_zero, joinTo_nil]; exact hB1, hbb⟩
 case round =>
  obtain ⟨k, hk, rfl, hB, hb⟩ := hrel
  have hszr := hb.size
  by_cases hlt : k < l.length
  ·have hki : (k : Int) < (l.length : Int) := by omega
   obtain ⟨b, off, hao, hc⟩ := (hI.below hb).at hlt
   cases hao
   have hxi := HL.out l[k] (List.getElem_mem hlt)
   have HS := hid (joinTo_succ s.data.toList l k hlt)
   have hlk := HLEN.out k hk
   generalize joinTo s.data.toList (l.take k) = A at *
   generalize l[k] = x at *
   have CW1 := hid (write_any w.heap.size w.heap.size A ⟨#[32]⟩ wr hB (by have : (⟨#[32]⟩ : ByteArray).size = 1 := rfl; omega))
   have HX := hid hxi
   clear hxi hB
   go_wp2_with fail
   refine (CW1.out).mono ?_
   rintro e w2 ⟨rfl, hB2, hb2⟩
   have hb2' := hb.trans hb2
   clear CW1
   go_wp2_with fail
   refine (itoa_ten x w2 (HENV.out.below hb2') HX.out).mono ?_
   rintro e w3 ⟨rfl, hb3⟩
   have hB3 := hB2.grown hb3
   have hb3' := hb2'.trans (hb3.mono hb2'.size)
   have htl := Lib.itoa_length_le x HX.out.1 HX.out.2
   have hts : (⟨(Lib.itoa x).toArray⟩ : ByteArray).size = (Lib.itoa x).length := by simp [ByteArray.size]
   have CW2 := hid (write_any w.heap.size w.heap.size _ ⟨(Lib.itoa x).toArray⟩ w3 hB3 (by rw [hts]; simp; omega))
   obtain ⟨t, ht⟩ : ∃ t : ByteArray, t = ⟨(Lib.itoa x).toArray⟩ := ⟨_, rfl⟩
   have HT := hid ht
   rw [← ht] at CW2
   rw [← ht]
   clear ht hts htl hB2 hB3 hb2' hb2 hb3
   go_wp2_with fail
   refine (CW2.out).mono ?_
   rintro e w4 ⟨rfl, hB4, hb4⟩
   have hb4' := hb3'.trans hb4
   go_wp2_with fail
   go_roundw
   case rel => exact ⟨k + 1, by omega, by go_num, by rw [HS.out]; have h := HT.out; subst h; simpa using hB4, hb4'⟩
   case measure => simp [intOf]; omega
  ·obtain rfl : k = l.length := by omega
   have CS := hid (bld_string w.heap.size w.heap.size _ wr hB)
   have HJ : Hid (joinB s l = ⟨(joinTo s.data.toList (l.take l.length)).toArray⟩) := hid (by rw [List.take_length]; rfl)
   clear hB
   go_wp2_with fail
   refine (CS.out).mono ?_
   rintro e w' ⟨rfl, hbs⟩
   rw [← HJ.out]
   go_wp2_with fail
   go_ret
   exact ⟨rfl, hb.trans hbs⟩
def textB (wr : Bool) (key val : Int) : ByteArray := joinB (if wr then ⟨#[119]⟩ else ⟨#[114]⟩) [key, val]
theorem text_ten (wr : Bool) (key val : Int) (w : World) (he : Ten w) (hk : IntOk key) (hv : IntOk val) :
  Calls Tryz.prog 116 #[.agg #[.bool wr, .int .i64 key, .int .i64 val]] w fun e w' => e = .returned (.string (textB wr key val)) ∧ Below w.heap.size w w' := by
 have hb1 := box_below w (.cells #[.bool wr, .int .i64 key, .int .i64 val] 79)
 have hb2 := hb1.trans ((box_below (w.alloc (.cells #[.bool wr, .int .i64 key, .int .i64 val] 79)) (.cells #[.int .i64 key, .int .i64 val] 3)).mono (by simp))
 have hI := ints_lit (w.alloc (.cells #[.bool wr, .int .i64 key, .int .i64 val] 79)) [key, val] #[.int .i64 key, .int .i64 val] 2 rfl rfl (by decide)
 rw [show (w.alloc (.cells #[.bool wr, .int .i64 key, .int .i64 val] 79)).heap.size = w.heap.size + 1 from by simp] at hI
 have CJ := fun s => join_ten s _ [key, val] _ (he.below hb2) hI (by intro n hn; simp at hn; rcases hn with rfl | rfl <;> assumption)
 have HJ := hid CJ
 clear CJ he hk hv hb1 hI
 cases wr
 all_goals
  go_enter Tryz.func116, Tryz.ntmps116
  go_wp2_with fail
  refine (HJ.out _ (by show 1 + 22 * 2 ≤ 1000000000; omega)).mono ?_
  rintro e w' ⟨rfl, hb⟩
  go_wp2_with fail
  go_ret
  exact ⟨rfl, hb2.trans (hb.mono hb2.size)⟩
end

section
open Go.ChangeShapes Go.WideShapes Go.ChangeAt Go.RowKit
theorem gTenType : (Tryz.prog.globals[2]?).map (·.type) = some 339 := by kernel_rfl
theorem cellsTen : Tryz.prog.cellsOf 339 = 20 := by kernel_rfl
theorem cellsU64 : Tryz.prog.cellsOf 105 = 1 := by kernel_rfl
end

section
def lstTo (s k : Nat) : List Nat := (List.range k).filter fun i => s.testBit i
def lst (s : Nat) : List Nat := lstTo s 64
def fst (s : Nat) : Nat := (lst s).headD 64
theorem lstTo_len (s k : Nat) : (lstTo s k).length ≤ k := by
 unfold lstTo
 have := List.length_filter_le (fun i => s.testBit i) (List.range k)
 simpa using this
theorem mem_lst {s i : Nat} : i ∈ lst s ↔ i < 64 ∧ s.testBit i = true := by simp [lst, lstTo]
theorem lst_nodup (s : Nat) : (lst s).Nodup := List.Pairwise.filter _ List.nodup_range
theorem lst_sorted (s : Nat) : (lst s).Pairwise (· < ·) := List.Pairwise.filter _ List.pairwise_lt_range
theorem lst_zero : lst 0 = [] := by decide
theorem lst_nil {s : Nat} (hs : IsSet s) (h : lst s = []) : s = 0 := by
 apply set_ext hs (by unfold IsSet; omega)
 intro i hi
 cases hb : s.testBit i
 ·simp
 ·have : i ∈ lst s := mem_lst.2 ⟨hi, hb⟩
  rw [h] at this; cases this
theorem lst_woS (s : Nat) (n : Nat) (hn : n < 64) : lst (woS s (n : Int)) = (lst s).filter (fun i => i != n) := by
 unfold lst lstTo
 rw [List.filter_filter]
 apply List.filter_congr
 intro i _
 rw [testBit_woS]
 have : (0 ≤ (n : Int) ∧ (n : Int) < 64) := by omega
 simp only [this, and_self, decide_true, Bool.true_and, Int.toNat_natCast, bne]
 rw [Bool.and_comm]
 congr 2
 rw [Bool.eq_iff_iff]; simp; exact ⟨fun h => h.symm, fun h => h.symm⟩
theorem lst_cons {s : Nat} (h : lst s ≠ []) : lst s = fst s :: lst (woS s (fst s : Int)) := by
 unfold fst
 match e : lst s with
 | [] => exact absurd e h
 | a :: t =>
  have ha : a < 64 := (mem_lst.1 (e ▸ List.mem_cons_self : a ∈ lst s)).1
  simp only [List.headD_cons]
  rw [lst_woS s a ha, e]
  have hn := e ▸ lst_nodup s
  rw [List.nodup_cons] at hn
  rw [List.filter_cons]
  simp
  symm
  rw [List.filter_eq_self]
  intro b hb
  simp
  rintro rfl
  exact hn.1 hb
theorem fst_mem {s : Nat} (h : lst s ≠ []) : fst s ∈ lst s := by
 rw [lst_cons h]; exact List.mem_cons_self
theorem fst_lt {s : Nat} (h : lst s ≠ []) : fst s < 64 := (mem_lst.1 (fst_mem h)).1
theorem fst_le (s : Nat) : fst s ≤ 64 := by
 by_cases h : lst s = []
 ·simp [fst, h]
 ·exact Nat.le_of_lt (fst_lt h)
theorem fst_least {s i : Nat} (h : i < fst s) : s.testBit i = false := by
 cases hb : s.testBit i
 ·rfl
 ·have hi : i < 64 := Nat.lt_of_lt_of_le h (fst_le s)
  have hm : i ∈ lst s := mem_lst.2 ⟨hi, hb⟩
  have hne : lst s ≠ [] := by intro e; rw [e] at hm; cases hm
  have hs := lst_sorted s
  rw [lst_cons hne] at hm hs
  rcases List.mem_cons.1 hm with e | e
  ·omega
  ·have := (List.pairwise_cons.1 hs).1 i e
   omega
theorem lst_ne {s : Nat} (hs : IsSet s) (h : 0 < s) : lst s ≠ [] := by
 intro e; have := lst_nil hs e; omega
/-! ### The lowest bit, as the library finds it -/
theorem low_div {s k : Nat} (hlow : ∀ i, i < k → s.testBit i = false) : s % 2 ^ k = 0 := by
 apply Nat.eq_of_testBit_eq
 intro i
 rw [Nat.testBit_mod_two_pow]
 by_cases h : i < k
 ·simp [hlow i h]
 ·simp [h]
theorem and_neg {s k : Nat} (hs : s < 2 ^ 64) (hk : s.testBit k = true) (hlow : ∀ i, i < k → s.testBit i = false) (hk64 : k < 64) : s &&& (2 ^ 64 - s) = 2 ^ k := by
 have h0 : 0 < s := by
  rcases Nat.eq_zero_or_pos s with h | h
  ·subst h; simp at hk
  ·exact h
 have hd := low_div hlow
 obtain ⟨c, hc⟩ : ∃ c, s = 2 ^ k * c := ⟨s / 2 ^ k, (Nat.mul_div_cancel' (Nat.dvd_of_mod_eq_zero hd)).symm⟩
 have hp : 0 < 2 ^ k := Nat.two_pow_pos k
 have codd : c % 2 = 1 := by
  have : s.testBit k = c.testBit 0 := by rw [hc, Nat.testBit_two_pow_mul]; simp
  rw [this] at hk
  simpa [Nat.testBit_zero] using hk
 obtain ⟨d, rfl⟩ : ∃ d, c = 2 * d + 1 := ⟨c / 2, by omega⟩
 have e1 : s - 1 = 2 ^ k * (2 * d) + (2 ^ k - 1) := by
  rw [hc, Nat.mul_add, Nat.mul_one]
  omega
 have e2 : 2 ^ 64 - s = 2 ^ 64 - ((s - 1) + 1) := by omega
 rw [e2]
 apply Nat.eq_of_testBit_eq
 intro i
 rw [Nat.testBit_and, Nat.testBit_two_pow_sub_succ (by omega), Nat.testBit_two_pow]
 rw [e1, Nat.testBit_two_pow_mul_add _ (by omega)]
 by_cases hik : i < k
 ·simp [hlow i hik]; omega
 ·rw [if_neg hik]
  have : s.testBit i = (2 * d + 1).testBit (i - k) := by rw [hc, Nat.testBit_two_pow_mul]; simp; omega
  rw [this]
  by_cases e : i = k
  ·subst e
   simp [Nat.testBit_zero, hk64]
  ·obtain ⟨j, hj⟩ : ∃ j, i - k = j + 1 := ⟨i - k - 1, by omega⟩
   rw [hj, Nat.testBit_succ, Nat.testBit_succ]
   have q1 : (2 * d + 1) / 2 = d := by omega
   have q2 : 2 * d / 2 = d := by omega
   rw [q1, q2]
   have : ¬ k = i := fun h => e h.symm
   simp [this]
   exact fun h _ => h
def deB : List Int := [0, 1, 56, 2, 57, 49, 28, 3, 61, 58, 42, 50, 38, 29, 17, 4, 62, 47, 59, 36, 45, 43, 51, 22, 53, 39, 33, 30, 24, 18, 12, 5, 63, 55, 48, 27, 60, 41, 37, 16, 46, 35, 44, 21, 52, 32, 23, 11, 54, 26, 40, 15, 34, 20, 31, 10, 25, 14, 19, 9, 13, 8, 7, 6]
def deIdx (k : Nat) : Nat := 2 ^ k * 285870213051353865 % 18446744073709551616 / 288230376151711744
theorem deB_at : ∀ k : Fin 64, deIdx k.val < 64 ∧ deB.getD (deIdx k.val) 0 = (k.val : Int) := by decide +kernel
theorem bits_neg (s : Nat) (hs : IsSet s) (h0 : 0 < s) : Go.bits .and .u64 (s : Int) (IntKind.u64.wrap (-(s : Int))) = ((2 ^ fst s : Nat) : Int) := by
 have hne := lst_ne hs h0
 have hm := fst_mem hne
 have hb := (mem_lst.1 hm).2
 have e : IntKind.u64.wrap (-(s : Int)) = ((18446744073709551616 - s : Nat) : Int) := by
  unfold IsSet at hs
  rw [IntKind.wrap_u64]; omega
 rw [e, Go.bits_and_u64_nat s _ hs (by omega)]
 have := and_neg (s := s) (k := fst s) (by unfold IsSet at hs; omega) hb (fun i hi => fst_least hi) (fst_lt hne)
 rw [show (18446744073709551616 : Nat) = 2 ^ 64 from by decide, this]
theorem de_idx (k : Nat) : IntKind.u64.wrap (((2 ^ k : Nat) : Int) * 285870213051353865) / 288230376151711744 = ((deIdx k : Nat) : Int) := by
 rw [IntKind.wrap_u64]; unfold deIdx
 generalize 2 ^ k = p
 omega
/-! ### How many bits, as the library counts them -/
def f1 (b : Nat) : Nat := (b / 2 &&& 0x55) + (b &&& 0x55)
def f2 (b : Nat) : Nat := (b / 4 &&& 0x33) + (b &&& 0x33)
def f3 (b : Nat) : Nat := (b / 16 + b) &&& 0x0f
def ofB : List Nat → Nat
 | [] => 0
 | b :: l => 256 * ofB l + b
def mk (c : Nat) : Nat → Nat
 | 0 => 0
 | k + 1 => 256 * mk c k + c
theorem and_split (a b m c : Nat) (hb : b < 256) (hc : c < 256) : (256 * a + b) &&& (256 * m + c) = 256 * (a &&& m) + (b &&& c) := by
 have hbc : b &&& c < 256 := Nat.and_lt_two_pow (n := 8) _ hc
 apply Nat.eq_of_testBit_eq
 intro i
 rw [Nat.testBit_and, show (256 : Nat) = 2 ^ 8 from rfl, Nat.testBit_two_pow_mul_add _ hb, Nat.testBit_two_pow_mul_add _ hc, Nat.testBit_two_pow_mul_add _ hbc]
 split <;> simp
theorem f1_low : ∀ b : Fin 256, ∀ r : Fin 2, (128 * r.val + b.val / 2) &&& 0x55 = (b.val / 2 &&& 0x55) := by decide +kernel
theorem f2_low : ∀ b : Fin 256, ∀ r : Fin 4, (64 * r.val + b.val / 4) &&& 0x33 = (b.val / 4 &&& 0x33) := by decide +kernel
theorem f3_low : ∀ b : Fin 256, ∀ r : Fin 5, b.val % 16 ≤ 4 → b.val / 16 ≤ 4 → (16 * r.val + b.val / 16 + b.val) &&& 0x0f = f3 b.val := by decide +kernel
theorem f1_lt : ∀ b : Fin 256, f1 b.val < 256 := by decide +kernel
theorem f2_lt : ∀ b : Fin 256, f2 b.val < 256 := by decide +kernel
theorem f21_ok : ∀ b : Fin 256, f2 (f1 b.val) % 16 ≤ 4 ∧ f2 (f1 b.val) / 16 ≤ 4 ∧ f2 (f1 b.val) < 256 := by decide +kernel
theorem pop_ok : ∀ b : Fin 256, f3 (f2 (f1 b.val)) = (lstTo b.val 8).length := by decide +kernel
theorem st1_ofB : ∀ l : List Nat, (∀ b ∈ l, b < 256) → (ofB l / 2 &&& mk 0x55 l.length) + (ofB l &&& mk 0x55 l.length) = ofB (l.map f1)
 | [], _ => rfl
 | b :: l, h => by
  have hb := h b List.mem_cons_self
  have ih := st1_ofB l fun x hx => h x (List.mem_cons_of_mem _ hx)
  simp only [ofB, mk, List.length_cons, List.map_cons]
  have e : (256 * ofB l + b) / 2 = 256 * (ofB l / 2) + (128 * (ofB l % 2) + b / 2) := by omega
  have hlow := f1_low ⟨b, hb⟩ ⟨ofB l % 2, by omega⟩
  simp only at hlow
  rw [e, and_split _ _ _ _ (by omega) (by omega), and_split _ _ _ _ hb (by omega), ← ih, hlow, f1]
  omega
theorem st2_ofB : ∀ l : List Nat, (∀ b ∈ l, b < 256) → (ofB l / 4 &&& mk 0x33 l.length) + (ofB l &&& mk 0x33 l.length) = ofB (l.map f2)
 | [], _ => rfl
 | b :: l, h => by
  have hb := h b List.mem_cons_self
  have ih := st2_ofB l fun x hx => h x (List.mem_cons_of_mem _ hx)
  simp only [ofB, mk, List.length_cons, List.map_cons]
  have e : (256 * ofB l + b) / 4 = 256 * (ofB l / 4) + (64 * (ofB l % 4) + b / 4) := by omega
  have hlow := f2_low ⟨b, hb⟩ ⟨ofB l % 4, by omega⟩
  simp only at hlow
  rw [e, and_split _ _ _ _ (by omega) (by omega), and_split _ _ _ _ hb (by omega), ← ih, hlow, f2]
  omega
theorem st3_ofB : ∀ l : List Nat, (∀ b ∈ l, b % 16 ≤ 4 ∧ b / 16 ≤ 4 ∧ b < 256) → (ofB l / 16 + ofB l) &&& mk 0x0f l.length = ofB (l.map f3)
 | [], _ => rfl
 | b :: l, h => by
  obtain ⟨h1, h2, hb⟩ := h b List.mem_cons_self
  have ih := st3_ofB l fun x hx => h x (List.mem_cons_of_mem _ hx)
  have hr : ofB l % 16 ≤ 4 := by
   cases l with
   | nil => simp [ofB]
   | cons c l =>
    have := (h c (List.mem_cons_of_mem _ List.mem_cons_self)).1
    simp only [ofB]; omega
  simp only [ofB, mk, List.length_cons, List.map_cons]
  have e : (256 * ofB l + b) / 16 + (256 * ofB l + b) = 256 * (ofB l / 16 + ofB l) + (16 * (ofB l % 16) + b / 16 + b) := by omega
  have hlow := f3_low ⟨b, hb⟩ ⟨ofB l % 16, by omega⟩ h1 h2
  simp only at hlow
  rw [e, and_split _ _ _ _ (by omega) (by omega), ← ih, hlow]
theorem lstTo_add (s j k : Nat) : (lstTo s (j + k)).length = (lstTo s j).length + (lstTo (s / 2 ^ j) k).length := by
 unfold lstTo
 rw [List.range_add, List.filter_append, List.length_append, List.filter_map, List.length_map]
 congr 2
 apply List.filter_congr
 intro i _
 simp [Function.comp, Nat.testBit_div_two_pow, Nat.add_comm]
theorem lstTo_low (a b k : Nat) (hb : b < 2 ^ k) : lstTo (2 ^ k * a + b) k = lstTo b k := by
 unfold lstTo
 apply List.filter_congr
 intro i hi
 have : i < k := by simpa using hi
 rw [Nat.testBit_two_pow_mul_add _ hb, if_pos this]
def sumB : List Nat → Nat
 | [] => 0
 | b :: l => b + sumB l
theorem cnt_ofB : ∀ l : List Nat, (∀ b ∈ l, b < 256) → (lstTo (ofB l) (8 * l.length)).length = sumB (l.map fun b => f3 (f2 (f1 b)))
 | [], _ => rfl
 | b :: l, h => by
  have hb := h b List.mem_cons_self
  have ih := cnt_ofB l fun x hx => h x (List.mem_cons_of_mem _ hx)
  have hp := pop_ok ⟨b, hb⟩
  simp only at hp
  simp only [ofB, List.length_cons, List.map_cons, sumB]
  rw [show 8 * (l.length + 1) = 8 + 8 * l.length by omega, lstTo_add, show (256 : Nat) = 2 ^ 8 from rfl, lstTo_low _ _ _ hb, hp]
  have : (2 ^ 8 * ofB l + b) / 2 ^ 8 = ofB l := by omega
  rw [this, ih]
theorem bytes_of (s : Nat) (hs : IsSet s) : ∃ l : List Nat, l.length = 8 ∧ (∀ b ∈ l, b < 256) ∧ s = ofB l := by
 unfold IsSet at hs
 refine ⟨[s % 256, s / 256 % 256, s / 65536 % 256, s / 16777216 % 256, s / 4294967296 % 256, s / 1099511627776 % 256, s / 281474976710656 % 256, s / 72057594037927936], rfl, ?_, ?_⟩
 ·intro b hb
  simp only [List.mem_cons, List.not_mem_nil, or_false] at hb
  rcases hb with h | h | h | h | h | h | h | h <;> omega
 ·simp only [ofB]; omega
theorem ofB_lt : ∀ l : List Nat, (∀ b ∈ l, b < 256) → ofB l < 256 ^ l.length
 | [], _ => by simp [ofB]
 | b :: l, h => by
  have hb := h b List.mem_cons_self
  have ih := ofB_lt l fun x hx => h x (List.mem_cons_of_mem _ hx)
  simp only [ofB, List.length_cons, Nat.pow_succ]
  omega
/-! ### The library's steps, as the walk writes them -/
def sA (x : Int) : Int := IntKind.u64.wrap (Go.bits .and .u64 (x / 2) 6148914691236517205 + Go.bits .and .u64 x 6148914691236517205)
def sB (x : Int) : Int := IntKind.u64.wrap (Go.bits .and .u64 (x / 4) 3689348814741910323 + Go.bits .and .u64 x 3689348814741910323)
def sC (x : Int) : Int := Go.bits .and .u64 (IntKind.u64.wrap (x / 16 + x)) 1085102592571150095
def sD (x : Int) : Int := IntKind.u64.wrap (x + x / 256)
def sE (x : Int) : Int := IntKind.u64.wrap (x + x / 65536)
def sF (x : Int) : Int := IntKind.u64.wrap (x + x / 4294967296)
theorem sA_nat (x : Nat) (l : List Nat) (hl : l.length = 8) (hb : ∀ b ∈ l, b < 256) (hx : x = ofB l) : sA (x : Int) = ((ofB (l.map f1) : Nat) : Int) := by
 have h := st1_ofB l hb
 have hlt := ofB_lt l hb
 have hlt2 := ofB_lt (l.map f1) (by
  intro b hbm
  obtain ⟨c, hc, rfl⟩ := List.mem_map.1 hbm
  exact f1_lt ⟨c, hb c hc⟩)
 simp only [List.length_map] at hlt2
 rw [hl] at h hlt hlt2
 rw [← hx] at h hlt
 have e : mk 0x55 8 = 6148914691236517205 := by decide
 rw [e] at h
 unfold sA
 rw [show ((x : Int) / 2) = ((x / 2 : Nat) : Int) from by omega, show (6148914691236517205 : Int) = ((6148914691236517205 : Nat) : Int) from rfl]
 rw [Go.bits_and_u64_nat (x / 2) _ (by omega) (by omega), Go.bits_and_u64_nat x _ (by omega) (by omega), IntKind.wrap_u64, ← h]
 omega
theorem sB_nat (x : Nat) (l : List Nat) (hl : l.length = 8) (hb : ∀ b ∈ l, b < 256) (hx : x = ofB l) : sB (x : Int) = ((ofB (l.map f2) : Nat) : Int) := by
 have h := st2_ofB l hb
 have hlt := ofB_lt l hb
 have hlt2 := ofB_lt (l.map f2) (by
  intro b hbm
  obtain ⟨c, hc, rfl⟩ := List.mem_map.1 hbm
  exact f2_lt ⟨c, hb c hc⟩)
 simp only [List.length_map] at hlt2
 rw [hl] at h hlt hlt2
 rw [← hx] at h hlt
 have e : mk 0x33 8 = 3689348814741910323 := by decide
 rw [e] at h
 unfold sB
 rw [show ((x : Int) / 4) = ((x / 4 : Nat) : Int) from by omega, show (3689348814741910323 : Int) = ((3689348814741910323 : Nat) : Int) from rfl]
 rw [Go.bits_and_u64_nat (x / 4) _ (by omega) (by omega), Go.bits_and_u64_nat x _ (by omega) (by omega), IntKind.wrap_u64, ← h]
 omega
theorem sC_nat (x : Nat) (l : List Nat) (hl : l.length = 8) (hb : ∀ b ∈ l, b % 16 ≤ 4 ∧ b / 16 ≤ 4 ∧ b < 256) (hx : x = ofB l) : sC (x : Int) = ((ofB (l.map f3) : Nat) : Int) := by
 have h := st3_ofB l hb
 have hlt : ofB l < 4991460930710486580 := by
  match l, hl with
  | [a, b, c, d, e, f, g, i], _ =>
   have := hb i (by simp)
   have := hb a (by simp)
   have := hb b (by simp)
   have := hb c (by simp)
   have := hb d (by simp)
   have := hb e (by simp)
   have := hb f (by simp)
   have := hb g (by simp)
   simp only [ofB]
   omega
 rw [hl] at h
 rw [← hx] at h hlt
 have e : mk 0x0f 8 = 1085102592571150095 := by decide
 rw [e] at h
 unfold sC
 have e2 : IntKind.u64.wrap ((x : Int) / 16 + (x : Int)) = ((x / 16 + x : Nat) : Int) := by rw [IntKind.wrap_u64]; omega
 rw [e2, show (1085102592571150095 : Int) = ((1085102592571150095 : Nat) : Int) from rfl]
 rw [Go.bits_and_u64_nat _ _ (by omega) (by omega), h]
theorem f3_le : ∀ b : Fin 256, f3 (f2 (f1 b.val)) ≤ 8 := by decide +kernel
theorem sD_step (x q p y : Nat) (hx : x = 256 * q + p) (hp : p < 256) (hb : x + q < 18446744073709551616) (hy : y = x + q) : sD (x : Int) = (y : Int) := by
 unfold sD; rw [IntKind.wrap_u64, show (x : Int) / 256 = (q : Int) from by omega, Int.emod_eq_of_lt (by omega) (by omega)]; omega
theorem sE_step (x q p y : Nat) (hx : x = 65536 * q + p) (hp : p < 65536) (hb : x + q < 18446744073709551616) (hy : y = x + q) : sE (x : Int) = (y : Int) := by
 unfold sE; rw [IntKind.wrap_u64, show (x : Int) / 65536 = (q : Int) from by omega, Int.emod_eq_of_lt (by omega) (by omega)]; omega
theorem sF_step (x q p y : Nat) (hx : x = 4294967296 * q + p) (hp : p < 4294967296) (hb : x + q < 18446744073709551616) (hy : y = x + q) : sF (x : Int) = (y : Int) := by
 unfold sF; rw [IntKind.wrap_u64, show (x : Int) / 4294967296 = (q : Int) from by omega, Int.emod_eq_of_lt (by omega) (by omega)]; omega
theorem tail_nat (p0 p1 p2 p3 p4 p5 p6 p7 : Nat) (h0 : p0 ≤ 8) (h1 : p1 ≤ 8) (h2 : p2 ≤ 8) (h3 : p3 ≤ 8) (h4 : p4 ≤ 8) (h5 : p5 ≤ 8) (h6 : p6 ≤ 8) (h7 : p7 ≤ 8) (x n : Nat)
  (hx : x = p0 + 256 * p1 + 65536 * p2 + 16777216 * p3 + 4294967296 * p4 + 1099511627776 * p5 + 281474976710656 * p6 + 72057594037927936 * p7) (hn : n = p0 + p1 + p2 + p3 + p4 + p5 + p6 + p7) :
  ∃ z : Nat, sF (sE (sD (x : Int))) = ((256 * z + n : Nat) : Int) ∧ 256 * z + n < 9223372036854775808 := by
 obtain ⟨y, hy⟩ : ∃ y : Nat, y = (p0 + p1) + 256 * (p1 + p2) + 65536 * (p2 + p3) + 16777216 * (p3 + p4) + 4294967296 * (p4 + p5) + 1099511627776 * (p5 + p6) + 281474976710656 * (p6 + p7) + 72057594037927936 * p7 := ⟨_, rfl⟩
 obtain ⟨v, hv⟩ : ∃ v : Nat, v = (p0 + p1 + p2 + p3) + 256 * (p1 + p2 + p3 + p4) + 65536 * (p2 + p3 + p4 + p5) + 16777216 * (p3 + p4 + p5 + p6) + 4294967296 * (p4 + p5 + p6 + p7) + 1099511627776 * (p5 + p6 + p7) + 281474976710656 * (p6 + p7) + 72057594037927936 * p7 := ⟨_, rfl⟩
 have e1 : sD (x : Int) = (y : Int) := by
  apply sD_step _ (p1 + 256 * p2 + 65536 * p3 + 16777216 * p4 + 4294967296 * p5 + 1099511627776 * p6 + 281474976710656 * p7) p0 <;> (clear hv hn; subst hx hy; omega)
 have e2 : sE (y : Int) = (v : Int) := by
  apply sE_step _ ((p2 + p3) + 256 * (p3 + p4) + 65536 * (p4 + p5) + 16777216 * (p5 + p6) + 4294967296 * (p6 + p7) + 1099511627776 * p7) ((p0 + p1) + 256 * (p1 + p2)) <;> (clear hx hn e1; subst hv hy; omega)
 rw [e1, e2]
 clear e1 e2 hx hy
 refine ⟨(p1 + p2 + p3 + p4) + 256 * (p2 + p3 + p4 + p5) + 65536 * (p3 + p4 + p5 + p6) + 16777216 * (p4 + p5 + p6 + p7) + 4294967296 * (p5 + p6 + p7) + 1099511627776 * (p6 + p7) + 281474976710656 * p7 + (p5 + p6 + p7) + 256 * (p6 + p7) + 65536 * p7, ?_, by clear hv; subst hn; omega⟩
 apply sF_step _ ((p4 + p5 + p6 + p7) + 256 * (p5 + p6 + p7) + 65536 * (p6 + p7) + 16777216 * p7) ((p0 + p1 + p2 + p3) + 256 * (p1 + p2 + p3 + p4) + 65536 * (p2 + p3 + p4 + p5) + 16777216 * (p3 + p4 + p5 + p6)) <;> (subst hv hn; omega)
theorem and127 (z : Nat) (n : Nat) (hn : n ≤ 64) (h : 256 * z + n < 9223372036854775808) : Go.bits .and .i64 ((256 * z + n : Nat) : Int) 127 = (n : Int) := by
 show IntKind.i64.wrap ((BitVec.ofInt 64 ((256 * z + n : Nat) : Int) &&& BitVec.ofInt 64 127).toNat : Int) = _
 have h1 : (BitVec.ofInt 64 ((256 * z + n : Nat) : Int)).toNat = 256 * z + n := by
  rw [BitVec.ofInt_natCast, BitVec.toNat_ofNat]; exact Nat.mod_eq_of_lt (by omega)
 have h2 : (BitVec.ofInt 64 (127 : Int)).toNat = 127 := by decide
 have e : (256 * z + n) &&& 127 = n := by
  have := Nat.and_two_pow_sub_one_eq_mod (256 * z + n) 7
  rw [show (2 : Nat) ^ 7 - 1 = 127 from rfl] at this
  rw [this]; omega
 rw [BitVec.toNat_and, h1, h2, e]
 simp [IntKind.wrap, IntKind.bits, IntKind.signed]; omega
theorem ones_eq (s : Nat) (hs : IsSet s) : ∃ m : Nat, sF (sE (sD (sC (sB (sA (s : Int)))))) = (m : Int) ∧ m < 9223372036854775808 ∧ Go.bits .and .i64 (m : Int) 127 = (((lst s).length : Nat) : Int) := by
 obtain ⟨l, hl, hb, rfl⟩ := bytes_of s hs
 have hb1 : ∀ b ∈ l.map f1, b < 256 := by
  intro b hbm
  obtain ⟨c, hc, rfl⟩ := List.mem_map.1 hbm
  exact f1_lt ⟨c, hb c hc⟩
 have hb2 : ∀ b ∈ (l.map f1).map f2, b % 16 ≤ 4 ∧ b / 16 ≤ 4 ∧ b < 256 := by
  intro b hbm
  obtain ⟨c1, hc1, rfl⟩ := List.mem_map.1 hbm
  obtain ⟨c, hc, rfl⟩ := List.mem_map.1 hc1
  exact f21_ok ⟨c, hb c hc⟩
 rw [sA_nat _ l hl hb rfl, sB_nat _ _ (by simpa using hl) hb1 rfl, sC_nat _ _ (by simpa using hl) hb2 rfl]
 have hc := cnt_ofB l hb
 rw [hl] at hc
 have hlen : (lst (ofB l)).length = sumB (l.map fun b => f3 (f2 (f1 b))) := hc
 have hle : (lst (ofB l)).length ≤ 64 := lstTo_len _ _
 rw [hlen] at hle ⊢
 rw [List.map_map, List.map_map]
 match l, hl, hb with
 | [a, b, c, d, e, f, g, i], _, hb =>
  have q := fun x hx => f3_le ⟨x, hb x hx⟩
  simp only at q
  obtain ⟨z, hz1, hz2⟩ := tail_nat _ _ _ _ _ _ _ _ (q a (by simp)) (q b (by simp)) (q c (by simp)) (q d (by simp)) (q e (by simp)) (q f (by simp)) (q g (by simp)) (q i (by simp)) (ofB ([a, b, c, d, e, f, g, i].map (f3 ∘ f2 ∘ f1))) (sumB ([a, b, c, d, e, f, g, i].map fun b => f3 (f2 (f1 b)))) (by simp only [List.map_cons, List.map_nil, ofB, Function.comp]; omega) (by simp only [List.map_cons, List.map_nil, sumB]; omega)
  exact ⟨_, hz1, hz2, and127 _ _ hle hz2⟩
end

section
open Go.RowKit
theorem wrap64_nat (m : Nat) (h : m < 9223372036854775808) : wrap64 (m : Int) = (m : Int) := by unfold wrap64; omega
theorem ones_any (s : Nat) (w : World) (hs : IsSet s) :
  Calls Tryz.prog 283 #[.int .u64 (s : Int)] w fun e w' => e = .returned (.int .i64 (((lst s).length : Nat) : Int)) ∧ w = w' := by
 have H : Hid (IsSet s) := hid hs
 clear hs
 go_enter Tryz.func283, Tryz.ntmps283
 go_wp2
 go_ret
 refine ⟨?_, rfl⟩
 obtain ⟨m, h1, h2, h3⟩ := ones_eq s H.out
 refine ret_i ?_
 have e : Go.bits .and .i64 (wrap64 (sF (sE (sD (sC (sB (sA (s : Int)))))))) 127 = (((lst s).length : Nat) : Int) := by rw [h1, wrap64_nat m h2, h3]
 exact e
theorem scount_any (s : Nat) (w : World) (hs : IsSet s) :
  Calls Tryz.prog 261 #[.int .u64 (s : Int)] w fun e w' => e = .returned (.int .i64 (((lst s).length : Nat) : Int)) ∧ w = w' := by
 go_enter Tryz.func261, Tryz.ntmps261
 go_wp2_with (go_at_call 283; refine (ones_any _ _ hs).mono ?_; rintro e w' ⟨rfl, rfl⟩)
 go_ret
 exact ⟨rfl, rfl⟩
def Tab (w : World) : Prop := ∀ i, i < 64 → w.cell? ⟨3, i, none⟩ = some (.int .u8 (deB.getD i 0))
theorem Tab.pos {w : World} (h : Tab w) : 3 < w.heap.size := by
 have := h 0 (by omega)
 by_cases h0 : 3 < w.heap.size
 ·exact h0
 ·simp [World.cell?, Array.getElem?_eq_none (Nat.le_of_not_lt h0)] at this
theorem Tab.below {w w' : World} {B : Nat} (h : Tab w) (hb : Below B w w') (hB : 3 < B) : Tab w' :=
 fun i hi => (hb.cell (p := ⟨3, i, none⟩) hB).trans (h i hi)
theorem ntz_zero (w : World) :
  Calls Tryz.prog 284 #[.int .u64 0] w fun e w' => e = .returned (.int .i64 64) ∧ w = w' := by
 go_enter Tryz.func284, Tryz.ntmps284
 go_wp2
 go_ret
 exact ⟨rfl, rfl⟩
theorem ntz_walk (s p x k : Nat) (w : World) (h0 : 0 < s) (hn : Go.bits .and .u64 (s : Int) (IntKind.u64.wrap (-(s : Int))) = ((p : Nat) : Int))
  (hi : IntKind.u64.wrap ((p : Int) * 285870213051353865) / 288230376151711744 = ((x : Nat) : Int)) (hx : x < 64) (hc : w.cell? ⟨3, x, none⟩ = some (.int .u8 (k : Int))) (hk : k < 64) :
  Calls Tryz.prog 284 #[.int .u64 (s : Int)] w fun e w' => e = .returned (.int .i64 (k : Int)) ∧ w = w' := by
 go_enter Tryz.func284, Tryz.ntmps284
 go_wp2
 go_ret
 exact ⟨rfl, rfl⟩
theorem ntz_pos (s : Nat) (w : World) (hs : IsSet s) (h0 : 0 < s) (ht : Tab w) :
  Calls Tryz.prog 284 #[.int .u64 (s : Int)] w fun e w' => e = .returned (.int .i64 ((fst s : Nat) : Int)) ∧ w = w' := by
 have hlt := fst_lt (lst_ne hs h0)
 obtain ⟨hd1, hd2⟩ := deB_at ⟨fst s, hlt⟩
 simp only at hd1 hd2
 have hc := ht _ hd1
 rw [hd2] at hc
 exact ntz_walk s (2 ^ fst s) (deIdx (fst s)) (fst s) w h0 (bits_neg s hs h0) (de_idx (fst s)) hd1 hc hlt
theorem first_any (s : Nat) (w : World) (hs : IsSet s) (ht : Tab w) :
  Calls Tryz.prog 262 #[.int .u64 (s : Int)] w fun e w' => e = .returned (.int .i64 ((fst s : Nat) : Int)) ∧ w = w' := by
 have hz : Calls Tryz.prog 284 #[.int .u64 (s : Int)] w fun e w' => e = .returned (.int .i64 ((fst s : Nat) : Int)) ∧ w = w' := by
  rcases Nat.eq_zero_or_pos s with h | h
  ·subst h; exact ntz_zero w
  ·exact ntz_pos s w hs h ht
 have H := hid hz
 clear hz
 go_enter Tryz.func262, Tryz.ntmps262
 go_wp2_with (go_at_call 284; refine (H.out).mono ?_; rintro e w' ⟨rfl, rfl⟩)
 go_ret
 exact ⟨rfl, rfl⟩
def inB (s t : Nat) : Bool := (s ^^^ (s &&& t)) == 0
theorem bits_in (s t : Nat) (hs : IsSet s) (ht : IsSet t) : (Go.bits .andNot .u64 (s : Int) (t : Int) == 0) = inB s t := by
 rw [bits_andNot_u64_nat s t hs ht, inB, Bool.eq_iff_iff]; simp
theorem within_any (s t : Nat) (w : World) (hs : IsSet s) (ht : IsSet t) :
  Calls Tryz.prog 230 #[.int .u64 (s : Int), .int .u64 (t : Int)] w fun e w' => e = .returned (.bool (inB s t)) ∧ w = w' := by
 have H := hid (bits_in s t hs ht)
 clear hs ht
 go_enter Tryz.func230, Tryz.ntmps230
 go_wp2
 go_ret
 exact ⟨ret_b H.out, rfl⟩
def belowS (n : Int) : Nat := if n ≤ 0 then 0 else if 64 ≤ n then 18446744073709551615 else 2 ^ n.toNat - 1
end

section
open Go.ChangeShapes Go.WideShapes Go.ChangeAt Go.RowKit
theorem gTab : Tryz.prog.globalNamed "math/bits.deBruijn64tab" = some 3 := by kernel_rfl
theorem gTabType : (Tryz.prog.globals[3]?).map (·.type) = some 293 := by kernel_rfl
theorem cellsTab : Tryz.prog.cellsOf 293 = 64 := by kernel_rfl
theorem cellsU8 : Tryz.prog.cellsOf 5 = 1 := by kernel_rfl
end

section
open Go.RowKit
def askL : List Nat := [0, 1, 3, 9, 5, 11, 13, 17, 34, 36, 44, 48]
def nameL : List (List UInt8) := [[114, 101, 97, 100, 45, 97, 116, 111, 109, 105, 99], [115, 101, 115, 115, 105, 111, 110, 45, 97, 116, 111, 109, 105, 99], [99, 97, 117, 115, 97, 108], [117, 112, 100, 97, 116, 101], [112, 114, 101, 102, 105, 120], [112, 97, 114, 97, 108, 108, 101, 108], [115, 110, 97, 112, 115, 104, 111, 116], [115, 101, 114, 105, 97, 108], [116, 105, 109, 101, 45, 99, 97, 117, 115, 97, 108], [116, 105, 109, 101, 45, 112, 114, 101, 102, 105, 120], [116, 105, 109, 101, 45, 115, 110, 97, 112, 115, 104, 111, 116], [115, 116, 114, 105, 99, 116]]
def isLv (l : Int) : Bool := decide (0 ≤ l ∧ l < 12)
def askAt (k : Nat) : Nat := askL.getD k 0
def nameAt (k : Nat) : ByteArray := ⟨(nameL.getD k []).toArray⟩
def askN (l : Int) : Nat := if isLv l then askAt l.toNat else 0
def clN (k : Nat) : Nat :=
 let a := if k.testBit 4 then k ||| 12 else k
 let b := if a.testBit 2 then a ||| 2 else a
 if b.testBit 5 then b ||| 1 else b
def clI (x : Int) : Nat := clN (x % 64).toNat
theorem askAt_lt : ∀ k : Fin 12, askAt k.val < 64 := by decide
theorem askN_lt (l : Int) : askN l < 64 := by
 unfold askN isLv
 split
 ·rename_i h
  simp only [decide_eq_true_eq] at h
  exact askAt_lt ⟨l.toNat, by omega⟩
 ·omega
theorem clN_lt : ∀ k : Fin 64, clN k.val < 64 := by decide +kernel
theorem clI_lt (x : Int) : clI x < 64 := clN_lt ⟨(x % 64).toNat, by omega⟩
theorem and63 (n : Int) : bits .and .i64 n 63 = n % 64 := by
 have h1 : (BitVec.ofInt 64 63) = 63#64 := by decide
 show IntKind.i64.wrap ((BitVec.ofInt 64 n &&& BitVec.ofInt 64 63).toNat : Int) = _
 have h2 : (BitVec.ofInt 64 n &&& BitVec.ofInt 64 63).toNat = (BitVec.ofInt 64 n).toNat % 64 := by
  rw [BitVec.toNat_and, h1]
  exact Nat.and_two_pow_sub_one_eq_mod _ 6
 rw [h2, BitVec.toNat_ofInt, IntKind.wrap_i64]
 omega
theorem i64_and_nat (a b : Nat) (ha : a < 9223372036854775808) (hb : b < 9223372036854775808) : bits .and .i64 (a : Int) (b : Int) = ((a &&& b : Nat) : Int) := by
 have hx : a &&& b ≤ a := Nat.and_le_left
 have h1 : (BitVec.ofInt 64 (a : Int)).toNat = a := by
  rw [BitVec.ofInt_natCast, BitVec.toNat_ofNat]; exact Nat.mod_eq_of_lt (by omega)
 have h2 : (BitVec.ofInt 64 (b : Int)).toNat = b := by
  rw [BitVec.ofInt_natCast, BitVec.toNat_ofNat]; exact Nat.mod_eq_of_lt (by omega)
 show IntKind.i64.wrap ((BitVec.ofInt 64 (a : Int) &&& BitVec.ofInt 64 (b : Int)).toNat : Int) = _
 rw [BitVec.toNat_and, h1, h2, IntKind.wrap_i64]
 omega
theorem i64_or_nat (a b : Nat) (ha : a < 2 ^ 63) (hb : b < 2 ^ 63) : bits .or .i64 (a : Int) (b : Int) = ((a ||| b : Nat) : Int) := by
 have hx : a ||| b < 2 ^ 63 := Nat.or_lt_two_pow ha hb
 have h1 : (BitVec.ofInt 64 (a : Int)).toNat = a := by
  rw [BitVec.ofInt_natCast, BitVec.toNat_ofNat]; exact Nat.mod_eq_of_lt (by omega)
 have h2 : (BitVec.ofInt 64 (b : Int)).toNat = b := by
  rw [BitVec.ofInt_natCast, BitVec.toNat_ofNat]; exact Nat.mod_eq_of_lt (by omega)
 show IntKind.i64.wrap ((BitVec.ofInt 64 (a : Int) ||| BitVec.ofInt 64 (b : Int)).toNat : Int) = _
 rw [BitVec.toNat_or, h1, h2, IntKind.wrap_i64]
 omega
theorem i64_andNot_nat (a b : Nat) (ha : a < 2 ^ 63) (hb : b < 2 ^ 63) : bits .andNot .i64 (a : Int) (b : Int) = ((a ^^^ (a &&& b) : Nat) : Int) := by
 have hx : a ^^^ (a &&& b) < 2 ^ 63 := Nat.xor_lt_two_pow ha (Nat.lt_of_le_of_lt Nat.and_le_left ha)
 have h1 : (BitVec.ofInt 64 (a : Int)).toNat = a := by
  rw [BitVec.ofInt_natCast, BitVec.toNat_ofNat]; exact Nat.mod_eq_of_lt (by omega)
 have h2 : (BitVec.ofInt 64 (b : Int)).toNat = b := by
  rw [BitVec.ofInt_natCast, BitVec.toNat_ofNat]; exact Nat.mod_eq_of_lt (by omega)
 show IntKind.i64.wrap ((BitVec.ofInt 64 (a : Int) &&& ~~~ (BitVec.ofInt 64 (b : Int))).toNat : Int) = _
 have e : ∀ x y : BitVec 64, x &&& ~~~ y = x ^^^ (x &&& y) := by
  intro x y; ext i hi; simp; cases x[i] <;> cases y[i] <;> rfl
 rw [e, BitVec.toNat_xor, BitVec.toNat_and, h1, h2, IntKind.wrap_i64]
 omega
end

section
open Go.RowKit
def Kinds (w : World) : Prop := ∀ k, k < 12 → w.cell? ⟨0, k * 2, none⟩ = some (.string (nameAt k)) ∧ w.cell? ⟨0, k * 2 + 1, none⟩ = some (.int .i64 (askAt k))
theorem lret_b {a b : Bool} (h : a = b) : Ending.returned (.bool a) = .returned (.bool b) := by rw [h]
theorem lret_i {k : IntKind} {a b : Int} (h : a = b) : Ending.returned (.int k a) = .returned (.int k b) := by rw [h]
theorem lis_any (l : Int) (w : World) : Calls Tryz.prog 136 #[.int .i64 l] w fun e w' => e = .returned (.bool (isLv l)) ∧ w = w' := by
 have H : Hid ((decide (0 ≤ l) && decide (l < 12)) = isLv l) := hid (by unfold isLv; simp)
 by_cases h0 : 0 ≤ l
 ·have H1 : Hid (decide (l < 12) = isLv l) := hid (by rw [← H.out]; simp [h0])
  go_enter Tryz.func136, Tryz.ntmps136
  go_wp2
  go_ret
  exact ⟨lret_b H1.out, rfl⟩
 ·have H1 : Hid (false = isLv l) := hid (by rw [← H.out]; simp [h0])
  go_enter Tryz.func136, Tryz.ntmps136
  go_wp2
  go_ret
  exact ⟨lret_b H1.out, rfl⟩
theorem lis_yes {l : Int} (h : isLv l = true) (w : World) : Calls Tryz.prog 136 #[.int .i64 l] w fun e w' => e = .returned (.bool true) ∧ w = w' := by
 have := lis_any l w; rwa [h] at this
theorem lis_no {l : Int} (h : isLv l = false) (w : World) : Calls Tryz.prog 136 #[.int .i64 l] w fun e w' => e = .returned (.bool false) ∧ w = w' := by
 have := lis_any l w; rwa [h] at this
theorem lasks_any (l : Int) (w : World) (hK : Kinds w) : Calls Tryz.prog 138 #[.int .i64 l] w fun e w' => e = .returned (.int .i64 (askN l)) ∧ w = w' := by
 cases h : isLv l
 ·have C := hid (fun wx => lis_no h wx)
  have H : Hid (((askN l : Nat) : Int) = 0) := hid (by unfold askN; rw [h]; rfl)
  clear h hK
  rw [H.out]
  go_enter Tryz.func138, Tryz.ntmps138
  go_wp2_with (go_at_call 136; refine (C.out _).mono ?_; rintro e w' ⟨rfl, rfl⟩)
  go_ret
  exact ⟨rfl, rfl⟩
 ·have C := hid (fun wx => lis_yes h wx)
  have hl : 0 ≤ l ∧ l < 12 := by simpa [isLv] using h
  obtain ⟨k, rfl⟩ := Int.eq_ofNat_of_zero_le hl.1
  have hk : k < 12 := by omega
  have hki : (k : Int) < 12 := by omega
  have H : Hid (askN (k : Int) = askAt k) := hid (by unfold askN; rw [h]; rfl)
  have hc := (hK k hk).2
  clear h hK hl
  rw [H.out]
  generalize askAt k = a at *
  go_enter Tryz.func138, Tryz.ntmps138
  go_wp2_with (go_at_call 136; refine (C.out _).mono ?_; rintro e w' ⟨rfl, rfl⟩)
  go_ret
  exact ⟨rfl, rfl⟩
theorem cl_bits : ∀ k : Fin 64, (k.val &&& 16 = if k.val.testBit 4 then 16 else 0) ∧ (k.val &&& 4 = if k.val.testBit 2 then 4 else 0) ∧ (k.val &&& 32 = if k.val.testBit 5 then 32 else 0) ∧ (k.val ||| 12 < 64) ∧ (k.val ||| 2 < 64) ∧ (k.val ||| 1 < 64) := by decide +kernel
theorem cl_i64 (k : Nat) (hk : k < 64) : bits .and .i64 (k : Int) 16 = (if k.testBit 4 then 16 else 0) ∧ bits .and .i64 (k : Int) 4 = (if k.testBit 2 then 4 else 0) ∧ bits .and .i64 (k : Int) 32 = (if k.testBit 5 then 32 else 0) ∧
  bits .or .i64 (k : Int) 12 = ((k ||| 12 : Nat) : Int) ∧ bits .or .i64 (k : Int) 2 = ((k ||| 2 : Nat) : Int) ∧ bits .or .i64 (k : Int) 1 = ((k ||| 1 : Nat) : Int) ∧ (k ||| 12 < 64) ∧ (k ||| 2 < 64) := by
 obtain ⟨h1, h2, h3, h4, h5, h6⟩ := cl_bits ⟨k, hk⟩
 simp only at h1 h2 h3 h4 h5 h6
 refine ⟨?_, ?_, ?_, ?_, ?_, ?_, h4, h5⟩
 ·rw [show (16 : Int) = ((16 : Nat) : Int) from rfl, i64_and_nat k 16 (by omega) (by omega), h1]; split <;> rfl
 ·rw [show (4 : Int) = ((4 : Nat) : Int) from rfl, i64_and_nat k 4 (by omega) (by omega), h2]; split <;> rfl
 ·rw [show (32 : Int) = ((32 : Nat) : Int) from rfl, i64_and_nat k 32 (by omega) (by omega), h3]; split <;> rfl
 ·exact i64_or_nat k 12 (by omega) (by omega)
 ·exact i64_or_nat k 2 (by omega) (by omega)
 ·exact i64_or_nat k 1 (by omega) (by omega)
theorem cl_parts (x : Int) : ∃ k a b : Nat, bits .and .i64 x 63 = (k : Int) ∧
  ((bits .and .i64 (k : Int) 16 = 16 ∧ bits .or .i64 (k : Int) 12 = (a : Int)) ∨ (bits .and .i64 (k : Int) 16 = 0 ∧ a = k)) ∧
  ((bits .and .i64 (a : Int) 4 = 4 ∧ bits .or .i64 (a : Int) 2 = (b : Int)) ∨ (bits .and .i64 (a : Int) 4 = 0 ∧ b = a)) ∧
  ((bits .and .i64 (b : Int) 32 = 32 ∧ bits .or .i64 (b : Int) 1 = ((clI x : Nat) : Int)) ∨ (bits .and .i64 (b : Int) 32 = 0 ∧ clI x = b)) := by
 obtain ⟨k, hkx, hk⟩ : ∃ k : Nat, x % 64 = (k : Int) ∧ k < 64 := ⟨(x % 64).toNat, by omega, by omega⟩
 obtain ⟨k1, _, _, k4, _, _, ha, _⟩ := cl_i64 k hk
 obtain ⟨a, hA⟩ : ∃ a : Nat, a = if k.testBit 4 then k ||| 12 else k := ⟨_, rfl⟩
 have hal : a < 64 := by rw [hA]; split <;> omega
 obtain ⟨_, a2, _, _, a5, _, _, hb⟩ := cl_i64 a hal
 obtain ⟨b, hB⟩ : ∃ b : Nat, b = if a.testBit 2 then a ||| 2 else a := ⟨_, rfl⟩
 have hbl : b < 64 := by rw [hB]; split <;> omega
 obtain ⟨_, _, b3, _, _, b6, _, _⟩ := cl_i64 b hbl
 have hC : clI x = if b.testBit 5 then b ||| 1 else b := by unfold clI; rw [hkx, Int.toNat_natCast]; unfold clN; simp only; rw [← hA, ← hB]
 refine ⟨k, a, b, by rw [and63, hkx], ?_, ?_, ?_⟩
 ·cases t : k.testBit 4
  ·exact .inr ⟨by rw [k1, t]; rfl, by rw [hA, t]; rfl⟩
  ·exact .inl ⟨by rw [k1, t]; rfl, by rw [k4, hA, t]; rfl⟩
 ·cases t : a.testBit 2
  ·exact .inr ⟨by rw [a2, t]; rfl, by rw [hB, t]; rfl⟩
  ·exact .inl ⟨by rw [a2, t]; rfl, by rw [a5, hB, t]; rfl⟩
 ·cases t : b.testBit 5
  ·exact .inr ⟨by rw [b3, t]; rfl, by rw [hC, t]; rfl⟩
  ·exact .inl ⟨by rw [b3, t]; rfl, by rw [b6, hC, t]; rfl⟩
theorem lclosed_any (x : Int) (w : World) : Calls Tryz.prog 166 #[.int .i64 x] w fun e w' => e = .returned (.int .i64 (clI x)) ∧ w = w' := by
 obtain ⟨k, a, b, e0, h1, h2, h3⟩ := cl_parts x
 generalize clI x = c at *
 rcases h1 with ⟨e1, e2⟩ | ⟨e1, rfl⟩ <;> rcases h2 with ⟨e3, e4⟩ | ⟨e3, rfl⟩ <;> rcases h3 with ⟨e5, e6⟩ | ⟨e5, rfl⟩
 all_goals
  go_enter Tryz.func166, Tryz.ntmps166
  go_wp2
  go_ret
  exact ⟨rfl, rfl⟩
end

section
open Go.ChangeShapes Go.WideShapes Go.ChangeAt Go.RowKit
theorem gKinds : Tryz.prog.globalNamed "burgage/level.kinds" = some 0 := by kernel_rfl
theorem gKindsType : (Tryz.prog.globals[0]?).map (·.type) = some 232 := by kernel_rfl
theorem cellsKind : Tryz.prog.cellsOf 231 = 2 := by kernel_rfl
theorem cellsStr : Tryz.prog.cellsOf 9 = 1 := by kernel_rfl
theorem cellsInt : Tryz.prog.cellsOf 3 = 1 := by kernel_rfl
theorem laidKinds {H : Type} : (Rows.laid_burgage_level_kinds : DataW H) = .agg ((List.range 12).map fun k => .agg [.lit (.string (nameL.getD k [])), .lit (.int .i64 (askAt k))]) := rfl
theorem kinds_of {W : World} (h : laidMetH Tryz.prog [("burgage/level.kinds", Rows.laid_burgage_level_kinds)] W) : Kinds W := by
 obtain ⟨ps, ⟨g', t', cs, fuel, p, q, hg', ht', hvar, hd, _, _⟩, _⟩ := h
 obtain rfl := Option.some.inj (gKinds.symm.trans hg')
 obtain rfl := Option.some.inj (gKindsType.symm.trans ht')
 obtain ⟨xs, m, rfl, hx, hlen, hxl, hat⟩ := DataW.trod_array Tryz.underlying232 hd
 intro k hk
 have h1 := hat k hk
 have hxk : xs[k]? = some xs[k] := List.getElem?_eq_getElem (by omega)
 rw [hxk, cellsKind] at h1
 obtain ⟨y0, y1, n, hy, hcl, h2, h3⟩ := trod_struct2 Tryz.underlying231 h1
 have hdat := congrArg Prod.fst hx
 rw [laidKinds] at hdat
 simp only [DataW.agg.injEq] at hdat
 have hk2 := congrArg (·[k]?) hdat
 simp only [List.getElem?_map, hxk, Option.map_some, List.getElem?_range hk, hy, Option.some.injEq, DataW.agg.injEq, List.cons.injEq, and_true] at hk2
 obtain ⟨e0, e1⟩ := hk2
 rw [cellsStr] at h2
 rw [cellsInt] at h3
 obtain ⟨s, c0, rfl, _⟩ := DataW.trod_string Tryz.underlying9 h2
 obtain ⟨z, c1, rfl, _⟩ := DataW.trod_int Tryz.underlying3 h3
 simp only [DataW.lit.injEq, Lit.string.injEq, Lit.int.injEq, true_and] at e0 e1
 have hs : s = nameAt k := by unfold nameAt; rw [e0]
 subst hs
 subst e1
 constructor
 ·rw [World.var?_cell gKinds hvar]
  have := congrArg (·[0]?) c0
  simpa [List.getElem?_take, List.getElem?_drop] using this
 ·rw [World.var?_cell gKinds hvar]
  have := congrArg (·[0]?) c1
  simpa [List.getElem?_take, List.getElem?_drop] using this
def leafS : DataW Unit → List Value
 | .lit (.int k n) => [.int k n]
 | .lit (.bool b) => [.bool b]
 | .lit (.string l) => [.string ⟨l.toArray⟩]
 | _ => []
def leafSS : DataW Unit → List Value
 | .agg ds => ds.flatMap fun d => match d with
  | .agg es => es.flatMap leafS
  | d => leafS d
 | d => leafS d
def setS (h : Array Obj) (g : Nat) (d : DataW Unit) : Array Obj := h.modify g fun
 | .cells _ t frozen => .cells (leafSS d).toArray t frozen
 | o => o
end

section
def cutL (c : UInt8) : List UInt8 → List (List UInt8)
 | [] => [[]]
 | b :: l => if b = c then [] :: cutL c l else (b :: (cutL c l).headD []) :: (cutL c l).tail
theorem cutL_ne (c : UInt8) (l : List UInt8) : cutL c l ≠ [] := by
 cases l with
 | nil => simp [cutL]
 | cons b l => unfold cutL; split <;> simp
theorem cutL_length (c : UInt8) : ∀ l : List UInt8, (cutL c l).length = l.count c + 1
 | [] => rfl
 | b :: l => by
  have ih := cutL_length c l
  unfold cutL
  split
  ·rename_i h; subst h; simp [ih]
  ·rename_i h
   have : (b :: l).count c = l.count c := List.count_cons_of_ne (by simpa using h)
   rw [this]; simp [ih]
theorem cutL_none {c : UInt8} : ∀ {l : List UInt8}, (∀ x ∈ l, x ≠ c) → cutL c l = [l]
 | [], _ => rfl
 | b :: l, h => by
  have hb := h b List.mem_cons_self
  have ih := cutL_none (l := l) (fun x hx => h x (List.mem_cons_of_mem _ hx))
  unfold cutL
  rw [if_neg hb, ih]; rfl
theorem cutL_app {c : UInt8} (r : List UInt8) : ∀ {a : List UInt8}, (∀ x ∈ a, x ≠ c) → cutL c (a ++ c :: r) = a :: cutL c r
 | [], _ => by simp [cutL]
 | b :: a, h => by
  have hb := h b List.mem_cons_self
  have ih := cutL_app r (a := a) (fun x hx => h x (List.mem_cons_of_mem _ hx))
  rw [List.cons_append, cutL, if_neg hb, ih]; rfl
theorem index_app (c : UInt8) (r : List UInt8) : ∀ (a : List UInt8), (∀ x ∈ a, x ≠ c) → Lib.index (a ++ c :: r) [c] = (a.length : Int)
 | [], _ => by rw [List.nil_append, Lib.index]; simp [List.isPrefixOf]
 | b :: a, h => by
  have hb := h b List.mem_cons_self
  have ih := index_app c r a (fun x hx => h x (List.mem_cons_of_mem _ hx))
  have hp : ([c] : List UInt8).isPrefixOf (b :: (a ++ c :: r)) = false := by simp [List.isPrefixOf, Ne.symm hb]
  rw [List.cons_append, Lib.index, hp, ih]
  have : ((a.length : Int) == -1) = false := by rw [beq_eq_false_iff_ne]; omega
  simp [this]
theorem first_of (c : UInt8) : ∀ (l : List UInt8), (∀ x ∈ l, x ≠ c) ∨ ∃ a r, l = a ++ c :: r ∧ ∀ x ∈ a, x ≠ c
 | [] => .inl (by simp)
 | b :: l => by
  by_cases hb : b = c
  ·exact .inr ⟨[], l, by rw [hb]; rfl, by simp⟩
  ·rcases first_of c l with h | ⟨a, r, rfl, h⟩
   ·refine .inl fun x hx => ?_
    rcases List.mem_cons.1 hx with rfl | hx
    ·exact hb
    ·exact h x hx
   ·refine .inr ⟨b :: a, r, rfl, fun x hx => ?_⟩
    rcases List.mem_cons.1 hx with rfl | hx
    ·exact hb
    ·exact h x hx
theorem splitK_cut (c : UInt8) : ∀ (k : Nat) (l : List UInt8), l.count c = k → Lib.splitK [c] 0 k l = cutL c l
 | 0, l, h => by
  have hn : ∀ x ∈ l, x ≠ c := by
   intro x hx e
   subst e
   exact absurd (List.count_pos_iff.2 hx) (by omega)
  rw [Lib.splitK, cutL_none hn]
 | k + 1, l, h => by
  rcases first_of c l with hn | ⟨a, r, rfl, ha⟩
  ·exfalso
   have : l.count c = 0 := List.count_eq_zero.2 (fun hm => hn c hm rfl)
   omega
  ·have hix := index_app c r a ha
   have hm : (Lib.index (a ++ c :: r) [c] == -1) = false := by rw [hix, beq_eq_false_iff_ne]; omega
   have hc : r.count c = k := by
    have : a.count c = 0 := List.count_eq_zero.2 (fun hm => ha c hm rfl)
    rw [List.count_append, List.count_cons_self, this] at h
    omega
   rw [Lib.splitK, hm, hix, cutL_app r ha]
   simp only [Bool.false_eq_true, if_false, Int.toNat_natCast, Nat.add_zero, List.length_cons, List.length_nil]
   have e1 : (a ++ c :: r).take a.length = a := by simp
   have e2 : (a ++ c :: r).drop (a.length + (0 + 1)) = r := by
    rw [show a ++ c :: r = (a ++ [c]) ++ r from by simp]
    rw [List.drop_append_of_le_length (by simp)]
    simp
   rw [e1, e2, splitK_cut c k r hc]
def cutB (c : UInt8) (s : ByteArray) : List ByteArray := (cutL c s.data.toList).map fun l => ⟨l.toArray⟩
theorem byteArray_ext {a b : ByteArray} (h : a.data.toList = b.data.toList) : a = b := by
 obtain ⟨⟨a⟩⟩ := a; obtain ⟨⟨b⟩⟩ := b; simp at h; rw [h]
theorem splitB_cut (c : UInt8) (s : ByteArray) : Lib.splitB ⟨#[c]⟩ 0 (Lib.countB s ⟨#[c]⟩) s = cutB c s := by
 have h := Lib.splitB_data ⟨#[c]⟩ 0 (Lib.countB s ⟨#[c]⟩) s
 have hc : Lib.countB s ⟨#[c]⟩ = s.data.toList.count c := Lib.count_one c _
 rw [hc] at h ⊢
 rw [show (⟨#[c]⟩ : ByteArray).data.toList = [c] from rfl, splitK_cut c _ _ rfl] at h
 unfold cutB
 rw [← h, List.map_map]
 symm
 calc _ = (Lib.splitB ⟨#[c]⟩ 0 (s.data.toList.count c) s).map id := List.map_congr_left (fun a _ => byteArray_ext (by simp))
  _ = _ := List.map_id _
theorem countB_cut (c : UInt8) (s : ByteArray) : Lib.countB s ⟨#[c]⟩ = s.data.toList.count c := Lib.count_one c _
theorem cutB_length (c : UInt8) (s : ByteArray) : (cutB c s).length = s.data.toList.count c + 1 := by
 unfold cutB; rw [List.length_map, cutL_length]
def isD (b : UInt8) : Bool := decide (48 ≤ b.toNat) && decide (b.toNat ≤ 57)
def valL (l : List UInt8) : Nat := l.foldl (fun n b => n * 10 + (b.toNat - 48)) 0
def nought (l : List UInt8) : Bool := decide (1 < l.length) && (l.headD 0 == 48)
def okN (l : List UInt8) : Bool := decide (0 < l.length) && l.all isD && !nought l && decide (valL l ≤ 2147483647)
def numV (l : List UInt8) : Nat := if okN l = true then valL l else 0
theorem valL_snoc (l : List UInt8) (b : UInt8) : valL (l ++ [b]) = valL l * 10 + (b.toNat - 48) := by unfold valL; rw [List.foldl_append]; rfl
theorem valL_mono (r : List UInt8) : ∀ l : List UInt8, valL l ≤ valL (l ++ r) := by
 induction r with
 | nil => intro l; simp
 | cons b r ih =>
  intro l
  have h1 := ih (l ++ [b])
  rw [List.append_assoc, List.singleton_append] at h1
  have h2 := valL_snoc l b
  omega
theorem valL_take_le (l : List UInt8) (k : Nat) : valL (l.take k) ≤ valL l := by
 have := valL_mono (l.drop k) (l.take k)
 rwa [List.take_append_drop] at this
theorem valL_take_succ (l : List UInt8) (k : Nat) (hk : k < l.length) : valL (l.take (k + 1)) = valL (l.take k) * 10 + (l[k].toNat - 48) := by
 rw [List.take_succ_eq_append_getElem hk, valL_snoc]
theorem okN_empty {l : List UInt8} (h : l.length = 0) : okN l = false := by
 unfold okN; simp [h]
theorem okN_nought {l : List UInt8} (h : nought l = true) : okN l = false := by
 unfold okN; simp [h]
theorem okN_digit {l : List UInt8} {k : Nat} (hk : k < l.length) (h : isD l[k] = false) : okN l = false := by
 unfold okN
 have : l.all isD = false := by
  rw [List.all_eq_false]
  exact ⟨l[k], List.getElem_mem hk, by simp [h]⟩
 simp [this]
theorem okN_big {l : List UInt8} {k : Nat} (h : 2147483647 < valL (l.take k)) : okN l = false := by
 unfold okN
 have := valL_take_le l k
 have : decide (valL l ≤ 2147483647) = false := by simp; omega
 simp [this]
theorem numV_no {l : List UInt8} (h : okN l = false) : numV l = 0 := by unfold numV; simp [h]
def digTo (l : List UInt8) (k : Nat) : Prop := ∀ b ∈ l.take k, isD b = true
theorem digTo_zero (l : List UInt8) : digTo l 0 := by intro b hb; simp at hb
theorem digTo_succ {l : List UInt8} {k : Nat} (h : digTo l k) (hk : k < l.length) (hd : isD l[k] = true) : digTo l (k + 1) := by
 intro b hb
 rw [List.take_succ_eq_append_getElem hk, List.mem_append] at hb
 rcases hb with hb | hb
 ·exact h b hb
 ·rw [List.mem_singleton] at hb; subst hb; exact hd
theorem okN_yes {l : List UInt8} (h0 : 0 < l.length) (hn : nought l = false) (hd : digTo l l.length) (hv : valL (l.take l.length) ≤ 2147483647) : okN l = true ∧ numV l = valL (l.take l.length) := by
 rw [List.take_length] at hv
 have h1 : okN l = true := by
  unfold okN
  have : l.all isD = true := by
   rw [List.all_eq_true]
   intro b hb
   exact hd b (by rw [List.take_length]; exact hb)
  simp [h0, hn, this, hv]
 exact ⟨h1, by unfold numV; rw [if_pos h1, List.take_length]⟩
theorem numV_le (l : List UInt8) : numV l ≤ 2147483647 := by
 unfold numV
 split
 ·rename_i h; unfold okN at h; simp at h; exact h.2
 ·omega
/-! ### Numerals -/
theorem isD_ofNat {d : Nat} (h : d < 10) : isD (UInt8.ofNat (48 + d)) = true ∧ (UInt8.ofNat (48 + d)).toNat = 48 + d := by
 have e : (UInt8.ofNat (48 + d)).toNat = 48 + d := by rw [UInt8.toNat_ofNat']; omega
 refine ⟨?_, e⟩
 unfold isD; rw [e]; simp; omega
theorem dec_small {u : Nat} (h : u < 10) : Lib.decDigits u = [UInt8.ofNat (48 + u)] := by rw [Lib.decDigits, dif_pos h]
theorem dec_big {u : Nat} (h : ¬ u < 10) : Lib.decDigits u = Lib.decDigits (u / 10) ++ [UInt8.ofNat (48 + u % 10)] := by rw [Lib.decDigits, dif_neg h]
theorem decm_all (u : Nat) : (∀ b ∈ Lib.decDigits u, isD b = true) ∧ valL (Lib.decDigits u) = u ∧ 0 < (Lib.decDigits u).length ∧ (0 < u → (Lib.decDigits u).headD 0 ≠ 48) := by
 induction u using Nat.strongRecOn with
 | _ u ih =>
  by_cases h : u < 10
  ·obtain ⟨h1, h2⟩ := isD_ofNat h
   rw [dec_small h]
   refine ⟨?_, ?_, by simp, ?_⟩
   ·intro b hb; rw [List.mem_singleton] at hb; subst hb; exact h1
   ·unfold valL; simp only [List.foldl_cons, List.foldl_nil, h2]; omega
   ·intro h0 he
    have : (UInt8.ofNat (48 + u)).toNat = 48 := by rw [show UInt8.ofNat (48 + u) = 48 from he]; rfl
    omega
  ·obtain ⟨i1, i2, i3, i4⟩ := ih (u / 10) (by omega)
   obtain ⟨h1, h2⟩ := isD_ofNat (Nat.mod_lt u (by decide : 0 < 10))
   rw [dec_big h]
   refine ⟨?_, ?_, by simp, ?_⟩
   ·intro b hb
    rw [List.mem_append] at hb
    rcases hb with hb | hb
    ·exact i1 b hb
    ·rw [List.mem_singleton] at hb; subst hb; exact h1
   ·rw [valL_snoc, i2, h2]; omega
   ·intro _
    have := i4 (by omega)
    cases hd : Lib.decDigits (u / 10) with
    | nil => rw [hd] at i3; simp at i3
    | cons a r => rw [hd] at this; simpa using this
theorem dec_nought (u : Nat) : nought (Lib.decDigits u) = false := by
 unfold nought
 by_cases h : u < 10
 ·rw [dec_small h]; rfl
 ·have h4 := (decm_all u).2.2.2 (by omega)
  have : ((Lib.decDigits u).headD 0 == 48) = false := by simpa using h4
  rw [this]; simp
theorem numV_dec {u : Nat} (h : u ≤ 2147483647) : okN (Lib.decDigits u) = true ∧ numV (Lib.decDigits u) = u := by
 obtain ⟨h1, h2, h3, _⟩ := decm_all u
 have hk : okN (Lib.decDigits u) = true := by
  unfold okN
  have : (Lib.decDigits u).all isD = true := List.all_eq_true.2 h1
  simp [this, h3, dec_nought, h2, h]
 exact ⟨hk, by unfold numV; rw [if_pos hk, h2]⟩
end

section
open Go.RowKit
theorem ret_nb {a a' : Int} {b b' : Bool} (h : a = a') (k : b = b') : Ending.returned (.tuple #[.int .i64 a, .bool b]) = .returned (.tuple #[.int .i64 a', .bool b']) := by rw [h, k]
theorem at_data {s : ByteArray} {k : Nat} (h : k < s.size) : k < s.data.toList.length ∧ ∀ h', s.data.toList[k]'h' = s[k] := by
 have e : s.data.toList.length = s.size := (Lib.size_eq s).symm
 exact ⟨by omega, fun _ => rfl⟩
theorem empty_of {s : ByteArray} (h : s.size = 0) : s.toList = [] ∧ s.toList.isEmpty = true := by
 have : s.data.toList = [] := List.eq_nil_of_length_eq_zero (by rw [← Lib.size_eq]; exact h)
 rw [ByteArray.toList_eq, this]; exact ⟨rfl, rfl⟩
theorem some_of {s : ByteArray} (h : 0 < s.size) : (¬ s.toList = []) ∧ s.toList.isEmpty = false := by
 have : s.data.toList ≠ [] := by
  intro e
  have := Lib.size_eq s
  rw [e, List.length_nil] at this; omega
 rw [ByteArray.toList_eq]
 exact ⟨this, by cases h : s.data.toList with | nil => exact absurd h this | cons a l => rfl⟩
theorem headD_at : ∀ (l : List UInt8) (h : 0 < l.length), l.headD 0 = l[0]
 | _ :: _, _ => rfl
theorem nought_of {s : ByteArray} (h : 1 < s.size) : nought s.data.toList = ((s[0].toNat : Int) == 48) := by
 have hl := Lib.size_eq s
 obtain ⟨h0, e⟩ := at_data (s := s) (k := 0) (by omega)
 unfold nought
 have : s.data.toList.headD 0 = s[0] := by
  rw [← e h0]; exact headD_at _ h0
 rw [this, ← hl]
 have h1 : decide (1 < s.size) = true := by simp; omega
 rw [h1, Bool.true_and, Bool.eq_iff_iff, beq_iff_eq, beq_iff_eq]
 constructor
 ·intro h; rw [h]; rfl
 ·intro h; exact UInt8.toNat_inj.1 (by simpa using (by omega : s[0].toNat = 48))
theorem nought_one {s : ByteArray} (h : s.size = 1) : nought s.data.toList = false := by
 unfold nought; rw [← Lib.size_eq s, h]; rfl
def NumAt (l : List UInt8) (k : Nat) (v : Nat) : Prop := digTo l k ∧ v = valL (l.take k) ∧ v ≤ 2147483647
theorem NumAt.start (l : List UInt8) : NumAt l 0 0 := ⟨digTo_zero l, rfl, by omega⟩
theorem isD_iff (b : UInt8) : isD b = true ↔ 48 ≤ b.toNat ∧ b.toNat ≤ 57 := by unfold isD; simp
theorem NumAt.next {s : ByteArray} {k v : Nat} (h : NumAt s.data.toList k v) (hk : k < s.size) (h0 : 48 ≤ s[k].toNat) (h1 : s[k].toNat ≤ 57) (h2 : v * 10 + (s[k].toNat - 48) ≤ 2147483647) :
  NumAt s.data.toList (k + 1) (v * 10 + (s[k].toNat - 48)) := by
 obtain ⟨hl, e⟩ := at_data hk
 obtain ⟨hd, rfl, _⟩ := h
 exact ⟨digTo_succ hd hl (by rw [e hl]; exact (isD_iff _).2 ⟨h0, h1⟩), by rw [valL_take_succ _ _ hl, e hl], h2⟩
theorem NumAt.no {s : ByteArray} {k v : Nat} (h : NumAt s.data.toList k v) (hk : k < s.size) (hn : s[k].toNat < 48 ∨ 57 < s[k].toNat ∨ 2147483647 < v * 10 + (s[k].toNat - 48)) : okN s.data.toList = false := by
 obtain ⟨hl, e⟩ := at_data hk
 obtain ⟨hd, rfl, _⟩ := h
 have hx : isD s[k] = false → okN s.data.toList = false := fun h => okN_digit hl (by rw [e hl]; exact h)
 rcases hn with hn | hn | hn
 ·exact hx (by cases h : isD s[k]; rfl; have := (isD_iff _).1 h; omega)
 ·exact hx (by cases h : isD s[k]; rfl; have := (isD_iff _).1 h; omega)
 ·exact okN_big (k := k + 1) (by rw [valL_take_succ _ _ hl, e hl]; exact hn)
theorem NumAt.yes {s : ByteArray} {k v : Nat} (h : NumAt s.data.toList k v) (hk : k = s.size) (h0 : 0 < s.size) (hn : nought s.data.toList = false) : okN s.data.toList = true ∧ numV s.data.toList = v := by
 have hl := Lib.size_eq s
 subst hk
 obtain ⟨hd, rfl, hv⟩ := h
 rw [hl] at hd hv h0 ⊢
 exact okN_yes h0 hn hd hv
theorem num_step (v c : Nat) (h : 48 ≤ c) : ((v : Int) * 10 + ((c : Int) - 48)) = ((v * 10 + (c - 48) : Nat) : Int) := by omega
theorem number_any (s : ByteArray) (w : World) (hs : s.size ≤ maxLen) :
  Calls Tryz.prog 238 #[.string s] w fun e w' => e = .returned (.tuple #[.int .i64 ((numV s.data.toList : Nat) : Int), .bool (okN s.data.toList)]) ∧ w = w' := by
 unfold maxLen at hs
 by_cases h0 : s.size = 0
 ·obtain ⟨h1, h2⟩ := empty_of h0
  have hk := okN_empty (l := s.data.toList) (by rw [← Lib.size_eq]; exact h0)
  have H := hid (show (0 : Int) = ((numV s.data.toList : Nat) : Int) ∧ false = okN s.data.toList from ⟨by rw [numV_no hk]; rfl, hk.symm⟩)
  clear hk h0
  go_enter Tryz.func238, Tryz.ntmps238
  go_wp2_with fail
  go_ret2
  exact ⟨ret_nb H.out.1 H.out.2, rfl⟩
 have hpos : 0 < s.size := by omega
 obtain ⟨h1, h2⟩ := some_of hpos
 clear h0
 by_cases hno : nought s.data.toList = true
 ·have hk := okN_nought hno
  have H := hid (show (0 : Int) = ((numV s.data.toList : Nat) : Int) ∧ false = okN s.data.toList from ⟨by rw [numV_no hk]; rfl, hk.symm⟩)
  have hl : 1 < s.size := by
   by_cases h : s.size = 1
   ·rw [nought_one h] at hno; cases hno
   ·omega
  have hl' : (1 : Int) < (s.size : Int) := by omega
  have h48 := nought_of hl
  rw [hno] at h48
  have h48' : ((s[0].toNat : Int) == 48) = true := h48.symm
  clear hk hno h48
  go_enter Tryz.func238, Tryz.ntmps238
  go_wp2_with fail
  go_ret2
  exact ⟨ret_nb H.out.1 H.out.2, rfl⟩
 have hno' : nought s.data.toList = false := by simpa using hno
 have HNO := hid hno'
 clear hno hno'
 have HS : Hid (NumAt s.data.toList 0 0) := hid (NumAt.start _)
 rcases Nat.lt_or_ge 1 s.size with hl | hl
 case' inl =>
  have hl' : (1 : Int) < (s.size : Int) := by omega
  have h48 := nought_of hl
  rw [HNO.out] at h48
  have h48' : ((s[0].toNat : Int) == 48) = false := h48.symm
  clear h48
 case' inr =>
  have hl' : ¬ (1 : Int) < (s.size : Int) := by omega
 all_goals
  go_enter Tryz.func238, Tryz.ntmps238
  go_wp2_with fail
  go_loop [4, 21] (fun n i => ∃ k v : Nat, k ≤ s.size ∧ i = .int .i64 k ∧ n = .int .i64 v ∧ NumAt s.data.toList k v) (fun _ i => s.size - (intOf i).toNat)
  case atStart => exact ⟨0, 0, by omega, rfl, rfl, HS.out⟩
  case round =>
   obtain ⟨k, v, hk, rfl, rfl, hat⟩ := hrel
   have hv : (v : Int) ≤ 2147483647 := by have := hat.2.2; omega
   have hv0 : (0 : Int) ≤ (v : Int) := by omega
   have HAT := hid hat
   clear hat h1 h2
   by_cases hlt : k < s.size
   ·have hki : (k : Int) < (s.size : Int) := by omega
    have hb : s[k].toNat < 256 := UInt8.toNat_lt _
    by_cases hbad : s[k].toNat < 48 ∨ 57 < s[k].toNat ∨ 2147483647 < v * 10 + (s[k].toNat - 48)
    ·have hk0 := HAT.out.no hlt hbad
     have H := hid (show (0 : Int) = ((numV s.data.toList : Nat) : Int) ∧ false = okN s.data.toList from ⟨by rw [numV_no hk0]; rfl, hk0.symm⟩)
     clear hk0
     by_cases c1 : (s[k].toNat : Int) - 48 < 0
     ·go_wp2_with fail
      go_ret2
      exact ⟨ret_nb H.out.1 H.out.2, rfl⟩
     ·by_cases c2 : 9 < (s[k].toNat : Int) - 48
      ·go_wp2_with fail
       go_ret2
       exact ⟨ret_nb H.out.1 H.out.2, rfl⟩
      ·have c3 : (2147483647 - ((s[k].toNat : Int) - 48)) / 10 < (v : Int) := by omega
       go_wp2_with fail
       go_ret2
       exact ⟨ret_nb H.out.1 H.out.2, rfl⟩
    ·have b1 : 48 ≤ s[k].toNat := by omega
     have b2 : s[k].toNat ≤ 57 := by omega
     have b3 : v * 10 + (s[k].toNat - 48) ≤ 2147483647 := by omega
     have HN := hid (HAT.out.next hlt b1 b2 b3)
     have HE := hid (num_step v s[k].toNat b1)
     have c1 : ¬ (s[k].toNat : Int) - 48 < 0 := by omega
     have c2 : ¬ 9 < (s[k].toNat : Int) - 48 := by omega
     have c3 : ¬ (2147483647 - ((s[k].toNat : Int) - 48)) / 10 < (v : Int) := by omega
     have c4 : (v : Int) * 10 + ((s[k].toNat : Int) - 48) ≤ 2147483647 := by omega
     clear hbad b3
     go_wp2_with fail
     go_round
     case rel => exact ⟨k + 1, _, by omega, by go_num, by rw [HE.out], HN.out⟩
     case measure => simp [intOf]; omega
   ·obtain ⟨e1, e2⟩ := HAT.out.yes (by omega) hpos HNO.out
    have H := hid (show ((v : Nat) : Int) = ((numV s.data.toList : Nat) : Int) ∧ true = okN s.data.toList from ⟨by rw [e2], e1.symm⟩)
    clear e1 e2
    go_wp2_with fail
    go_ret2
    exact ⟨ret_nb H.out.1 H.out.2, rfl⟩
end

section
open Go.RowKit
def hasL (l : List Int) (n : Int) : Bool := l.any fun x => x == n
end

section
open Go.RowKit
def ofTo (l : List Int) : Nat → Nat
 | 0 => 0
 | m + 1 => 2 * ofTo l m + if hasL l (63 - (m : Int)) then 1 else 0
def ofL (l : List Int) : Nat := ofTo l 64
theorem ofTo_lt (l : List Int) : ∀ m, ofTo l m < 2 ^ m
 | 0 => by simp [ofTo]
 | m + 1 => by
  have := ofTo_lt l m
  simp only [ofTo, Nat.pow_succ]
  split <;> omega
theorem testBit_ofTo (l : List Int) : ∀ m i, m ≤ 64 → (ofTo l m).testBit i = (decide (i < m) && hasL l ((64 - m + i : Nat) : Int))
 | 0, i, _ => by simp [ofTo]
 | m + 1, i, hm => by
  have hb : (if hasL l (63 - (m : Int)) = true then 1 else 0) < 2 ^ 1 := by split <;> omega
  show (2 ^ 1 * ofTo l m + (if hasL l (63 - (m : Int)) = true then 1 else 0)).testBit i = _
  rw [Nat.testBit_two_pow_mul_add _ hb]
  by_cases h0 : i = 0
  ·subst h0
   have e : ((64 - (m + 1) + 0 : Nat) : Int) = 63 - (m : Int) := by omega
   rw [e]
   cases hasL l (63 - (m : Int)) <;> simp
  ·rw [if_neg (by omega), testBit_ofTo l m (i - 1) (by omega)]
   have e : 64 - m + (i - 1) = 64 - (m + 1) + i := by omega
   rw [e]
   congr 1
   simp; omega
theorem testBit_ofL (l : List Int) (i : Nat) : (ofL l).testBit i = (decide (i < 64) && hasL l (i : Int)) := by
 unfold ofL
 rw [testBit_ofTo l 64 i (by omega)]; simp
theorem isSet_ofL (l : List Int) : IsSet (ofL l) := by
 rw [isSet_iff]; exact ofTo_lt l 64
def setL (l : List Int) : Nat := l.foldl withS 0
theorem testBit_foldl (l : List Int) : ∀ (s : Nat) (i : Nat), i < 64 → (l.foldl withS s).testBit i = (s.testBit i || hasL l (i : Int)) := by
 induction l with
 | nil => intro s i _; simp [hasL]
 | cons a l ih =>
  intro s i hi
  rw [List.foldl_cons, ih _ i hi, testBit_withS]
  unfold hasL
  rw [List.any_cons, Bool.or_assoc]
  congr 2
  rw [Bool.eq_iff_iff]; simp; omega
theorem isSet_foldl (l : List Int) : ∀ (s : Nat), IsSet s → IsSet (l.foldl withS s) := by
 induction l with
 | nil => intro s h; exact h
 | cons a l ih => intro s h; exact ih _ (isSet_withS h)
theorem isSet_setL (l : List Int) : IsSet (setL l) := isSet_foldl l 0 (by unfold IsSet; omega)
theorem setL_eq (l : List Int) : setL l = ofL l := by
 apply set_ext (isSet_setL l) (isSet_ofL l)
 intro i hi
 rw [testBit_ofL, setL, testBit_foldl l 0 i hi]; simp [hi]
end

section
open Go.RowKit
theorem infoInt : (Tryz.prog.info? 3).map (fun i => (i.zero, i.size, i.bytes)) = some (some (.int .i64 0), 1, 8) := by kernel_rfl
theorem below_app {B : Nat} {W wr w1 : World} {o : Obj} {e : TypeId} {n size : Nat} {v : Value} {xs : List Value} (hb : Below B W wr) (hB : B ≤ W.heap.size) (hown : wr.ownsRow B e size v n xs)
  (hg : (wr.alloc o).grownBy w1 v.ownBlock) : Below B W w1 :=
 (hb.alloc (Nat.le_trans hB hb.size) o).grown hg (by have := hb.size; simp; omega) fun k hk => (hown.lt k hk).1
end

section
open Go.RowKit
def Strs (w : World) (v : Value) (xs : List ByteArray) : Prop := Row w v xs.length 1 (xs.map Value.string)
theorem Strs.below {w w' : World} {v : Value} {xs : List ByteArray} (h : Strs w v xs) (hb : Below w.heap.size w w') : Strs w' v xs := Row.below h hb
theorem Strs.of_owns {w : World} {base : Nat} {e : TypeId} {v : Value} {n : Nat} {xs : List ByteArray} (h : w.ownsRow base e 1 v n (xs.map Value.string)) : Strs w v xs := by
 have hr := Row.of_owns h
 have hn : n = xs.length := by have := h.1; simp at this; omega
 subst hn; exact hr
theorem Strs.form {w : World} {v : Value} {xs : List ByteArray} (h : Strs w v xs) : ∃ ao cap, v = .slice ao xs.length cap ∧ (xs.length ≤ cap ∧ cap ≤ 9223372036854775807) ∧ (ao = none → xs.length = 0 ∧ cap = 0) := by
 obtain ⟨_, ao, cap, rfl, hm, hno, _⟩ := h
 exact ⟨ao, cap, rfl, hm, hno⟩
theorem Strs.at {w : World} {ao : Option Addr} {n cap : Nat} {xs : List ByteArray} (h : Strs w (.slice ao n cap) xs) {k : Nat} (hk : k < xs.length) :
  ∃ b off, ao = some ⟨b, off, none⟩ ∧ w.cell? ⟨b, off + k, none⟩ = some (.string xs[k]) := by
 obtain ⟨_, ao', cap', he, hm, _, hc⟩ := h
 obtain ⟨rfl, _, _⟩ : ao = ao' ∧ n = xs.length ∧ cap = cap' := by simpa using he
 obtain ⟨b, off, rfl, hcell⟩ := hc (by omega)
 refine ⟨b, off, rfl, ?_⟩
 rw [hcell k (by omega)]
 simp [List.getElem?_eq_getElem hk]
end

section
open Go.RowKit
def EnvM (w : World) : Prop := ∃ m, w.cell? ⟨1, 0, none⟩ = some (.int .i64 m)
def Env (w : World) : Prop := Lib.TabIs Tryz.prog w "internal/strconv.uint64pow10" .u64 Lib.pow10Tab ∧ EnvM w
theorem EnvM.below {w w' : World} (h : EnvM w) (hb : Below w.heap.size w w') : EnvM w' := by
 obtain ⟨m, hm⟩ := h
 exact ⟨m, by rw [hb.cell (p := ⟨1, 0, none⟩) (block_lt hm)]; exact hm⟩
theorem Env.m {w : World} (h : Env w) : EnvM w := h.2
instance envCoe {w : World} : Coe (Env w) (EnvM w) := ⟨Env.m⟩
theorem Env.pos {w : World} (h : Env w) : 2 < w.heap.size := by
 have := h.1.cell gTen 0 (by decide)
 exact block_lt this
theorem Env.below {w w' : World} (h : Env w) (hb : Below w.heap.size w w') : Env w' := by
 exact ⟨var?_below hb gTen h.pos h.1, h.m.below hb⟩
theorem count_byte (s : ByteArray) (c : UInt8) (w : World) :
  Calls Tryz.prog 236 #[.string s, .string ⟨#[c]⟩] w fun e w' => e = .returned (.int .i64 (((cutB c s).length : Int) - 1)) ∧ w = w' :=
 (Tryz.strings_Count_one s c w).mono fun e w' ⟨he, hw⟩ => ⟨by
  rw [he, cutB_length]
  show Ending.returned (Value.int .i64 ((s.data.toList.count c : Nat) : Int)) = _
  congr 2; omega, hw.symm⟩
theorem split_byte (s : ByteArray) (c : UInt8) (w : World) (he : EnvM w) (hs : s.size ≤ 100000) :
  Calls Tryz.prog 142 #[.string s, .string ⟨#[c]⟩] w fun e w' => e = .returned (.slice (some ⟨w.heap.size, 0, none⟩) (cutB c s).length (cutB c s).length) ∧ w' = w.alloc (.cells ((cutB c s).map Value.string).toArray 9) := by
 obtain ⟨m, hm⟩ := he
 refine (Tryz.strings_Split s ⟨#[c]⟩ m w (by omega) hm (Nat.le_refl 1)).mono fun e w' ⟨he, hw⟩ => ?_
 rw [countB_cut, ← cutB_length] at he
 rw [splitB_cut] at hw
 exact ⟨he, hw⟩
theorem cut_len_le (c : UInt8) (s : ByteArray) : (cutB c s).length ≤ s.size + 1 ∧ 1 ≤ (cutB c s).length := by
 rw [cutB_length]
 have : s.data.toList.count c ≤ s.data.toList.length := List.count_le_length
 have := Lib.size_eq s
 omega
theorem strs_lit (w : World) (xs : List ByteArray) (hm : xs.length ≤ maxLen) :
  Strs (w.alloc (.cells (xs.map Value.string).toArray 9)) (.slice (some ⟨w.heap.size, 0, none⟩) xs.length xs.length) xs := by
 have h := World.ownsRow_lit (base := 0) (e := 9) (size := 1) w (xs.map Value.string).toArray xs.length (Nat.zero_le _) hm (by simp)
 exact Strs.of_owns (by simpa using h)
def linesB (s : ByteArray) : List ByteArray := (cutB 10 s).dropLast
def endedB (s : ByteArray) : Bool := ((cutB 10 s).getLastD ⟨#[]⟩).toList.isEmpty
theorem Strs.cut {w : World} {b n : Nat} {P : List ByteArray} (h : Strs w (.slice (some ⟨b, 0, none⟩) (n + 1) (n + 1)) P) : Strs w (.slice (some ⟨b, 0, none⟩) n n) P.dropLast := by
 obtain ⟨hl, ao, cap, he, hm, hno, hc⟩ := h
 obtain ⟨rfl, hpl, rfl⟩ : some ⟨b, 0, none⟩ = ao ∧ n + 1 = P.length ∧ n + 1 = cap := by simpa using he
 have hdl : P.dropLast.length = n := by rw [List.length_dropLast]; omega
 refine ⟨by simp, some ⟨b, 0, none⟩, n, by rw [hdl], by rw [hdl]; omega, (fun h => by cases h), fun hn => ?_⟩
 obtain ⟨b', off, he', hcell⟩ := hc (by omega)
 cases he'
 refine ⟨b, 0, rfl, fun i hi => ?_⟩
 rw [hdl] at hi
 rw [hcell i (by omega), List.map_dropLast, List.getElem?_dropLast, if_pos (by rw [List.length_map]; omega)]
theorem last_at {P : List ByteArray} {n : Nat} (h : P.length = n + 1) (hn : n < P.length) : P.getLastD ⟨#[]⟩ = P[n] := by
 rw [List.getLastD_eq_getLast?, List.getLast?_eq_getElem?, h]
 simp [List.getElem?_eq_getElem hn]
theorem ret_vb {v : Value} {b b' : Bool} (h : b = b') : Ending.returned (.tuple #[v, .bool b]) = .returned (.tuple #[v, .bool b']) := by rw [h]
theorem lines_any (s : ByteArray) (w : World) (he : EnvM w) (hs : s.size ≤ 100000) :
  Calls Tryz.prog 99 #[.string s] w fun e w' => ∃ v, e = .returned (.tuple #[v, .bool (endedB s)]) ∧ Strs w' v (linesB s) ∧ Below w.heap.size w w' := by
 have CS := hid (split_byte s 10 w he hs)
 obtain ⟨hl1, hl2⟩ := cut_len_le 10 s
 have hS := strs_lit w (cutB 10 s) (by unfold maxLen; omega)
 have hb := (Below.refl w.heap.size w).alloc (Nat.le_refl _) (.cells ((cutB 10 s).map Value.string).toArray 9)
 have HL : Hid (linesB s = (cutB 10 s).dropLast ∧ endedB s = ((cutB 10 s).getLastD ⟨#[]⟩).toList.isEmpty) := hid ⟨rfl, rfl⟩
 generalize cutB 10 s = P at *
 obtain ⟨n, hn⟩ : ∃ n, P.length = n + 1 := ⟨P.length - 1, by omega⟩
 have hnl : n < P.length := by omega
 rw [hn] at hS CS
 obtain ⟨b, off, hao, hc⟩ := hS.at (k := n) hnl
 cases hao
 rw [Nat.zero_add] at hc
 have HQ := hid (last_at hn hnl)
 have HS := hid hS.cut
 clear hS hl2
 generalize P[n] = q at *
 have hnb : (n : Int) ≤ 1000000 := by omega
 clear hn hnl hl1 he hs
 go_enter Tryz.func99, Tryz.ntmps99
 go_wp2_with fail
 refine (CS.out).mono ?_
 rintro e w' ⟨rfl, rfl⟩
 generalize w.alloc (.cells (P.map Value.string).toArray 9) = w1 at *
 clear CS
 go_wp2_with fail
 go_quiet (fail)
 go_wp2_with fail
 go_ret2
 exact ⟨_, ret_vb (by rw [HL.out.2, HQ.out]), by rw [HL.out.1]; exact Row.drewN HS.out _, below_drewN hb _⟩
end

section
open Go.ChangeShapes Go.WideShapes Go.ChangeAt Go.RowKit
theorem laidMet_head {P : Program} {x : String × DataW Unit} {r : List (String × DataW Unit)} {w : World} (h : laidMet P (x :: r) w) : laidMet P [x] w := by
 obtain ⟨ps, hv, hnd, hrows⟩ := h
 obtain ⟨n, d⟩ := x
 obtain ⟨g, t, cs, fuel, p, q, e1, e2, e3, e4, hq, rfl⟩ := hv
 have hs : List.Sublist (MemPlace.row ⟨g, 0, none⟩ cs.size ++ p ++ []) (MemPlace.row ⟨g, 0, none⟩ cs.size ++ p ++ q) := by
  rw [List.append_nil]; exact List.sublist_append_left _ _
 exact ⟨_, ⟨g, t, cs, fuel, p, [], e1, e2, e3, e4, rfl, rfl⟩, List.Nodup.sublist hs hnd, fun b off hm => hrows b off (hs.subset hm)⟩
theorem tab_at {W : World} {r : List (String × DataW Unit)} (h : laidMet Tryz.prog (("math/bits.deBruijn64tab", Rows.laid_math_bits_deBruijn64tab) :: r) W) : Tab W := by
 have ht : Lib.TabIs Tryz.prog W "math/bits.deBruijn64tab" .u8 deB :=
  Lib.tabIs_of_head (rest := r) gTab gTabType Tryz.underlying293 Tryz.underlying5 cellsU8 cellsTab h
 intro i hi
 exact ht.cell gTab i hi
theorem envm_of {W : World} (hs : W.ShapedOpen Tryz.prog) : EnvM W := Tryz.laysM146.s1_3 W hs
def listY : List (String × DataW Unit) := ("math/bits.deBruijn32tab", Rows.laid_math_bits_deBruijn32tab) :: ("math/bits.deBruijn64tab", Rows.laid_math_bits_deBruijn64tab) :: ("internal/strconv.uint64pow10", Rows.laid_internal_strconv_uint64pow10) :: [("unicode/utf8.acceptRanges", Rows.laid_unicode_utf8_acceptRanges), ("burgage/level.kinds", Rows.laid_burgage_level_kinds), ("unicode/utf8.first", Rows.laid_unicode_utf8_first)]
theorem tab_of_y {W : World} (h : laidMet Tryz.prog listY W) : Tab W := tab_at (laidMet.tail h)
theorem kinds_of_y {W : World} (h : laidMet Tryz.prog listY W) : Kinds W := kinds_of (laidMet_head (laidMet.tail (laidMet.tail (laidMet.tail (laidMet.tail h)))))
theorem env_of_y {W : World} (h : laidMet Tryz.prog listY W) (hs : W.ShapedOpen Tryz.prog) : Env W :=
 ⟨Lib.tabIs_of_head (rest := [("unicode/utf8.acceptRanges", Rows.laid_unicode_utf8_acceptRanges), ("burgage/level.kinds", Rows.laid_burgage_level_kinds), ("unicode/utf8.first", Rows.laid_unicode_utf8_first)]) gTen gTenType Tryz.underlying339 Tryz.underlying105 cellsU64 cellsTen (laidMet.tail (laidMet.tail h)), envm_of hs⟩
noncomputable def laidWorldY (os : Os) : World :=
 { World.holding Tryz.prog os ⟨#[], #[], []⟩ with heap := setS (setS (setS (setS (setS (setS (World.holding Tryz.prog os ⟨#[], #[], []⟩).heap 6 Rows.laid_math_bits_deBruijn32tab) 3 Rows.laid_math_bits_deBruijn64tab) 2 Rows.laid_internal_strconv_uint64pow10) 5 Rows.laid_unicode_utf8_acceptRanges) 0 Rows.laid_burgage_level_kinds) 4 Rows.laid_unicode_utf8_first }
theorem laidY (os : Os) : laidMet Tryz.prog listY (laidWorldY os) := laidMet_of_run' 8 (by kernel_rfl) (by kernel_rfl)
end

section
open Go.ChangeShapes Go.WideShapes Go.ChangeAt Go.RowKit Go.Deep
theorem cellsOp : Tryz.prog.cellsOf 79 = 3 := by kernel_rfl
theorem ops_of_cells {H : Type} {enc : TypeId × Value → H} {W : World} {v : Value} {fuel : Nat} {x : DataW H × List MemPlace}
  (hf : DataW.trod enc Tryz.prog W 0 (fun _ => true) true fuel 81 [v] = some x) : ∃ l, Ops W v l ∧ (∀ o ∈ l, o.ok) ∧ ((∀ n ∈ DataW.weights Tryz.prog 81 x.1, n ≤ reachBytes) → l.length ≤ 6000000000000) := by
 rcases open_slice Tryz.underlying81 hf with ⟨hcs, _⟩ | ⟨a, len, cap, m, n, D, Pl, hcs, _, hl, hm, hmm, hx, hi⟩
 ·obtain rfl : v = .slice none 0 0 := by simpa using hcs
  exact ⟨[], ⟨rfl, none, 0, rfl, by simp, (fun _ => ⟨rfl, rfl⟩), (fun h => by simp at h)⟩, by simp, by simp⟩
 ·obtain rfl : v = .slice (some a) len cap := by simpa using hcs
  simp only [if_true] at hmm
  have key : ∀ i, ∃ o : OpV, i < len → o.ok ∧ W.cell? ((a.add (i * 3)).add 0) = some (.bool o.wr) ∧ W.cell? ((a.add (i * 3)).add 1) = some (.int .i64 o.key) ∧ W.cell? ((a.add (i * 3)).add 2) = some (.int .i64 o.val) := fun i => by
   by_cases hlt : i < len
   ·obtain ⟨cs', hc, ht⟩ := hi i (by omega)
    rw [cellsOp] at hc
    obtain ⟨_, hcl, hat⟩ := World.cells?_some hc
    obtain ⟨y0, y1, y2, n', _, _, h0, h1, h2⟩ := trod_struct3 Tryz.underlying79 ht
    match cs', hcl with
    | [x0, x1, x2], _ =>
     obtain ⟨b, e0, _⟩ := DataW.trod_bool Tryz.underlying4 h0
     obtain ⟨k, e1, _, w1⟩ := DataW.trod_int Tryz.underlying3 h1
     obtain ⟨z, e2, _, w2⟩ := DataW.trod_int Tryz.underlying3 h2
     have k0 : Tryz.prog.cellsOf 4 = 1 := by kernel_rfl
     have k1 : Tryz.prog.cellsOf 3 = 1 := by kernel_rfl
     simp [k0, k1] at e0 e1 e2
     subst e0; subst e1; subst e2
     exact ⟨⟨b, k, z⟩, fun _ => ⟨⟨bounds_i64 w1, bounds_i64 w2⟩, hat 0 (by omega), hat 1 (by omega), hat 2 (by omega)⟩⟩
   ·exact ⟨opZ, fun h => absurd h hlt⟩
  obtain ⟨O, hO⟩ := Classical.skolem.1 key
  have hlen : ((List.range len).map O).length = len := by simp
  have hel : ∀ (i : Nat) (h : i < ((List.range len).map O).length), ((List.range len).map O)[i] = O i := fun i h => by simp
  refine ⟨(List.range len).map O, ?_, ?_, ?_⟩
  ·generalize (List.range len).map O = l at *
   subst hlen
   refine ⟨opV_len l, some a, cap, rfl, ⟨hl, hm⟩, (fun h => by cases h), fun hn => ?_⟩
   obtain ⟨b, off, spot⟩ := a
   have hspot : spot = none := by
    have := (hO 0 hn).2.1
    simpa [Addr.add] using World.cell?_spot this
   subst hspot
   refine ⟨b, off, rfl, fun i hii => ?_⟩
   have hk : i / 3 < l.length := by omega
   obtain ⟨_, c0, c1, c2⟩ := hO (i / 3) hk
   simp only [Addr.add_lit] at c0 c1 c2
   obtain ⟨e0, e1, e2⟩ := opV_at l (i / 3) hk
   rw [hel _ hk] at e0 e1 e2
   have hm3 : i % 3 = 0 ∨ i % 3 = 1 ∨ i % 3 = 2 := by omega
   rcases hm3 with h | h | h
   ·rw [show i = i / 3 * 3 from by omega, e0, ← c0]; rfl
   ·rw [show i = i / 3 * 3 + 1 from by omega, e1, ← c1, ← Nat.add_assoc]
   ·rw [show i = i / 3 * 3 + 2 from by omega, e2, ← c2, ← Nat.add_assoc]
  ·intro o ho
   obtain ⟨i, hi2, rfl⟩ := List.mem_map.1 ho
   exact (hO i (List.mem_range.1 hi2)).1
  ·intro hw
   rw [hlen]
   have hb24 : Tryz.prog.bytesOf 79 = 24 := by kernel_rfl
   have := hw ((((List.range len).map D).length + ((List.range (m - len)).map fun j => D (len + j)).length) * Tryz.prog.bytesOf 79) (by rw [hx]; simp [DataW.weights, Tryz.underlying81])
   rw [hb24] at this
   unfold reachBytes at this
   simp at this
   omega
end

section
open Go.RowKit
structure TxnV where
 s : Int
 b : Int
 c : Int
 v : Value
 l : List OpV
def TxnV.ok (t : TxnV) : Prop := (IntOk t.s ∧ IntOk t.b ∧ IntOk t.c) ∧ ∀ o ∈ t.l, o.ok
def txV (h : List TxnV) : List Value := h.flatMap fun t => [.int .i64 t.s, .int .i64 t.b, .int .i64 t.c, t.v]
theorem txV_len (h : List TxnV) : (txV h).length = h.length * 4 := by
 induction h with
 | nil => rfl
 | cons a l ih => unfold txV at *; rw [List.flatMap_cons, List.length_append, ih]; simp; omega
theorem txV_at : ∀ (l : List TxnV) (k : Nat) (hk : k < l.length), (txV l)[k * 4]? = some (.int .i64 l[k].s) ∧ (txV l)[k * 4 + 1]? = some (.int .i64 l[k].b) ∧ (txV l)[k * 4 + 2]? = some (.int .i64 l[k].c) ∧ (txV l)[k * 4 + 3]? = some l[k].v
 | a :: l, 0, _ => ⟨rfl, rfl, rfl, rfl⟩
 | a :: l, k + 1, hk => by
  obtain ⟨h0, h1, h2, h3⟩ := txV_at l k (by simpa using hk)
  have e : ∀ j, (txV (a :: l))[(k + 1) * 4 + j]? = (txV l)[k * 4 + j]? := fun j => by
   unfold txV
   rw [List.flatMap_cons, show (k + 1) * 4 + j = 4 + (k * 4 + j) from by omega]
   rw [List.getElem?_append_right (by simp)]
   simp
  exact ⟨(e 0).trans h0, (e 1).trans h1, (e 2).trans h2, (e 3).trans h3⟩
def Txns (w : World) (v : Value) (h : List TxnV) : Prop := Row w v h.length 4 (txV h) ∧ ∀ t ∈ h, Ops w t.v t.l
theorem Txns.below {w w' : World} {v : Value} {h : List TxnV} (hT : Txns w v h) (hb : Below w.heap.size w w') : Txns w' v h := ⟨Row.below hT.1 hb, fun t ht => (hT.2 t ht).below hb⟩
theorem Txns.form {w : World} {v : Value} {l : List TxnV} (h : Txns w v l) : ∃ ao cap, v = .slice ao l.length cap ∧ l.length ≤ 9223372036854775807 := by
 obtain ⟨⟨_, ao, cap, rfl, hm, _, _⟩, _⟩ := h
 exact ⟨ao, cap, rfl, Nat.le_trans hm.1 hm.2⟩
theorem Txns.at {w : World} {ao : Option Addr} {n cap : Nat} {l : List TxnV} (h : Txns w (.slice ao n cap) l) {k : Nat} (hk : k < l.length) :
  ∃ b off, ao = some ⟨b, off, none⟩ ∧ w.cell? ⟨b, off + k * 4, none⟩ = some (.int .i64 l[k].s) ∧ w.cell? ⟨b, off + k * 4 + 1, none⟩ = some (.int .i64 l[k].b) ∧ w.cell? ⟨b, off + k * 4 + 2, none⟩ = some (.int .i64 l[k].c) ∧ w.cell? ⟨b, off + k * 4 + 3, none⟩ = some l[k].v := by
 obtain ⟨⟨_, ao', cap', he, hm, _, hc⟩, _⟩ := h
 obtain ⟨rfl, _, _⟩ : ao = ao' ∧ n = l.length ∧ cap = cap' := by simpa using he
 obtain ⟨b, off, rfl, hcell⟩ := hc (by omega)
 obtain ⟨h0, h1, h2, h3⟩ := txV_at l k hk
 refine ⟨b, off, rfl, ?_, ?_, ?_, ?_⟩
 ·rw [hcell (k * 4) (by omega), h0]
 ·rw [Nat.add_assoc, hcell (k * 4 + 1) (by omega), h1]
 ·rw [Nat.add_assoc, hcell (k * 4 + 2) (by omega), h2]
 ·rw [Nat.add_assoc, hcell (k * 4 + 3) (by omega), h3]
theorem Txns.ops {w : World} {v : Value} {l : List TxnV} (h : Txns w v l) {k : Nat} (hk : k < l.length) : Ops w l[k].v l[k].l := h.2 _ (List.getElem_mem hk)
end

section
open Go.ChangeShapes Go.WideShapes Go.ChangeAt Go.RowKit Go.Deep
theorem cellsTxn : Tryz.prog.cellsOf 83 = 4 := by kernel_rfl
theorem weightsAll_mem {H : Type} {P : Program} {e : TypeId} {d : DataW H} {n : Nat} (hn : n ∈ d.weights P e) : ∀ {ds : List (DataW H)}, d ∈ ds → n ∈ DataW.weightsAll P e ds
 | a :: ds, h => by
  unfold DataW.weightsAll
  rcases List.mem_cons.1 h with rfl | h
  ·exact List.mem_append_left _ hn
  ·exact List.mem_append_right _ (weightsAll_mem hn h)
theorem txns_of_trod {H : Type} {enc : TypeId × Value → H} {W : World} {base : Nat} {v : Value} {d : DataW H} {p : List MemPlace}
  (hval : Value.okWide Tryz.prog W .any base 22 v) (h : DataW.Trod enc Tryz.prog W 0 (fun _ => true) true 22 v d p) (hwt : ∀ n ∈ DataW.weights Tryz.prog 22 d, n ≤ reachBytes) : ∃ l, Txns W v l ∧ (∀ t ∈ l, t.ok) ∧ ∀ t ∈ l, t.l.length ≤ 6000000000000 := by
 obtain ⟨a0, len, cap, rfl⟩ := okWide_slice Tryz.underlying22 hval
 obtain ⟨fuel, hf⟩ := h
 rcases open_slice Tryz.underlying22 hf with ⟨hcs, _⟩ | ⟨a, len', cap', m, n, D, Pl, hcs, _, hl, hm, hmm, hx, hi⟩
 ·simp [Value.cells] at hcs
  obtain ⟨rfl, rfl, rfl⟩ := hcs
  exact ⟨[], ⟨⟨rfl, none, 0, rfl, by simp, (fun _ => ⟨rfl, rfl⟩), (fun h => by simp at h)⟩, by simp⟩, by simp, by simp⟩
 ·simp [Value.cells] at hcs
  obtain ⟨rfl, rfl, rfl⟩ := hcs
  simp only [if_true] at hmm
  have key : ∀ i, ∃ t : TxnV, i < len → (t.ok ∧ t.l.length ≤ 6000000000000) ∧ Ops W t.v t.l ∧ W.cell? ((a.add (i * 4)).add 0) = some (.int .i64 t.s) ∧ W.cell? ((a.add (i * 4)).add 1) = some (.int .i64 t.b) ∧ W.cell? ((a.add (i * 4)).add 2) = some (.int .i64 t.c) ∧ W.cell? ((a.add (i * 4)).add 3) = some t.v := fun i => by
   by_cases hlt : i < len
   ·obtain ⟨cs', hc, ht⟩ := hi i (by omega)
    rw [cellsTxn] at hc
    obtain ⟨_, hcl, hat⟩ := World.cells?_some hc
    obtain ⟨y0, y1, y2, y3, n', hy, _, h0, h1, h2, h3⟩ := Joins.trod_struct4 Tryz.underlying83 ht
    match cs', hcl with
    | [x0, x1, x2, x3], _ =>
     obtain ⟨s, e0, _, w0⟩ := DataW.trod_int Tryz.underlying3 h0
     obtain ⟨b, e1, _, w1⟩ := DataW.trod_int Tryz.underlying3 h1
     obtain ⟨c, e2, _, w2⟩ := DataW.trod_int Tryz.underlying3 h2
     have k1 : Tryz.prog.cellsOf 3 = 1 := by kernel_rfl
     have k3 : Tryz.prog.cellsOf 81 = 1 := by kernel_rfl
     simp [k1] at e0 e1 e2
     subst e0; subst e1; subst e2
     simp [k3] at h3
     obtain ⟨l, hlo, hok, hlw⟩ := ops_of_cells h3
     have hll := hlw (fun q hq => hwt q (by
      rw [show d = _ from congrArg Prod.fst hx]
      simp only [DataW.weights, Tryz.underlying22]
      refine List.mem_cons_of_mem _ (List.mem_append_left _ (weightsAll_mem (d := D i) ?_ (List.mem_map.2 ⟨i, List.mem_range.2 hlt, rfl⟩)))
      have hy1 := congrArg Prod.fst hy
      rw [show D i = _ from hy1]
      simp only [DataW.weights, Tryz.underlying83, DataW.weightsEach, List.map_cons, List.map_nil]
      simp [hq]))
     exact ⟨⟨s, b, c, x3, l⟩, fun _ => ⟨⟨⟨⟨bounds_i64 w0, bounds_i64 w1, bounds_i64 w2⟩, hok⟩, hll⟩, hlo, hat 0 (by omega), hat 1 (by omega), hat 2 (by omega), hat 3 (by omega)⟩⟩
   ·exact ⟨⟨0, 0, 0, .nilIface, []⟩, fun h => absurd h hlt⟩
  obtain ⟨O, hO⟩ := Classical.skolem.1 key
  have hlen : ((List.range len).map O).length = len := by simp
  have hel : ∀ (i : Nat) (h : i < ((List.range len).map O).length), ((List.range len).map O)[i] = O i := fun i h => by simp
  refine ⟨(List.range len).map O, ⟨?_, ?_⟩, ?_, ?_⟩
  ·generalize (List.range len).map O = l at *
   subst hlen
   refine ⟨txV_len l, some a, cap, rfl, ⟨hl, hm⟩, (fun h => by cases h), fun hn => ?_⟩
   obtain ⟨b, off, spot⟩ := a
   have hspot : spot = none := by
    have := (hO 0 hn).2.2.1
    simpa [Addr.add] using World.cell?_spot this
   subst hspot
   refine ⟨b, off, rfl, fun i hii => ?_⟩
   have hk : i / 4 < l.length := by omega
   obtain ⟨_, _, c0, c1, c2, c3⟩ := hO (i / 4) hk
   simp only [Addr.add_lit] at c0 c1 c2 c3
   obtain ⟨e0, e1, e2, e3⟩ := txV_at l (i / 4) hk
   rw [hel _ hk] at e0 e1 e2 e3
   have hm4 : i % 4 = 0 ∨ i % 4 = 1 ∨ i % 4 = 2 ∨ i % 4 = 3 := by omega
   rcases hm4 with h | h | h | h
   ·rw [show i = i / 4 * 4 from by omega, e0, ← c0]; rfl
   ·rw [show i = i / 4 * 4 + 1 from by omega, e1, ← c1, ← Nat.add_assoc]
   ·rw [show i = i / 4 * 4 + 2 from by omega, e2, ← c2, ← Nat.add_assoc]
   ·rw [show i = i / 4 * 4 + 3 from by omega, e3, ← c3, ← Nat.add_assoc]
  ·intro t ht
   obtain ⟨i, hi2, rfl⟩ := List.mem_map.1 ht
   exact (hO i (List.mem_range.1 hi2)).2.1
  ·intro t ht
   obtain ⟨i, hi2, rfl⟩ := List.mem_map.1 ht
   exact (hO i (List.mem_range.1 hi2)).1.1
  ·intro t ht
   obtain ⟨i, hi2, rfl⟩ := List.mem_map.1 ht
   exact (hO i (List.mem_range.1 hi2)).1.2
end

section
open Go.RowKit
theorem block_lt' {w : World} {a : Addr} {v : Value} (h : w.cell? a = some v) : a.block < w.heap.size := by
 by_cases h0 : a.block < w.heap.size
 ·exact h0
 ·simp [World.cell?, Array.getElem?_eq_none (Nat.le_of_not_lt h0)] at h
theorem Kinds.below {w w' : World} (h : Kinds w) (hb : Below w.heap.size w w') : Kinds w' := fun k hk => by
 obtain ⟨h1, h2⟩ := h k hk
 exact ⟨(hb.cell (block_lt' h1)).trans h1, (hb.cell (block_lt' h2)).trans h2⟩
end

section
open Go.RowKit
def missN (a b : Int) : Nat := askN b ^^^ (askN b &&& clN (askN a))
def impB (a b : Int) : Bool := isLv a && (isLv b && decide (missN a b = 0))
theorem clI_ask (a : Int) : clI (askN a : Int) = clN (askN a) := by
 have h := askN_lt a
 unfold clI
 have e : ((askN a : Nat) : Int) % 64 = (askN a : Int) := by omega
 rw [e, Int.toNat_natCast]
theorem lmiss_any (a b : Int) (w : World) (hK : Kinds w) : Calls Tryz.prog 156 #[.int .i64 a, .int .i64 b] w fun e w' => e = .returned (.int .i64 (missN a b)) ∧ w = w' := by
 have ha := askN_lt a
 have hb := askN_lt b
 have hc := clN_lt ⟨askN a, ha⟩
 simp only at hc
 have H : Hid (bits .andNot .i64 (askN b : Int) (clN (askN a) : Int) = (missN a b : Int)) := hid (i64_andNot_nat _ _ (by omega) (by omega))
 have CA := hid (fun l => lasks_any l w hK)
 have CC : Hid (Calls Tryz.prog 166 #[.int .i64 (askN a)] w fun e w' => e = .returned (.int .i64 (clN (askN a))) ∧ w = w') := hid (by have h := lclosed_any (askN a) w; rwa [clI_ask] at h)
 clear hK hc ha hb
 go_enter Tryz.func156, Tryz.ntmps156
 go_wp2_with (first
  | (go_at_call 138; refine (CA.out _).mono ?_; rintro e w' ⟨rfl, rfl⟩)
  | (go_at_call 166; refine (CC.out).mono ?_; rintro e w' ⟨rfl, rfl⟩))
 go_ret
 exact ⟨lret_i H.out, rfl⟩
theorem limp_any (a b : Int) (w : World) (hK : Kinds w) : Calls Tryz.prog 117 #[.int .i64 a, .int .i64 b] w fun e w' => e = .returned (.bool (impB a b)) ∧ w = w' := by
 have CM := hid (lmiss_any a b w hK)
 have H : Hid (impB a b = (isLv a && (isLv b && decide (missN a b = 0)))) := hid rfl
 have HE : Hid ((((missN a b : Nat) : Int) == 0) = decide (missN a b = 0)) := hid (by rw [Bool.eq_iff_iff, beq_iff_eq, decide_eq_true_eq]; omega)
 rw [H.out]
 clear hK H
 generalize decide (missN a b = 0) = B at *
 generalize ((missN a b : Nat) : Int) = m at *
 cases ha : isLv a
 ·have C := hid (fun wx => lis_no ha wx)
  clear ha CM HE
  go_enter Tryz.func117, Tryz.ntmps117
  go_wp2_with (go_at_call 136; refine (C.out _).mono ?_; rintro e w' ⟨rfl, rfl⟩)
  go_ret
  exact ⟨rfl, rfl⟩
 ·have C := hid (fun wx => lis_yes ha wx)
  cases hb : isLv b
  ·have D := hid (fun wx => lis_no hb wx)
   clear ha hb CM HE
   go_enter Tryz.func117, Tryz.ntmps117
   go_wp2_with fail
   refine (C.out _).mono ?_
   rintro e w' ⟨rfl, rfl⟩
   go_wp2_with fail
   refine (D.out _).mono ?_
   rintro e w' ⟨rfl, rfl⟩
   go_wp2_with fail
   go_ret
   exact ⟨rfl, rfl⟩
  ·have D := hid (fun wx => lis_yes hb wx)
   clear ha hb
   go_enter Tryz.func117, Tryz.ntmps117
   go_wp2_with fail
   refine (C.out _).mono ?_
   rintro e w' ⟨rfl, rfl⟩
   go_wp2_with fail
   refine (D.out _).mono ?_
   rintro e w' ⟨rfl, rfl⟩
   go_wp2_with fail
   refine (CM.out).mono ?_
   rintro e w' ⟨rfl, rfl⟩
   go_wp2_with fail
   go_ret
   exact ⟨lret_b HE.out, rfl⟩
def rowB (r : Nat → Bool) : Array Value := ((List.range 12).map fun i => Value.bool (r i)).toArray
theorem rowB_size (r : Nat → Bool) : (rowB r).size = 12 := by simp [rowB]
theorem rowB_at (r : Nat → Bool) {i : Nat} (hi : i < 12) : (rowB r)[i]? = some (.bool (r i)) := by simp [rowB, hi]
def rSet (r : Nat → Bool) (a : Nat) (v : Bool) : Nat → Bool := fun i => if i = a then v else r i
theorem rowB_congr {r s : Nat → Bool} (h : ∀ i, i < 12 → r i = s i) : rowB r = rowB s := by
 apply Array.ext_getElem?
 intro i
 by_cases hi : i < 12
 ·rw [rowB_at _ hi, rowB_at _ hi, h i hi]
 ·rw [Array.getElem?_eq_none (by rw [rowB_size]; omega), Array.getElem?_eq_none (by rw [rowB_size]; omega)]
def noB : Nat → Bool := fun _ => false
theorem rowB_none : rowB noB = #[.bool false, .bool false, .bool false, .bool false, .bool false, .bool false, .bool false, .bool false, .bool false, .bool false, .bool false, .bool false] := rfl
def BRow (w : World) (g : Nat) (r : Nat → Bool) : Prop := w.heap[g]? = some (.cells (rowB r) 38 (0, 0))
theorem BRow.cell {w : World} {g : Nat} {r : Nat → Bool} (h : BRow w g r) {i : Nat} (hi : i < 12) : w.cell? ⟨g, i, none⟩ = some (.bool (r i)) := by rw [cell_of_row w g i _ _ _ h, rowB_at r hi]
theorem BRow.lt {w : World} {g : Nat} {r : Nat → Bool} (h : BRow w g r) : g < w.heap.size := by
 by_cases h0 : g < w.heap.size
 ·exact h0
 ·unfold BRow at h; rw [Array.getElem?_eq_none (Nat.le_of_not_lt h0)] at h; cases h
theorem BRow.below {w w' : World} {g B : Nat} {r : Nat → Bool} (h : BRow w g r) (hb : Below B w w') (hB : g < B) : BRow w' g r := by unfold BRow at *; rw [hb.block g hB, h]
theorem BRow.alloc {w : World} {g : Nat} {r : Nat → Bool} (h : BRow w g r) (o : Obj) : BRow (w.alloc o) g r := by
 have hl := BRow.lt h
 unfold BRow at *; rw [Below.heap_alloc w o g hl, h]
theorem BRow.made (w : World) (r : Nat → Bool) {cs : Array Value} {g : Nat} (hg : g = w.heap.size) (hc : cs = rowB r) : BRow (w.alloc (.cells cs 38)) g r := by subst hg hc; exact heap_alloc_new w _
theorem BRow.kept {w w' : World} {g : Nat} {r : Nat → Bool} {row : Option Nat} (h : BRow w g r) (hg : w.grownBy w' row) (hne : some g ≠ row) : BRow w' g r := by
 have hl := BRow.lt h
 have := hg.block g hl hne
 unfold BRow at *
 rw [this, h]
theorem infoRow : (Tryz.prog.info? 38).map (·.size) = some 12 := by kernel_rfl
theorem infoRow' (r : Nat → Bool) : (Tryz.prog.info? 38).map (·.size) = some (rowB r).size := by rw [rowB_size]; exact infoRow
theorem rowB_one (r : Nat → Bool) : (rowB r).all (·.oneCell') = true := by
 rw [Array.all_eq_true_iff_forall_mem]
 intro v hv
 have : v ∈ (rowB r).toList := by simpa using hv
 simp only [rowB, List.toList_toArray, List.mem_map] at this
 obtain ⟨i, _, rfl⟩ := this
 rfl
theorem wpList_load_rowB {ops : Array Oper} {rest : List Oper} {o : Oper} {a : Act} {w : World} {Q : Exit → Act → World → Prop} {g : Nat} {r : Nat → Bool} (h : BRow w g r) (hgd : o.guard = none) (x : Operand) (ho : o.op = .load 38 x)
  (hx : a.eval x = .pointer (some ⟨g, 0, none⟩)) (hn : wpList Tryz.prog ops Q rest (a.put o.dst (.agg (rowB r))) w) : wpList Tryz.prog ops Q (o :: rest) a w :=
 wpList_load_row hgd 38 x ho g hx _ (rowB r) _ _ h Tryz.underlying38 rfl (infoRow' _) hn
theorem wpList_store_rowB {ops : Array Oper} {rest : List Oper} {o : Oper} {a : Act} {w : World} {Q : Exit → Act → World → Prop} {g : Nat} {s : Nat → Bool} (h : BRow w g s) (r : Nat → Bool) (hgd : o.guard = none) (x y : Operand) (ho : o.op = .store 38 x y)
  (hx : a.eval x = .pointer (some ⟨g, 0, none⟩)) (hy : a.eval y = .agg (rowB r)) (hn : wpList Tryz.prog ops Q rest (a.put o.dst undef) (w.setRow g (rowB r))) : wpList Tryz.prog ops Q (o :: rest) a w :=
 wpList_store_row hgd 38 x y ho g (rowB r) hx hy _ _ h (infoRow' _) (by rw [rowB_size, rowB_size]) (rowB_one _) hn
theorem results_rowB {fn : Func} {p : Tmp} (h : fn.results = #[.cell p 38]) (tmps : Array Value) (w : World) (g : Nat) (r : Nat → Bool)
  (hp : tmps.getD p undef = .pointer (some ⟨g, 0, none⟩)) (hg : BRow w g r) : (results fn tmps).run Tryz.prog w = .ok (.agg (rowB r)) w :=
 results_cell_row h tmps w g _ (rowB r) _ _ hp hg Tryz.underlying38 rfl (infoRow' _)
theorem infoBool : (Tryz.prog.info? 4).map (·.size) = some 1 := by kernel_rfl
end

section
open Go.RowKit
def opnTo (r : Nat → Bool) (l : Nat) (k : Nat) : Bool := (List.range k).all fun b => r b || !impB (l : Int) (b : Int)
def opn (r : Nat → Bool) (l : Nat) : Bool := opnTo r l l
theorem opnTo_succ (r : Nat → Bool) (l k : Nat) : opnTo r l (k + 1) = (opnTo r l k && (r k || !impB (l : Int) (k : Int))) := by
 unfold opnTo; rw [List.range_succ, List.all_append]; simp
theorem opn_miss {r : Nat → Bool} {l k : Nat} (hk : k < l) (h : (r k || !impB (l : Int) (k : Int)) = false) : opn r l = false := by
 unfold opn opnTo
 rw [List.all_eq_false]
 exact ⟨k, List.mem_range.2 hk, by rw [h]; simp⟩
theorem ret_v {a b : Bool} (h : a = b) : Ending.returned (Value.bool a) = Ending.returned (Value.bool b) := by rw [h]
theorem vopen_any (r : Nat → Bool) (l : Nat) (w : World) (hl : l ≤ 12) (hK : Kinds w) : Calls Tryz.prog 95 #[.agg (rowB r), .int .i64 (l : Int)] w fun e w' => e = .returned (.bool (opn r l)) ∧ Below w.heap.size w w' := by
 have HK := hid (fun wx (hb : Below w.heap.size w wx) => hK.below hb)
 clear hK
 go_enter Tryz.func95, Tryz.ntmps95
 go_wp2_with fail
 go_loopw [7] (fun i wr => ∃ k : Nat, k ≤ l ∧ i = .int .i64 k ∧ opnTo r l k = true ∧ BRow wr w.heap.size r ∧ Below w.heap.size w wr) (fun i _ => l - (intOf i).toNat)
 case atStart => exact ⟨0, by omega, rfl, rfl, BRow.made w r rfl rfl, (Below.refl w.heap.size w).alloc (Nat.le_refl _) _⟩
 case round =>
  obtain ⟨k, hk, rfl, hno, h0, hb⟩ := hrel
  have HNO := hid hno
  clear hno
  by_cases hlt : k < l
  ·have hki : (k : Int) < (l : Int) := by omega
   have hk12 : (k : Int) < 12 := by omega
   have hc := h0.cell (show k < 12 by omega)
   have HS := hid (opnTo_succ r l k)
   have HH := hid (fun h => opn_miss (r := r) (l := l) hlt h)
   have CI := hid (limp_any (l : Int) (k : Int) wr (HK.out _ hb))
   rw [HNO.out] at HS
   cases hr : r k
   ·rw [hr] at hc HS HH
    clear hr
    cases hm : impB (l : Int) (k : Int)
    ·rw [hm] at CI HS
     have HM : Hid (opnTo r l (k + 1) = true) := hid (by rw [HS.out]; rfl)
     clear hm HH
     go_wp2_with fail
     refine CI.out.mono ?_
     rintro e wq ⟨rfl, rfl⟩
     go_wp2_with fail
     go_roundw
     case rel => exact ⟨k + 1, by omega, by go_num, HM.out, h0, hb⟩
     case measure => simp [intOf]; omega
    ·rw [hm] at CI HH
     have HM : Hid (opn r l = false) := hid (HH.out rfl)
     clear hm HS HH
     go_wp2_with fail
     refine CI.out.mono ?_
     rintro e wq ⟨rfl, rfl⟩
     go_wp2_with fail
     go_ret
     exact ⟨ret_v HM.out.symm, hb⟩
   ·rw [hr] at hc HS
    clear hr HH CI
    have HM : Hid (opnTo r l (k + 1) = true) := hid (by rw [HS.out]; rfl)
    go_wp2_with fail
    go_roundw
    case rel => exact ⟨k + 1, by omega, by go_num, HM.out, h0, hb⟩
    case measure => simp [intOf]; omega
  ·obtain rfl : k = l := by omega
   have hki : ¬ (k : Int) < (k : Int) := by omega
   have HM : Hid (opn r k = true) := HNO
   go_wp2_with fail
   go_ret
   exact ⟨ret_v HM.out.symm, hb⟩
end

section
open Go.RowKit
def mkS (p : Nat → Bool) : Nat := ((List.range 64).filter p).foldl (fun s i => s ||| 2 ^ i) 0
theorem testBit_fold (l : List Nat) : ∀ (s i : Nat), (l.foldl (fun s i => s ||| 2 ^ i) s).testBit i = (s.testBit i || l.contains i) := by
 induction l with
 | nil => intro s i; simp
 | cons a l ih =>
  intro s i
  rw [List.foldl_cons, ih, Nat.testBit_or, Nat.testBit_two_pow, List.contains_cons, Bool.or_assoc]
  congr 2
  rw [Bool.eq_iff_iff, decide_eq_true_iff, beq_iff_eq]
  exact ⟨fun h => h.symm, fun h => h.symm⟩
theorem testBit_mkS (p : Nat → Bool) (i : Nat) : (mkS p).testBit i = (decide (i < 64) && p i) := by
 unfold mkS
 rw [testBit_fold, Nat.zero_testBit, Bool.false_or, Bool.eq_iff_iff]
 simp
theorem isSet_mkS (p : Nat → Bool) : IsSet (mkS p) := by
 apply isSet_of_bits
 intro i hi
 rw [testBit_mkS]
 have : ¬ i < 64 := by omega
 simp [this]
theorem mkS_eq {s : Nat} {p : Nat → Bool} (hs : IsSet s) (h : ∀ i, i < 64 → s.testBit i = p i) : s = mkS p := by
 apply set_ext hs (isSet_mkS p)
 intro i hi
 rw [testBit_mkS, h i hi]; simp [hi]
theorem mkS_congr {p q : Nat → Bool} (h : ∀ i, i < 64 → p i = q i) : mkS p = mkS q := by
 apply mkS_eq (isSet_mkS p)
 intro i hi
 rw [testBit_mkS, h i hi]; simp [hi]
theorem mkS_bits {s : Nat} (hs : IsSet s) : mkS (fun i => s.testBit i) = s := (mkS_eq hs fun _ _ => rfl).symm
theorem mkS_false : mkS (fun _ => false) = 0 := (mkS_eq (by unfold IsSet; omega) fun i _ => by simp).symm
theorem lst_mkS (p : Nat → Bool) : lst (mkS p) = (List.range 64).filter p := by
 unfold lst lstTo
 apply List.filter_congr
 intro i hi
 have : i < 64 := by simpa using hi
 rw [testBit_mkS]; simp [this]
abbrev Mat := Nat → Nat → Bool
def rowsA (R : Mat) : Array Value := ((List.range 64).map fun i => Value.int .u64 ((mkS (R i) : Nat) : Int)).toArray
theorem rowsA_size (R : Mat) : (rowsA R).size = 64 := by simp [rowsA]
theorem rowsA_at (R : Mat) {i : Nat} (hi : i < 64) : (rowsA R)[i]? = some (.int .u64 ((mkS (R i) : Nat) : Int)) := by
 simp [rowsA, hi]
def rowSet (R : Mat) (a : Nat) (p : Nat → Bool) : Mat := fun i => if i = a then p else R i
theorem rowsA_set (R : Mat) (a s : Nat) (p : Nat → Bool) (hs : s = mkS p) : (rowsA R).setIfInBounds a (.int .u64 (s : Int)) = rowsA (rowSet R a p) := by
 subst hs
 apply Array.ext_getElem?
 intro i
 by_cases hi : i < 64
 ·rw [rowsA_at _ hi, Array.getElem?_setIfInBounds]
  unfold rowSet
  by_cases e : a = i
  ·subst e; simp [rowsA_size, hi]
  ·rw [if_neg e, rowsA_at R hi, if_neg (fun h => e h.symm)]
 ·rw [Array.getElem?_eq_none (by rw [Array.size_setIfInBounds, rowsA_size]; omega), Array.getElem?_eq_none (by rw [rowsA_size]; omega)]
theorem rowsA_congr {R S : Mat} (h : ∀ i j, i < 64 → j < 64 → R i j = S i j) : rowsA R = rowsA S := by
 apply Array.ext_getElem?
 intro i
 by_cases hi : i < 64
 ·rw [rowsA_at _ hi, rowsA_at _ hi, mkS_congr fun j hj => h i j hi hj]
 ·rw [Array.getElem?_eq_none (by rw [rowsA_size]; omega), Array.getElem?_eq_none (by rw [rowsA_size]; omega)]
theorem rowsA_inj {R S : Mat} (h : rowsA R = rowsA S) : ∀ i j, i < 64 → j < 64 → R i j = S i j := by
 intro i j hi hj
 have h1 := rowsA_at R hi
 rw [h, rowsA_at S hi] at h1
 have h2 : mkS (R i) = mkS (S i) := by
  have := Option.some.inj h1
  simp at this; omega
 have h3 := congrArg (fun s => s.testBit j) h2
 simpa [testBit_mkS, hj] using h3
def RelAt (w : World) (g : Nat) (t : TypeId) (R : Mat) : Prop := w.heap[g]? = some (.cells (rowsA R) t (0, 0))
theorem RelAt.cell {w : World} {g : Nat} {t : TypeId} {R : Mat} (h : RelAt w g t R) {i : Nat} (hi : i < 64) : w.cell? ⟨g, i, none⟩ = some (.int .u64 ((mkS (R i) : Nat) : Int)) := by
 rw [cell_of_row w g i _ _ _ h, rowsA_at R hi]
theorem RelAt.free {w : World} {g : Nat} {t : TypeId} {R : Mat} (h : RelAt w g t R) (i : Nat) : w.frozen? ⟨g, i, none⟩ = false := frozen_of_row w g i _ _ h
theorem RelAt.lt {w : World} {g : Nat} {t : TypeId} {R : Mat} (h : RelAt w g t R) : g < w.heap.size := by
 by_cases h0 : g < w.heap.size
 ·exact h0
 ·unfold RelAt at h; rw [Array.getElem?_eq_none (Nat.le_of_not_lt h0)] at h; cases h
theorem RelAt.below {w w' : World} {g B : Nat} {t : TypeId} {R : Mat} (h : RelAt w g t R) (hb : Below B w w') (hB : g < B) : RelAt w' g t R := by
 unfold RelAt at *; rw [hb.block g hB, h]
theorem RelAt.store {w : World} {g : Nat} {t : TypeId} {R : Mat} (h : RelAt w g t R) (a s : Nat) (p : Nat → Bool) (hs : s = mkS p) :
  RelAt (w.setCell ⟨g, a, none⟩ (.int .u64 (s : Int))) g t (rowSet R a p) := by
 unfold RelAt at *
 rw [heap_setCell_same w g a _ t _ h, rowsA_set R a s p hs]
theorem RelAt.other {w : World} {g : Nat} {t : TypeId} {R : Mat} (h : RelAt w g t R) {k : Addr} (hk : g ≠ k.block) (v : Value) : RelAt (w.setCell k v) g t R := by
 unfold RelAt at *; rw [heap_setCell_other w k g v hk, h]
theorem RelAt.alloc {w : World} {g : Nat} {t : TypeId} {R : Mat} (h : RelAt w g t R) (o : Obj) : RelAt (w.alloc o) g t R := by
 have hl := RelAt.lt h
 unfold RelAt at *; rw [Below.heap_alloc w o g hl, h]
theorem RelAt.new (w : World) (t : TypeId) (R : Mat) : RelAt (w.alloc (.cells (rowsA R) t)) w.heap.size t R := heap_alloc_new w _
def noR : Mat := fun _ _ => false
theorem rowsA_none : rowsA noR = Array.replicate 64 (.int .u64 0) := by
 apply Array.ext_getElem?
 intro i
 by_cases hi : i < 64
 ·rw [rowsA_at _ hi, Array.getElem?_replicate, if_pos hi]
  have : mkS (noR i) = 0 := mkS_false
  rw [this]; rfl
 ·rw [Array.getElem?_eq_none (by rw [rowsA_size]; omega), Array.getElem?_eq_none (by simp; omega)]
theorem RelAt.made (w : World) (t : TypeId) (R : Mat) {cs : Array Value} {g : Nat} (hg : g = w.heap.size) (hc : cs = rowsA R) : RelAt (w.alloc (.cells cs t)) g t R := by
 subst hg hc; exact RelAt.new w t R
end

section
open Go.RowKit
theorem lst_step {S c : Nat} {acc : List Nat} (hl : lst S = acc ++ lst c) (hne : lst c ≠ []) : lst S = (acc ++ [fst c]) ++ lst (woS c (fst c : Int)) := by
 rw [hl, List.append_assoc, List.singleton_append, ← lst_cons hne]
theorem lst_less {c : Nat} (hne : lst c ≠ []) : (lst (woS c (fst c : Int))).length < (lst c).length := by
 have := congrArg List.length (lst_cons hne)
 simp at this; omega
theorem list_any (s : Nat) (w : World) (hs : IsSet s) (ht : Tab w) :
  Calls Tryz.prog 229 #[.int .u64 (s : Int)] w fun e w' => ∃ v, e = .returned v ∧ w'.ownsRow w.heap.size 3 1 v (lst s).length ((lst s).map fun i : Nat => Value.int .i64 (i : Int)) ∧ Below w.heap.size w w' := by
 obtain ⟨i0, hi, hz0, hz1, hz2⟩ := info_parts infoInt
 obtain ⟨B, hB⟩ : ∃ B, B = w.heap.size := ⟨_, rfl⟩
 rw [← hB]
 have HB : Hid (B = w.heap.size) := hid hB
 have hB' : B ≤ w.heap.size := by omega
 have hgB : 3 < B := by have := ht.pos; omega
 clear hB
 have hT : ∀ wr, Below B w wr → Tab wr := fun wr hb => ht.below hb hgB
 have HT := hid hT; clear hT
 have hle : (lst s).length ≤ 64 := lstTo_len s 64
 go_enter Tryz.func229, Tryz.ntmps229
 go_wp2_with (first
  | (go_at_call 261; refine (scount_any _ _ hs).mono ?_; rintro e w' ⟨rfl, rfl⟩)
  | (at_make; refine wpList_make_own _ rfl _ _ 24 rfl B 3 i0 (.int .i64 0) 1 Tryz.underlying24 hi hz0 hz1 _ _ _ (lst s).length rfl rfl rfl ?b1 ?b2 ?b3 ?_))
 case b1 => rw [hz2]; omega
 case b2 => unfold maxLen; omega
 case b3 => exact hB'
 intro w1 hown0 hg0
 have hb0 : Below B w w1 := (Below.refl B w).grown hg0 hB' (by simp)
 clear hg0
 go_wp2_with fail
 go_loopw [0, 3] (fun v x wr => ∃ (c : Nat) (acc : List Nat), IsSet c ∧ v = .int .u64 (c : Int) ∧ lst s = acc ++ lst c ∧ wr.ownsRow B 3 1 x acc.length (acc.map fun i : Nat => Value.int .i64 (i : Int)) ∧ Below B w wr)
  (fun v _ _ => (lst (intOf v).toNat).length)
 case atStart => exact ⟨s, [], hs, rfl, by simp, hown0, hb0⟩
 case round =>
  obtain ⟨c, acc, hc, rfl, hl, hown, hb⟩ := hrel
  have hsz := hb.size
  have hal : acc.length ≤ 64 := by have := congrArg List.length hl; simp at this; omega
  have HL := hid hl; clear hl
  have HTr : Hid (Tab _) := hid (HT.out _ hb)
  rcases Nat.eq_zero_or_pos c with h0 | h0
  ·subst h0
   have hacc : Hid (acc = lst s) := hid (by rw [HL.out, lst_zero, List.append_nil])
   go_wp2
   go_ret
   exact ⟨_, rfl, by rw [← hacc.out]; exact hown, hb⟩
  ·have hne := lst_ne hc h0
   have hwo := isSet_woS (n := (fst c : Int)) hc
   have HS := hid (lst_step HL.out hne)
   have HD := hid (lst_less hne)
   have hfl := fst_lt hne
   clear hne
   go_wp2_with (first
    | (go_at_call 262; refine (first_any c _ hc HTr.out).mono ?_; rintro e w' ⟨rfl, rfl⟩)
    | (at_builtin; refine wpList_append_own _ rfl _ _ 24 rfl B 3 i0 (.int .i64 0) 1 8 Tryz.underlying24 hi hz0 hz1 hz2 rfl (by decide) _ _ _ rfl (hown.alloc _) ⟨_, 0, none⟩ 1 1 [.int .i64 (fst c : Int)] rfl rfl ?c1 ?c2 ?c3 ?c4 ?c5 ?_))
   case c1 => exact cell_one_new _ _ _
   case c2 => intro u hu; simp at hu; subst hu; rfl
   case c3 => unfold maxLen; omega
   case c4 => omega
   case c5 => simp; omega
   intro v' w2 hown' hgrow _
   have hb' := below_app hb hB' hown hgrow
   have HT2 : Hid (Tab w2) := hid (HT.out _ hb')
   clear hown hb hgrow
   go_wp2_with (first
    | (go_at_call 262; refine (first_any c _ hc HT2.out).mono ?_; rintro e w' ⟨rfl, rfl⟩)
    | (go_at_call 233; refine (wo_any c _ _ hc).mono ?_; rintro e w' ⟨rfl, rfl⟩))
   go_roundw
   case rel => exact ⟨woS c (fst c : Int), acc ++ [fst c], hwo, rfl, HS.out, by simpa using hown', hb'⟩
   case measure => simpa [intOf] using HD.out
end

section
open Go.RowKit
theorem ints_nat (l : List Nat) : (l.map fun i : Nat => Value.int .i64 (i : Int)) = (l.map Int.ofNat).map (Value.int .i64) := by rw [List.map_map]; rfl
theorem Ints.of_nats {w : World} {base : Nat} {e : TypeId} {v : Value} {n : Nat} {l : List Nat} (h : w.ownsRow base e 1 v n (l.map fun i : Nat => Value.int .i64 (i : Int))) : Ints w v (l.map Int.ofNat) := by
 rw [ints_nat] at h; exact Ints.of_owns h
end

end Go.Proofs.YtnhkjehfmbfmmaaGreatDoor
