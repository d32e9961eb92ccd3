/- Walks and plain facts that the proof of the statement OrderReads uses, joined: Law Slc SetM SetA OpZ ArgZ TxZ ArgT MapI TxnM TxnA TxnB TxnD TxnE TxnF TxnG TxnH. Conditions: each theorem's own. -/
import Derived.Test.YtflalehpdngklaaRows
import Derived.Test.YtflalehpdngklaaProg
import Derived.Test.YtflalehpdngklaaShelfS
import Derived.WalkKit
import Derived.ProofKit
import Derived.OpenShut
import Derived.Deep.DeepHandedRow
import Derived.Lib.LaidTab
import Derived.Lib.Hide
import Derived.WalkSpells
import Derived.WalkSmall
import Derived.Laws.AppendOwnNone
import Derived.Laws.Bits64b
import Derived.WalkLawsBesides
import Derived.Deep.Slices
import Derived.Deep.Strs
import Derived.Lib.SmallJoins
import Derived.Maps.RangeWalk
import Derived.Deep.QuietTactic
import Derived.BigQuiet
import Derived.Laws.StructEq
import Derived.OwnWalk
namespace Go.Proofs.Ytflalehpdngklaa
set_option maxRecDepth 100000
open Go.ChangeShapes Go.WideShapes Go.ChangeAt Go.RowKit

theorem own : ownKnob Try.prog.godebug = none := by kernel_rfl
theorem laidOut : laidOutB Try.prog = true := by kernel_rfl

theorem trodAll_stays {H : Type} {enc : TypeId × Value → H} {W W' : World} (hb : Below W.heap.size W W') :
    ∀ (ts : List TypeId) (vs : List Value) (ds : List (DataW H)) (ps : List MemPlace), (∀ t ∈ ts, Try.prog.readableRec t = true ∧ t < Try.prog.types.size) →
      DataW.TrodAll enc Try.prog W 0 (fun _ => true) true ts vs ds ps → (∀ x ∈ ps, x.block < W.heap.size) →
      DataW.TrodAll enc Try.prog W' 0 (fun b => decide (b < W.heap.size)) true ts vs ds ps
  | [], vs, ds, ps, _, h, _ => by
    obtain ⟨rfl, rfl, rfl⟩ := trodAll_nil h
    exact trodAll_mk0
  | t :: ts, vs, ds, ps, hr, h, hlt => by
    obtain ⟨v, vs', d, ds', p, q, rfl, rfl, rfl, hd, hrest⟩ := trodAll_cons h
    have h1 := hr t List.mem_cons_self
    exact trodAll_cons_mk (Below.trod laidOut h1.1 h1.2 hd hb fun x hx => hlt x (List.mem_append_left _ hx))
      (trodAll_stays hb ts vs' ds' q (fun u hu => hr u (List.mem_cons_of_mem _ hu)) hrest fun x hx => hlt x (List.mem_append_right _ hx))

/-- FROM THE CONTRACT TO WHAT THE ROW ASKS: a law that answers true, with nothing below the old heap changed. -/
theorem law_post {H : Type} {enc : TypeId × Value → H} {s : ChangeSpec} {f : Func} {W W' : World} {args : Array Value} {ds gs : List (DataW H)} {before : List MemPlace}
    (hW : DataW.Whole enc Try.prog f.params.toList s.vars false W args.toList ds gs before) (hv : s.vars = [])
    (hr : ∀ t ∈ f.params.toList, Try.prog.readableRec t = true ∧ t < Try.prog.types.size) (hb : Below W.heap.size W W')
    (hres : f.resultTypes = #[4]) (hfn : (s.fn H (ds ++ [])).results = [.lit (.bool true)]) (hfa : (s.fn H (ds ++ [])).args = ds) (hfv : (s.fn H (ds ++ [])).vars = []) :
    s.post enc Try.prog f false true false false W args (.bool true) W' := by
  have hW' := hW
  obtain ⟨p, q, hA, hV, hpq, hfz, hnd⟩ := hW
  rw [hv] at hV
  obtain ⟨rfl, rfl⟩ := trodVars_none hV
  have hlt : ∀ x ∈ p, x.block < W.heap.size := fun x hx => by
    have := hW'.lt x (by rw [hpq]; exact List.mem_append_left _ hx)
    simpa using this
  refine ⟨ds, [], before, [], p, [], hW', ?_, ?_, ?_, hb.frame _, fun h => by cases h⟩
  · rw [hfn, hres]
    exact trodAll_cons_mk (shut_bool Try.underlying4 _) trodAll_mk0
  · rw [hfa]
    exact trodAll_stays hb _ _ _ _ hr hA hlt
  · rw [hfv, hv]; exact rfl
end Go.Proofs.Ytflalehpdngklaa

namespace Go.Proofs.Ytflalehpdngklaa
set_option maxRecDepth 100000
open Go.RowKit

/-- The slice v has n elements of 'size' cells each, which are cs. -/
def Row (w : World) (v : Value) (n size : Nat) (cs : List Value) : Prop :=
  cs.length = n * size ∧ ∃ ao cap, v = .slice ao n cap ∧ (n ≤ cap ∧ cap ≤ maxLen) ∧ (ao = none → n = 0 ∧ cap = 0) ∧ (0 < n → ∃ b off, ao = some ⟨b, off, none⟩ ∧ ∀ i, i < n * size → w.cell? ⟨b, off + i, none⟩ = cs[i]?)
/-- The slice v holds these ints. -/
def Ints (w : World) (v : Value) (xs : List Int) : Prop := Row w v xs.length 1 (xs.map (Value.int .i64))

theorem block_lt {w : World} {a : Addr} {v : Value} (h : w.cell? a = some v) : a.block < w.heap.size := by
  by_cases h0 : a.block < w.heap.size
  · exact h0
  · simp [World.cell?, Array.getElem?_eq_none (Nat.le_of_not_lt h0)] at h
theorem Row.below {w w' : World} {v : Value} {n size : Nat} {cs : List Value} (h : Row w v n size cs) (hb : Below w.heap.size w w') : Row w' v n size cs := by
  obtain ⟨hl, ao, cap, rfl, hm, hno, hc⟩ := h
  refine ⟨hl, ao, cap, rfl, hm, hno, fun hn => ?_⟩
  obtain ⟨b, off, rfl, hcell⟩ := hc hn
  refine ⟨b, off, rfl, fun i hi => ?_⟩
  have h1 := hcell i hi
  have h2 : cs[i]? = some cs[i] := List.getElem?_eq_getElem (by omega)
  rw [h2] at h1
  have hlt := block_lt h1
  rw [hb.cell (p := ⟨b, off + i, none⟩) hlt, h1, h2]
theorem Ints.below {w w' : World} {v : Value} {xs : List Int} (h : Ints w v xs) (hb : Below w.heap.size w w') : Ints w' v xs := Row.below h hb
theorem Row.drewN {w : World} {v : Value} {n size : Nat} {cs : List Value} (h : Row w v n size cs) (k : Nat) : Row (w.drewN k) v n size cs := h.below (below_drewN (Below.refl _ _) k)
theorem Row.of_owns {w : World} {base : Nat} {e : TypeId} {size : Nat} {v : Value} {n : Nat} {cs : List Value} (h : w.ownsRow base e size v n cs) : Row w v n size cs := by
  obtain ⟨hl, h⟩ := h
  refine ⟨hl, ?_⟩
  rcases h with ⟨rfl, rfl⟩ | ⟨g, cap, cur, rfl, hb, hh, hn, hm, hs, ht⟩
  · exact ⟨none, 0, rfl, by simp, fun _ => ⟨rfl, rfl⟩, fun h => by omega⟩
  · refine ⟨some ⟨g, 0, none⟩, cap, rfl, by omega, fun h => (by cases h), fun _ => ⟨g, 0, rfl, fun i hi => ?_⟩⟩
    have hown : w.ownsRow base e size (.slice (some ⟨g, 0, none⟩) n cap) n cs := ⟨hl, .inr ⟨g, cap, cur, rfl, hb, hh, hn, hm, hs, ht⟩⟩
    have := hown.cellAt i hi
    simpa using this
theorem Ints.of_owns {w : World} {base : Nat} {e : TypeId} {v : Value} {n : Nat} {xs : List Int} (h : w.ownsRow base e 1 v n (xs.map (Value.int .i64))) : Ints w v xs := by
  have hr := Row.of_owns h
  have hn : n = xs.length := by have := h.1; simp at this; omega
  subst hn; exact hr
theorem Ints.form {w : World} {v : Value} {xs : List Int} (h : Ints w v xs) : ∃ ao cap, v = .slice ao xs.length cap ∧ xs.length ≤ 9223372036854775807 := by
  obtain ⟨_, ao, cap, rfl, hm, _, _⟩ := h
  exact ⟨ao, cap, rfl, Nat.le_trans hm.1 hm.2⟩
theorem Ints.at {w : World} {ao : Option Addr} {n cap : Nat} {xs : List Int} (h : Ints w (.slice ao n cap) xs) {k : Nat} (hk : k < xs.length) :
    ∃ b off, ao = some ⟨b, off, none⟩ ∧ w.cell? ⟨b, off + k, none⟩ = some (.int .i64 xs[k]) := by
  obtain ⟨_, ao', cap', he, hm, _, hc⟩ := h
  obtain ⟨rfl, _, _⟩ : ao = ao' ∧ n = xs.length ∧ cap = cap' := by simpa using he
  obtain ⟨b, off, rfl, hcell⟩ := hc (by omega)
  refine ⟨b, off, rfl, ?_⟩
  rw [hcell k (by omega)]
  simp [List.getElem?_eq_getElem hk]
theorem owns_below {w w' : World} {base : Nat} {e : TypeId} {size : Nat} {v : Value} {n : Nat} {cs : List Value} (h : w.ownsRow base e size v n cs) (hb : Below w.heap.size w w') : w'.ownsRow base e size v n cs :=
  h.kept (row := none) ⟨hb.os, hb.tape, hb.output, hb.size, fun k hk _ => hb.block k hk⟩ (by cases v.ownBlock <;> simp)
/-- 'append(own, x...)', x any slice whose cells are known, nil included. -/
theorem wpList_append_row {P : Program} {w : World} {ops : Array Oper} {rest : List Oper} {o : Oper} {a : Act} {Q : Exit → Act → World → Prop} (hgd : o.guard = none) (s x : Operand) (t : TypeId)
    (ho : o.op = .call { callee := .builtin .append, args := #[s, x], argTypes := #[t, t] })
    (base : Nat) (e : TypeId) (i : TypeInfo) (z : Value) (size bytes : Nat) (ht : P.underlying t = some (.slice e)) (hi : P.info? e = some i) (hz : i.zero = some z)
    (hsize : i.size = size) (hby : i.bytes = bytes) (hzs : z.cells.size = size) (hsz : 0 < size)
    (v : Value) (n : Nat) (xs : List Value) (hs : a.eval s = v) (hown : w.ownsRow base e size v n xs)
    (sv : Value) (m : Nat) (news : List Value) (hx : a.eval x = sv) (hsrc : Row w sv m size news) (h1 : ∀ u ∈ news, u.oneCell' = true)
    (h63 : n + m ≤ maxLen) (hbytes : (n + m) * bytes ≤ 140737488355328) (hbase : base ≤ w.heap.size)
    (h : ∀ v' w', w'.ownsRow base e size v' (n + m) (xs ++ news) → w.grownBy w' v.ownBlock → wpList P ops Q rest (a.put o.dst v') w') : wpList P ops Q (o :: rest) a w := by
  obtain ⟨hl, ao, cap, rfl, _, hno, hc⟩ := hsrc
  cases ao with
  | none =>
    obtain ⟨rfl, rfl⟩ := hno rfl
    have hnews : news = [] := List.eq_nil_of_length_eq_zero (by simpa using hl)
    subst hnews
    exact wpList_append_own_none hgd s x t ho base e i size ht hi v n xs hs hown hx (by simpa using h v w (by simpa using hown) (World.grownBy.refl _ _))
  | some ad =>
    refine wpList_append_own w hgd s x t ho base e i z size bytes ht hi hz hsize hby hzs hsz v n xs hs hown ad m cap news hx hl ?_ h1 h63 hbytes hbase (fun v' w' h2 h3 _ => h v' w' h2 h3)
    intro j u hu
    have hj : j < news.length := (List.getElem?_eq_some_iff.1 hu).1
    have hm : 0 < m := by
      rcases Nat.eq_zero_or_pos m with h0 | h0
      · subst h0; rw [Nat.zero_mul] at hl; omega
      · exact h0
    obtain ⟨b, off, he, hcell⟩ := hc hm
    obtain rfl := Option.some.inj he
    rw [Addr.add_lit, hcell j (by omega), hu]
end Go.Proofs.Ytflalehpdngklaa

namespace Go.Proofs.Ytflalehpdngklaa
set_option maxRecDepth 100000

/-- The bit of one number, 0 where it is no number from 0 to 63. -/
def bt (n : Int) : Nat := if 0 ≤ n ∧ n < 64 then 2 ^ n.toNat else 0
/-- Is a number in a set? -/
def hasB (s : Nat) (n : Int) : Bool := decide (0 ≤ n ∧ n < 64) && s.testBit n.toNat
/-- A set's word: below 2^64. -/
def IsSet (s : Nat) : Prop := s < 18446744073709551616
def withS (s : Nat) (n : Int) : Nat := s ||| bt n
def woS (s : Nat) (n : Int) : Nat := s ^^^ (s &&& bt n)

theorem isSet_iff (s : Nat) : IsSet s ↔ s < 2 ^ 64 := by unfold IsSet; omega
theorem isSet_of_bits {s : Nat} (h : ∀ i, 64 ≤ i → s.testBit i = false) : IsSet s := by
  rw [isSet_iff]; exact Nat.lt_pow_two_of_testBit s h
theorem IsSet.high {s : Nat} (h : IsSet s) {i : Nat} (hi : 64 ≤ i) : s.testBit i = false := by
  rw [isSet_iff] at h
  exact Nat.testBit_lt_two_pow (Nat.lt_of_lt_of_le h (Nat.pow_le_pow_right (by omega) hi))
theorem set_ext {s t : Nat} (hs : IsSet s) (ht : IsSet t) (h : ∀ i, i < 64 → s.testBit i = t.testBit i) : s = t := by
  apply Nat.eq_of_testBit_eq
  intro i
  by_cases hi : i < 64
  · exact h i hi
  · rw [hs.high (by omega), ht.high (by omega)]
theorem testBit_bt (n : Int) (i : Nat) : (bt n).testBit i = (decide (0 ≤ n ∧ n < 64) && decide (n.toNat = i)) := by
  unfold bt
  split
  · rename_i h; rw [Nat.testBit_two_pow]; simp [h]
  · rename_i h; simp [h]
theorem isSet_bt (n : Int) : IsSet (bt n) := by
  apply isSet_of_bits
  intro i hi
  rw [testBit_bt]
  by_cases h : 0 ≤ n ∧ n < 64
  · simp [h]; omega
  · simp [h]
theorem isSet_and {s t : Nat} (hs : IsSet s) : IsSet (s &&& t) := by
  apply isSet_of_bits
  intro i hi
  simp [hs.high hi]
theorem isSet_or {s t : Nat} (hs : IsSet s) (ht : IsSet t) : IsSet (s ||| t) := by
  apply isSet_of_bits
  intro i hi
  simp [hs.high hi, ht.high hi]
theorem isSet_withS {s : Nat} {n : Int} (hs : IsSet s) : IsSet (withS s n) := isSet_or hs (isSet_bt n)
theorem testBit_withS (s : Nat) (n : Int) (i : Nat) : (withS s n).testBit i = (s.testBit i || (decide (0 ≤ n ∧ n < 64) && decide (n.toNat = i))) := by
  simp only [withS, Nat.testBit_or, testBit_bt]
theorem testBit_woS (s : Nat) (n : Int) (i : Nat) : (woS s n).testBit i = (s.testBit i && !(decide (0 ≤ n ∧ n < 64) && decide (n.toNat = i))) := by
  simp only [woS, Nat.testBit_xor, Nat.testBit_and, testBit_bt]
  cases s.testBit i <;> simp
theorem and_bt_ne (s : Nat) (n : Int) : (s &&& bt n != 0) = hasB s n := by
  unfold hasB
  by_cases h : 0 ≤ n ∧ n < 64
  · have e : s &&& bt n = if s.testBit n.toNat then 2 ^ n.toNat else 0 := by
      apply Nat.eq_of_testBit_eq
      intro i
      rw [Nat.testBit_and, testBit_bt]
      by_cases hb : s.testBit n.toNat = true
      · simp only [h, hb, if_true, Nat.testBit_two_pow]
        by_cases e : n.toNat = i
        · subst e; simp [hb]
        · simp [e]
      · simp only [h, hb]
        by_cases e : n.toNat = i
        · subst e; simp [hb]
        · simp [e]
    rw [e]
    cases hb : s.testBit n.toNat
    · simp
    · have : 0 < 2 ^ n.toNat := Nat.two_pow_pos _
      simp [h]
  · have : bt n = 0 := by unfold bt; simp [h]
    rw [this]; simp [h]
theorem bits_has (s : Nat) (n : Int) (hs : IsSet s) : (Go.bits .and .u64 (s : Int) ((bt n : Nat) : Int) != 0) = hasB s n := by
  rw [Go.bits_and_u64_nat s (bt n) hs (isSet_bt n), ← and_bt_ne]
  rw [Bool.eq_iff_iff]; simp
theorem bits_with (s : Nat) (n : Int) (hs : IsSet s) : Go.bits .or .u64 (s : Int) ((bt n : Nat) : Int) = ((withS s n : Nat) : Int) :=
  Go.bits_or_u64_nat s (bt n) hs (isSet_bt n)
theorem wrap_two_pow (n : Int) (h0 : 0 ≤ n) (h1 : n < 64) : IntKind.u64.wrap (2 ^ n.toNat) = ((bt n : Nat) : Int) := by
  have h := isSet_bt n
  unfold bt IsSet at *
  rw [if_pos ⟨h0, h1⟩] at *
  rw [IntKind.wrap_u64]
  have : ((2 : Int) ^ n.toNat) = ((2 ^ n.toNat : Nat) : Int) := by simp
  rw [this]; generalize 2 ^ n.toNat = k at *; omega
theorem bt_out (n : Int) (h : ¬ (0 ≤ n ∧ n < 64)) : (0 : Int) = ((bt n : Nat) : Int) := by unfold bt; simp [h]
end Go.Proofs.Ytflalehpdngklaa

namespace Go.Proofs.Ytflalehpdngklaa
set_option maxRecDepth 100000
open Go.RowKit

theorem ret_i {k : IntKind} {a b : Int} (h : a = b) : Ending.returned (.int k a) = .returned (.int k b) := by rw [h]
theorem ret_b {a b : Bool} (h : a = b) : Ending.returned (.bool a) = .returned (.bool b) := by rw [h]

set_option maxHeartbeats 400000 in
theorem bit_in (n : Int) (w : World) (h0 : 0 ≤ n) (h1 : n < 64) :
    Calls Try.prog 35 #[.int .i64 n] w fun e w' => e = .returned (.int .u64 ((bt n : Nat) : Int)) ∧ w = w' := by
  go_enter Try.func35, Try.ntmps35
  go_wp2
  go_ret
  exact ⟨ret_i (wrap_two_pow n h0 h1), rfl⟩
set_option maxHeartbeats 400000 in
theorem bit_out (n : Int) (w : World) (h : ¬ (0 ≤ n ∧ n < 64)) :
    Calls Try.prog 35 #[.int .i64 n] w fun e w' => e = .returned (.int .u64 ((bt n : Nat) : Int)) ∧ w = w' := by
  have e := bt_out n h
  have H := Lib.hid e; clear e
  by_cases h0 : n < 0
  all_goals
    go_enter Try.func35, Try.ntmps35
    go_wp2
    go_ret
    exact ⟨ret_i H.out, rfl⟩
theorem bit_any (n : Int) (w : World) :
    Calls Try.prog 35 #[.int .i64 n] w fun e w' => e = .returned (.int .u64 ((bt n : Nat) : Int)) ∧ w = w' := by
  by_cases h : 0 ≤ n ∧ n < 64
  · exact bit_in n w h.1 h.2
  · exact bit_out n w h

set_option maxHeartbeats 400000 in
theorem has_any (s : Nat) (n : Int) (w : World) (hs : IsSet s) :
    Calls Try.prog 12 #[.int .u64 (s : Int), .int .i64 n] w fun e w' => e = .returned (.bool (hasB s n)) ∧ w = w' := by
  go_enter Try.func12, Try.ntmps12
  go_wp2_with (go_at_call 35; refine (bit_any _ _).mono ?_; rintro e w' ⟨rfl, rfl⟩)
  go_ret
  exact ⟨ret_b (bits_has s n hs), rfl⟩
set_option maxHeartbeats 400000 in
theorem with_any (s : Nat) (n : Int) (w : World) (hs : IsSet s) :
    Calls Try.prog 48 #[.int .u64 (s : Int), .int .i64 n] w fun e w' => e = .returned (.int .u64 ((withS s n : Nat) : Int)) ∧ w = w' := by
  go_enter Try.func48, Try.ntmps48
  go_wp2_with (go_at_call 35; refine (bit_any _ _).mono ?_; rintro e w' ⟨rfl, rfl⟩)
  go_ret
  exact ⟨ret_i (bits_with s n hs), rfl⟩
end Go.Proofs.Ytflalehpdngklaa

namespace Go.Proofs.Ytflalehpdngklaa
set_option maxRecDepth 100000
open Go.RowKit

def IntOk (n : Int) : Prop := -9223372036854775808 ≤ n ∧ n ≤ 9223372036854775807
structure OpV where
  wr : Bool
  key : Int
  val : Int
def OpV.v (o : OpV) : Value := .agg #[.bool o.wr, .int .i64 o.key, .int .i64 o.val]
def OpV.ok (o : OpV) : Prop := IntOk o.key ∧ IntOk o.val
def opZ : OpV := ⟨false, 0, 0⟩
/-- May there be such an operation? -/
def mayO (o : OpV) : Bool := (decide (0 ≤ o.key) && decide (o.key < 64)) && (decide (0 ≤ o.val) && decide (o.val ≤ 2147483647)) && (!o.wr || o.val != 0)
theorem mayO_iff (o : OpV) : mayO o = true ↔ (0 ≤ o.key ∧ o.key < 64) ∧ (0 ≤ o.val ∧ o.val ≤ 2147483647) ∧ (o.wr = true → o.val ≠ 0) := by
  obtain ⟨wr, key, val⟩ := o
  unfold mayO
  cases wr <;> simp [and_assoc]
theorem box_below (w : World) (o : Obj) : Below w.heap.size w (w.alloc o) := (Below.refl _ _).alloc (Nat.le_refl _) _
set_option maxHeartbeats 1000000 in
theorem right_any (wr : Bool) (key val : Int) (w : World) :
    Calls Try.prog 56 #[.agg #[.bool wr, .int .i64 key, .int .i64 val]] w fun e w' => e = .returned (.bool (mayO ⟨wr, key, val⟩)) ∧ Below w.heap.size w w' := by
  have hi := mayO_iff ⟨wr, key, val⟩
  by_cases h : mayO ⟨wr, key, val⟩ = true
  · obtain ⟨⟨h1, h2⟩, ⟨h3, h4⟩, h5⟩ := hi.1 h
    have HM := Lib.hid h
    have c1 : ¬ key < 0 := by simpa using h1
    have c2 : ¬ (64 : Int) ≤ key := by simp at h2; omega
    have c3 : ¬ val < 0 := by simpa using h3
    have c4 : ¬ (2147483647 : Int) < val := by simp at h4; omega
    simp only at h1 h2 h3 h4 h5
    clear h hi
    cases wr
    · clear h5
      go_enter Try.func56, Try.ntmps56
      go_wp2_with fail
      go_ret
      exact ⟨ret_b HM.out.symm, box_below _ _⟩
    · have c5 : (val != 0) = true := by rw [bne_iff_ne]; exact h5 rfl
      clear h5
      go_enter Try.func56, Try.ntmps56
      go_wp2_with fail
      go_ret
      exact ⟨ret_b HM.out.symm, box_below _ _⟩
  · have HM : Hid (mayO ⟨wr, key, val⟩ = false) := Lib.hid (by simpa using h)
    have hn : ¬ ((0 ≤ key ∧ key < 64) ∧ (0 ≤ val ∧ val ≤ 2147483647) ∧ (wr = true → val ≠ 0)) := fun k => h (hi.2 k)
    clear h hi
    by_cases c1 : key < 0
    · go_enter Try.func56, Try.ntmps56
      clear hn
      go_wp2_with fail
      go_ret
      exact ⟨ret_b HM.out.symm, box_below _ _⟩
    by_cases c2 : (64 : Int) ≤ key
    · clear hn
      go_enter Try.func56, Try.ntmps56
      go_wp2_with fail
      go_ret
      exact ⟨ret_b HM.out.symm, box_below _ _⟩
    by_cases c3 : val < 0
    · clear hn
      go_enter Try.func56, Try.ntmps56
      go_wp2_with fail
      go_ret
      exact ⟨ret_b HM.out.symm, box_below _ _⟩
    by_cases c4 : (2147483647 : Int) < val
    · clear hn
      go_enter Try.func56, Try.ntmps56
      go_wp2_with fail
      go_ret
      exact ⟨ret_b HM.out.symm, box_below _ _⟩
    cases wr
    · exfalso; apply hn; exact ⟨⟨by omega, by omega⟩, ⟨by omega, by omega⟩, fun h => by cases h⟩
    · have hv : val = 0 := by
        by_cases h : val = 0
        · exact h
        · exfalso; apply hn; exact ⟨⟨by omega, by omega⟩, ⟨by omega, by omega⟩, fun _ => h⟩
      subst hv
      clear hn
      go_enter Try.func56, Try.ntmps56
      go_wp2_with fail
      go_ret
      exact ⟨ret_b HM.out.symm, box_below _ _⟩
set_option maxHeartbeats 1000000 in
theorem read_any (key val : Int) (w : World) :
    Calls Try.prog 15 #[.int .i64 key, .int .i64 val] w fun e w' => e = .returned (.agg #[.bool false, .int .i64 key, .int .i64 val]) ∧ Below w.heap.size w w' := by
  go_enter Try.func15, Try.ntmps15
  go_wp2_with fail
  refine bodyPost_ret (v := .agg #[.bool false, .int .i64 key, .int .i64 val]) (by simp [results, Try.results15, go_sem]) rfl ⟨rfl, ?_⟩
  exact box_below _ _
set_option maxHeartbeats 1000000 in
theorem write_op (key val : Int) (w : World) :
    Calls Try.prog 14 #[.int .i64 key, .int .i64 val] w fun e w' => e = .returned (.agg #[.bool true, .int .i64 key, .int .i64 val]) ∧ Below w.heap.size w w' := by
  go_enter Try.func14, Try.ntmps14
  go_wp2_with fail
  refine bodyPost_ret (v := .agg #[.bool true, .int .i64 key, .int .i64 val]) (by simp [results, Try.results14, go_sem]) rfl ⟨rfl, ?_⟩
  exact box_below _ _
/-- Behind a region: what calls one behind the other leave alone. -/
theorem below_then {w0 w1 w2 : World} (h : Below w0.heap.size w0 w1) (k : Below w1.heap.size w1 w2) : Below w0.heap.size w0 w2 := h.trans (k.mono h.size)
theorem opBlock (w : World) (x y z : Value) (t : TypeId) : (w.alloc (.cells #[x, y, z] t)).cell? ⟨w.heap.size, 0, none⟩ = some x ∧ (w.alloc (.cells #[x, y, z] t)).cell? ⟨w.heap.size, 1, none⟩ = some y ∧ (w.alloc (.cells #[x, y, z] t)).cell? ⟨w.heap.size, 2, none⟩ = some z := by
  refine ⟨?_, ?_, ?_⟩ <;> simp
/-- The cells of operations in a row. -/
def opV (l : List OpV) : List Value := l.flatMap fun o => [.bool o.wr, .int .i64 o.key, .int .i64 o.val]
theorem opV_len (l : List OpV) : (opV l).length = l.length * 3 := by
  induction l with
  | nil => rfl
  | cons a l ih => unfold opV at *; rw [List.flatMap_cons, List.length_append, ih]; simp; omega
theorem opV_at : ∀ (l : List OpV) (k : Nat) (hk : k < l.length), (opV l)[k * 3]? = some (.bool l[k].wr) ∧ (opV l)[k * 3 + 1]? = some (.int .i64 l[k].key) ∧ (opV l)[k * 3 + 2]? = some (.int .i64 l[k].val)
  | a :: l, 0, _ => ⟨rfl, rfl, rfl⟩
  | a :: l, k + 1, hk => by
    obtain ⟨h0, h1, h2⟩ := opV_at l k (by simpa using hk)
    have e : ∀ j, (opV (a :: l))[(k + 1) * 3 + j]? = (opV l)[k * 3 + j]? := fun j => by
      unfold opV
      rw [List.flatMap_cons, show (k + 1) * 3 + j = 3 + (k * 3 + j) from by omega]
      rw [List.getElem?_append_right (by simp)]
      simp
    exact ⟨(e 0).trans h0, (e 1).trans h1, (e 2).trans h2⟩
/-- The slice v holds these operations. -/
def Ops (w : World) (v : Value) (l : List OpV) : Prop := Row w v l.length 3 (opV l)
theorem Ops.below {w w' : World} {v : Value} {l : List OpV} (h : Ops w v l) (hb : Below w.heap.size w w') : Ops w' v l := Row.below h hb
theorem Ops.form {w : World} {v : Value} {l : List OpV} (h : Ops w v l) : ∃ ao cap, v = .slice ao l.length cap ∧ l.length ≤ 9223372036854775807 := by
  obtain ⟨_, ao, cap, rfl, hm, _, _⟩ := h
  exact ⟨ao, cap, rfl, Nat.le_trans hm.1 hm.2⟩
theorem Ops.at {w : World} {ao : Option Addr} {n cap : Nat} {l : List OpV} (h : Ops w (.slice ao n cap) l) {k : Nat} (hk : k < l.length) :
    ∃ b off, ao = some ⟨b, off, none⟩ ∧ w.cell? ⟨b, off + k * 3, none⟩ = some (.bool l[k].wr) ∧ w.cell? ⟨b, off + k * 3 + 1, none⟩ = some (.int .i64 l[k].key) ∧ w.cell? ⟨b, off + k * 3 + 2, none⟩ = some (.int .i64 l[k].val) := by
  obtain ⟨_, ao', cap', he, hm, _, hc⟩ := h
  obtain ⟨rfl, _, _⟩ : ao = ao' ∧ n = l.length ∧ cap = cap' := by simpa using he
  obtain ⟨b, off, rfl, hcell⟩ := hc (by omega)
  obtain ⟨h0, h1, h2⟩ := opV_at l k hk
  refine ⟨b, off, rfl, ?_, ?_, ?_⟩
  · rw [hcell (k * 3) (by omega), h0]
  · rw [Nat.add_assoc, hcell (k * 3 + 1) (by omega), h1]
  · rw [Nat.add_assoc, hcell (k * 3 + 2) (by omega), h2]
def allM (l : List OpV) : Bool := l.all mayO
theorem allM_succ (l : List OpV) (k : Nat) (hk : k < l.length) : allM (l.take (k + 1)) = (allM (l.take k) && mayO l[k]) := by
  unfold allM; rw [List.take_succ_eq_append_getElem hk, List.all_append]; simp
theorem allM_no (l : List OpV) (k : Nat) (hk : k < l.length) (h : mayO l[k] = false) : allM l = false := by
  unfold allM; exact List.all_eq_false.2 ⟨l[k], List.getElem_mem hk, by simp [h]⟩
/-- Three cells of one block are written anew. -/
theorem put_three {w1 : World} {g : Nat} {x0 x1 x2 : Value} (v0 v1 v2 : Value) (c0 : w1.cell? ⟨g, 0, none⟩ = some x0) (c1 : w1.cell? ⟨g, 1, none⟩ = some x1) (c2 : w1.cell? ⟨g, 2, none⟩ = some x2) :
    (((w1.setCell ⟨g, 0, none⟩ v0).setCell ⟨g, 1, none⟩ v1).setCell ⟨g, 2, none⟩ v2).cell? ⟨g, 0, none⟩ = some v0 ∧
    (((w1.setCell ⟨g, 0, none⟩ v0).setCell ⟨g, 1, none⟩ v1).setCell ⟨g, 2, none⟩ v2).cell? ⟨g, 1, none⟩ = some v1 ∧
    (((w1.setCell ⟨g, 0, none⟩ v0).setCell ⟨g, 1, none⟩ v1).setCell ⟨g, 2, none⟩ v2).cell? ⟨g, 2, none⟩ = some v2 := by
  have n01 : (⟨g, 0, none⟩ : Addr) ≠ ⟨g, 1, none⟩ := by simp
  have n02 : (⟨g, 0, none⟩ : Addr) ≠ ⟨g, 2, none⟩ := by simp
  have n12 : (⟨g, 1, none⟩ : Addr) ≠ ⟨g, 2, none⟩ := by simp
  refine ⟨?_, ?_, ?_⟩
  · rw [World.cell?_setCell_other _ _ _ _ n02.symm, World.cell?_setCell_other _ _ _ _ n01.symm]
    exact World.cell?_setCell_same _ _ _ c0
  · rw [World.cell?_setCell_other _ _ _ _ n12.symm]
    exact World.cell?_setCell_same _ _ _ ((World.cell?_setCell_other _ _ _ _ n01).trans c1)
  · exact World.cell?_setCell_same _ _ _ ((World.cell?_setCell_other _ _ _ _ n12).trans ((World.cell?_setCell_other _ _ _ _ n02).trans c2))
theorem below_three {B : Nat} {w w1 : World} {g : Nat} (v0 v1 v2 : Value) (hb : Below B w w1) (hg : B ≤ g) :
    Below B w (((w1.setCell ⟨g, 0, none⟩ v0).setCell ⟨g, 1, none⟩ v1).setCell ⟨g, 2, none⟩ v2) :=
  ((hb.setCell (p := ⟨g, 0, none⟩) hg v0).setCell (p := ⟨g, 1, none⟩) hg v1).setCell (p := ⟨g, 2, none⟩) hg v2
/-- What a block of an operation that the call made holds, behind calls that leave it alone. -/
theorem op_cells {w w1 : World} {x y z : Value} {t : TypeId} (hb : Below (w.heap.size + 1) (w.alloc (.cells #[x, y, z] t)) w1) :
    (w1.cell? ⟨w.heap.size, 0, none⟩ = some x ∧ w1.cell? ⟨w.heap.size, 1, none⟩ = some y ∧ w1.cell? ⟨w.heap.size, 2, none⟩ = some z) ∧
    (w1.frozen? ⟨w.heap.size, 0, none⟩ = false ∧ w1.frozen? ⟨w.heap.size, 1, none⟩ = false ∧ w1.frozen? ⟨w.heap.size, 2, none⟩ = false) := by
  have c0 := hb.cell (p := ⟨w.heap.size, 0, none⟩) (by simp)
  have c1 := hb.cell (p := ⟨w.heap.size, 1, none⟩) (by simp)
  have c2 := hb.cell (p := ⟨w.heap.size, 2, none⟩) (by simp)
  have f0 := hb.frozen (p := ⟨w.heap.size, 0, none⟩) (by simp)
  have f1 := hb.frozen (p := ⟨w.heap.size, 1, none⟩) (by simp)
  have f2 := hb.frozen (p := ⟨w.heap.size, 2, none⟩) (by simp)
  simp at c0 c1 c2 f0 f1 f2
  exact ⟨⟨c0, c1, c2⟩, f0, f1, f2⟩
end Go.Proofs.Ytflalehpdngklaa

namespace Go.Proofs.Ytflalehpdngklaa
set_option maxRecDepth 100000
open Go.ChangeShapes Go.WideShapes Go.ChangeAt Go.RowKit Go.Deep

theorem cellsOp : Try.prog.cellsOf 51 = 3 := by kernel_rfl
theorem ops_of_cells {H : Type} {enc : TypeId × Value → H} {W : World} {v : Value} {fuel : Nat} {x : DataW H × List MemPlace}
    (hf : DataW.trod enc Try.prog W 0 (fun _ => true) true fuel 39 [v] = some x) : ∃ l, Ops W v l ∧ (∀ o ∈ l, o.ok) ∧ ((∀ n ∈ DataW.weights Try.prog 39 x.1, n ≤ reachBytes) → l.length ≤ 6000000000000) := by
  rcases open_slice Try.underlying39 hf with ⟨hcs, _⟩ | ⟨a, len, cap, m, n, D, Pl, hcs, _, hl, hm, hmm, hx, hi⟩
  · obtain rfl : v = .slice none 0 0 := by simpa using hcs
    exact ⟨[], ⟨rfl, none, 0, rfl, by simp, (fun _ => ⟨rfl, rfl⟩), (fun h => by simp at h)⟩, by simp, by simp⟩
  · obtain rfl : v = .slice (some a) len cap := by simpa using hcs
    simp only [if_true] at hmm
    have key : ∀ i, ∃ o : OpV, i < len → o.ok ∧ W.cell? ((a.add (i * 3)).add 0) = some (.bool o.wr) ∧ W.cell? ((a.add (i * 3)).add 1) = some (.int .i64 o.key) ∧ W.cell? ((a.add (i * 3)).add 2) = some (.int .i64 o.val) := fun i => by
      by_cases hlt : i < len
      · obtain ⟨cs', hc, ht⟩ := hi i (by omega)
        rw [cellsOp] at hc
        obtain ⟨_, hcl, hat⟩ := World.cells?_some hc
        obtain ⟨y0, y1, y2, n', _, _, h0, h1, h2⟩ := trod_struct3 Try.underlying51 ht
        match cs', hcl with
        | [x0, x1, x2], _ =>
          obtain ⟨b, e0, _⟩ := DataW.trod_bool Try.underlying4 h0
          obtain ⟨k, e1, _, w1⟩ := DataW.trod_int Try.underlying3 h1
          obtain ⟨z, e2, _, w2⟩ := DataW.trod_int Try.underlying3 h2
          have k0 : Try.prog.cellsOf 4 = 1 := by kernel_rfl
          have k1 : Try.prog.cellsOf 3 = 1 := by kernel_rfl
          simp [k0, k1] at e0 e1 e2
          subst e0; subst e1; subst e2
          exact ⟨⟨b, k, z⟩, fun _ => ⟨⟨bounds_i64 w1, bounds_i64 w2⟩, hat 0 (by omega), hat 1 (by omega), hat 2 (by omega)⟩⟩
      · exact ⟨opZ, fun h => absurd h hlt⟩
    obtain ⟨O, hO⟩ := Classical.skolem.1 key
    have hlen : ((List.range len).map O).length = len := by simp
    have hel : ∀ (i : Nat) (h : i < ((List.range len).map O).length), ((List.range len).map O)[i] = O i := fun i h => by simp
    refine ⟨(List.range len).map O, ?_, ?_, ?_⟩
    · generalize (List.range len).map O = l at *
      subst hlen
      refine ⟨opV_len l, some a, cap, rfl, ⟨hl, hm⟩, (fun h => by cases h), fun hn => ?_⟩
      obtain ⟨b, off, spot⟩ := a
      have hspot : spot = none := by
        have := (hO 0 hn).2.1
        simpa [Addr.add] using World.cell?_spot this
      subst hspot
      refine ⟨b, off, rfl, fun i hii => ?_⟩
      have hk : i / 3 < l.length := by omega
      obtain ⟨_, c0, c1, c2⟩ := hO (i / 3) hk
      simp only [Addr.add_lit] at c0 c1 c2
      obtain ⟨e0, e1, e2⟩ := opV_at l (i / 3) hk
      rw [hel _ hk] at e0 e1 e2
      have hm3 : i % 3 = 0 ∨ i % 3 = 1 ∨ i % 3 = 2 := by omega
      rcases hm3 with h | h | h
      · rw [show i = i / 3 * 3 from by omega, e0, ← c0]; rfl
      · rw [show i = i / 3 * 3 + 1 from by omega, e1, ← c1, ← Nat.add_assoc]
      · rw [show i = i / 3 * 3 + 2 from by omega, e2, ← c2, ← Nat.add_assoc]
    · intro o ho
      obtain ⟨i, hi2, rfl⟩ := List.mem_map.1 ho
      exact (hO i (List.mem_range.1 hi2)).1
    · intro hw
      rw [hlen]
      have hb24 : Try.prog.bytesOf 51 = 24 := by kernel_rfl
      have := hw ((((List.range len).map D).length + ((List.range (m - len)).map fun j => D (len + j)).length) * Try.prog.bytesOf 51) (by rw [hx]; simp [DataW.weights, Try.underlying39])
      rw [hb24] at this
      unfold reachBytes at this
      simp at this
      omega
end Go.Proofs.Ytflalehpdngklaa

namespace Go.Proofs.Ytflalehpdngklaa
set_option maxRecDepth 100000
open Go.RowKit

/-- A transaction: its numbers, its slice of operations, and what that holds. -/
structure TxnV where
  s : Int
  b : Int
  c : Int
  v : Value
  l : List OpV
def TxnV.ok (t : TxnV) : Prop := (IntOk t.s ∧ IntOk t.b ∧ IntOk t.c) ∧ ∀ o ∈ t.l, o.ok
def txV (h : List TxnV) : List Value := h.flatMap fun t => [.int .i64 t.s, .int .i64 t.b, .int .i64 t.c, t.v]
theorem txV_len (h : List TxnV) : (txV h).length = h.length * 4 := by
  induction h with
  | nil => rfl
  | cons a l ih => unfold txV at *; rw [List.flatMap_cons, List.length_append, ih]; simp; omega
theorem txV_at : ∀ (l : List TxnV) (k : Nat) (hk : k < l.length), (txV l)[k * 4]? = some (.int .i64 l[k].s) ∧ (txV l)[k * 4 + 1]? = some (.int .i64 l[k].b) ∧ (txV l)[k * 4 + 2]? = some (.int .i64 l[k].c) ∧ (txV l)[k * 4 + 3]? = some l[k].v
  | a :: l, 0, _ => ⟨rfl, rfl, rfl, rfl⟩
  | a :: l, k + 1, hk => by
    obtain ⟨h0, h1, h2, h3⟩ := txV_at l k (by simpa using hk)
    have e : ∀ j, (txV (a :: l))[(k + 1) * 4 + j]? = (txV l)[k * 4 + j]? := fun j => by
      unfold txV
      rw [List.flatMap_cons, show (k + 1) * 4 + j = 4 + (k * 4 + j) from by omega]
      rw [List.getElem?_append_right (by simp)]
      simp
    exact ⟨(e 0).trans h0, (e 1).trans h1, (e 2).trans h2, (e 3).trans h3⟩
/-- The slice v holds these transactions. -/
def Txns (w : World) (v : Value) (h : List TxnV) : Prop := Row w v h.length 4 (txV h) ∧ ∀ t ∈ h, Ops w t.v t.l
theorem Txns.below {w w' : World} {v : Value} {h : List TxnV} (hT : Txns w v h) (hb : Below w.heap.size w w') : Txns w' v h := ⟨Row.below hT.1 hb, fun t ht => (hT.2 t ht).below hb⟩
theorem Txns.form {w : World} {v : Value} {l : List TxnV} (h : Txns w v l) : ∃ ao cap, v = .slice ao l.length cap ∧ l.length ≤ 9223372036854775807 := by
  obtain ⟨⟨_, ao, cap, rfl, hm, _, _⟩, _⟩ := h
  exact ⟨ao, cap, rfl, Nat.le_trans hm.1 hm.2⟩
theorem Txns.at {w : World} {ao : Option Addr} {n cap : Nat} {l : List TxnV} (h : Txns w (.slice ao n cap) l) {k : Nat} (hk : k < l.length) :
    ∃ b off, ao = some ⟨b, off, none⟩ ∧ w.cell? ⟨b, off + k * 4, none⟩ = some (.int .i64 l[k].s) ∧ w.cell? ⟨b, off + k * 4 + 1, none⟩ = some (.int .i64 l[k].b) ∧ w.cell? ⟨b, off + k * 4 + 2, none⟩ = some (.int .i64 l[k].c) ∧ w.cell? ⟨b, off + k * 4 + 3, none⟩ = some l[k].v := by
  obtain ⟨⟨_, ao', cap', he, hm, _, hc⟩, _⟩ := h
  obtain ⟨rfl, _, _⟩ : ao = ao' ∧ n = l.length ∧ cap = cap' := by simpa using he
  obtain ⟨b, off, rfl, hcell⟩ := hc (by omega)
  obtain ⟨h0, h1, h2, h3⟩ := txV_at l k hk
  refine ⟨b, off, rfl, ?_, ?_, ?_, ?_⟩
  · rw [hcell (k * 4) (by omega), h0]
  · rw [Nat.add_assoc, hcell (k * 4 + 1) (by omega), h1]
  · rw [Nat.add_assoc, hcell (k * 4 + 2) (by omega), h2]
  · rw [Nat.add_assoc, hcell (k * 4 + 3) (by omega), h3]
theorem Txns.ops {w : World} {v : Value} {l : List TxnV} (h : Txns w v l) {k : Nat} (hk : k < l.length) : Ops w l[k].v l[k].l := h.2 _ (List.getElem_mem hk)
end Go.Proofs.Ytflalehpdngklaa

namespace Go.Proofs.Ytflalehpdngklaa
set_option maxRecDepth 100000
open Go.ChangeShapes Go.WideShapes Go.ChangeAt Go.RowKit Go.Deep

theorem cellsTxn : Try.prog.cellsOf 41 = 4 := by kernel_rfl
theorem weightsAll_mem {H : Type} {P : Program} {e : TypeId} {d : DataW H} {n : Nat} (hn : n ∈ d.weights P e) : ∀ {ds : List (DataW H)}, d ∈ ds → n ∈ DataW.weightsAll P e ds
  | a :: ds, h => by
    unfold DataW.weightsAll
    rcases List.mem_cons.1 h with rfl | h
    · exact List.mem_append_left _ hn
    · exact List.mem_append_right _ (weightsAll_mem hn h)
theorem txns_of_trod {H : Type} {enc : TypeId × Value → H} {W : World} {base : Nat} {v : Value} {d : DataW H} {p : List MemPlace}
    (hval : Value.okWide Try.prog W .any base 22 v) (h : DataW.Trod enc Try.prog W 0 (fun _ => true) true 22 v d p) (hwt : ∀ n ∈ DataW.weights Try.prog 22 d, n ≤ reachBytes) : ∃ l, Txns W v l ∧ (∀ t ∈ l, t.ok) ∧ ∀ t ∈ l, t.l.length ≤ 6000000000000 := by
  obtain ⟨a0, len, cap, rfl⟩ := okWide_slice Try.underlying22 hval
  obtain ⟨fuel, hf⟩ := h
  rcases open_slice Try.underlying22 hf with ⟨hcs, _⟩ | ⟨a, len', cap', m, n, D, Pl, hcs, _, hl, hm, hmm, hx, hi⟩
  · simp [Value.cells] at hcs
    obtain ⟨rfl, rfl, rfl⟩ := hcs
    exact ⟨[], ⟨⟨rfl, none, 0, rfl, by simp, (fun _ => ⟨rfl, rfl⟩), (fun h => by simp at h)⟩, by simp⟩, by simp, by simp⟩
  · simp [Value.cells] at hcs
    obtain ⟨rfl, rfl, rfl⟩ := hcs
    simp only [if_true] at hmm
    have key : ∀ i, ∃ t : TxnV, i < len → (t.ok ∧ t.l.length ≤ 6000000000000) ∧ Ops W t.v t.l ∧ W.cell? ((a.add (i * 4)).add 0) = some (.int .i64 t.s) ∧ W.cell? ((a.add (i * 4)).add 1) = some (.int .i64 t.b) ∧ W.cell? ((a.add (i * 4)).add 2) = some (.int .i64 t.c) ∧ W.cell? ((a.add (i * 4)).add 3) = some t.v := fun i => by
      by_cases hlt : i < len
      · obtain ⟨cs', hc, ht⟩ := hi i (by omega)
        rw [cellsTxn] at hc
        obtain ⟨_, hcl, hat⟩ := World.cells?_some hc
        obtain ⟨y0, y1, y2, y3, n', hy, _, h0, h1, h2, h3⟩ := Joins.trod_struct4 Try.underlying41 ht
        match cs', hcl with
        | [x0, x1, x2, x3], _ =>
          obtain ⟨s, e0, _, w0⟩ := DataW.trod_int Try.underlying3 h0
          obtain ⟨b, e1, _, w1⟩ := DataW.trod_int Try.underlying3 h1
          obtain ⟨c, e2, _, w2⟩ := DataW.trod_int Try.underlying3 h2
          have k1 : Try.prog.cellsOf 3 = 1 := by kernel_rfl
          have k3 : Try.prog.cellsOf 39 = 1 := by kernel_rfl
          simp [k1] at e0 e1 e2
          subst e0; subst e1; subst e2
          simp [k3] at h3
          obtain ⟨l, hlo, hok, hlw⟩ := ops_of_cells h3
          have hll := hlw (fun q hq => hwt q (by
            rw [show d = _ from congrArg Prod.fst hx]
            simp only [DataW.weights, Try.underlying22]
            refine List.mem_cons_of_mem _ (List.mem_append_left _ (weightsAll_mem (d := D i) ?_ (List.mem_map.2 ⟨i, List.mem_range.2 hlt, rfl⟩)))
            have hy1 := congrArg Prod.fst hy
            rw [show D i = _ from hy1]
            simp only [DataW.weights, Try.underlying41, DataW.weightsEach, List.map_cons, List.map_nil]
            simp [hq]))
          exact ⟨⟨s, b, c, x3, l⟩, fun _ => ⟨⟨⟨⟨bounds_i64 w0, bounds_i64 w1, bounds_i64 w2⟩, hok⟩, hll⟩, hlo, hat 0 (by omega), hat 1 (by omega), hat 2 (by omega), hat 3 (by omega)⟩⟩
      · exact ⟨⟨0, 0, 0, .nilIface, []⟩, fun h => absurd h hlt⟩
    obtain ⟨O, hO⟩ := Classical.skolem.1 key
    have hlen : ((List.range len).map O).length = len := by simp
    have hel : ∀ (i : Nat) (h : i < ((List.range len).map O).length), ((List.range len).map O)[i] = O i := fun i h => by simp
    refine ⟨(List.range len).map O, ⟨?_, ?_⟩, ?_, ?_⟩
    · generalize (List.range len).map O = l at *
      subst hlen
      refine ⟨txV_len l, some a, cap, rfl, ⟨hl, hm⟩, (fun h => by cases h), fun hn => ?_⟩
      obtain ⟨b, off, spot⟩ := a
      have hspot : spot = none := by
        have := (hO 0 hn).2.2.1
        simpa [Addr.add] using World.cell?_spot this
      subst hspot
      refine ⟨b, off, rfl, fun i hii => ?_⟩
      have hk : i / 4 < l.length := by omega
      obtain ⟨_, _, c0, c1, c2, c3⟩ := hO (i / 4) hk
      simp only [Addr.add_lit] at c0 c1 c2 c3
      obtain ⟨e0, e1, e2, e3⟩ := txV_at l (i / 4) hk
      rw [hel _ hk] at e0 e1 e2 e3
      have hm4 : i % 4 = 0 ∨ i % 4 = 1 ∨ i % 4 = 2 ∨ i % 4 = 3 := by omega
      rcases hm4 with h | h | h | h
      · rw [show i = i / 4 * 4 from by omega, e0, ← c0]; rfl
      · rw [show i = i / 4 * 4 + 1 from by omega, e1, ← c1, ← Nat.add_assoc]
      · rw [show i = i / 4 * 4 + 2 from by omega, e2, ← c2, ← Nat.add_assoc]
      · rw [show i = i / 4 * 4 + 3 from by omega, e3, ← c3, ← Nat.add_assoc]
    · intro t ht
      obtain ⟨i, hi2, rfl⟩ := List.mem_map.1 ht
      exact (hO i (List.mem_range.1 hi2)).2.1
    · intro t ht
      obtain ⟨i, hi2, rfl⟩ := List.mem_map.1 ht
      exact (hO i (List.mem_range.1 hi2)).1.1
    · intro t ht
      obtain ⟨i, hi2, rfl⟩ := List.mem_map.1 ht
      exact (hO i (List.mem_range.1 hi2)).1.2
end Go.Proofs.Ytflalehpdngklaa

namespace Go.Proofs.Ytflalehpdngklaa
set_option maxRecDepth 100000
open Go.RowKit

/-- The number is an int. -/
abbrev InI (x : Int) : Prop := (Lit.int .i64 x).wf = true
open Classical in
/-- An element's reader: the element itself, where it is of the right shape. -/
noncomputable def rdE {α : Type} (e : α → Value) (v : Value) : Option (DataW Value × List MemPlace) := if ∃ a, v = e a then some (.held v, []) else none
theorem rdE_mk {α : Type} (e : α → Value) (a : α) : rdE e (e a) = some (.held (e a), []) := by
  unfold rdE; rw [if_pos ⟨a, rfl⟩]
theorem rdE_inv {α : Type} {e : α → Value} {v : Value} {y : DataW Value × List MemPlace} (h : rdE e v = some y) : ∃ a, v = e a ∧ y = (.held (e a), []) := by
  unfold rdE at h
  split at h
  · rename_i hv
    obtain ⟨a, rfl⟩ := hv
    exact ⟨a, rfl, (Option.some.inj h).symm⟩
  · cases h
/-- What a map as read says at each int. -/
def Tells {α : Type} (e : α → Value) (D : DataW Value) (f : Int → Option α) : Prop :=
  ∀ x, InI x → Maps.has D (.int .i64 x) = (f x).isSome ∧ ∀ a, f x = some a → ∀ z, D.atKey (.int .i64 x) z = .held (e a)
/-- Block b is a map of c entries, which has at each int x what f says. -/
def MapI {α : Type} (e : α → Value) (P : Program) (k : TypeId) (w : World) (b n : Nat) (f : Int → Option α) (c : Nat) : Prop :=
  ∃ D, w.ownsMap P k (rdE e) b n D ∧ Maps.size D = c ∧ Tells e D f
theorem MapI.made {α : Type} (e : α → Value) (P : Program) (k : TypeId) (w : World) : MapI e P k (w.alloc (.map #[] 0)) w.heap.size 0 (fun _ => none) 0 :=
  ⟨_, World.ownsMap_made w P k (rdE e), rfl, fun _ _ => ⟨rfl, fun _ h => by cases h⟩⟩
section
variable {α : Type} {e : α → Value} {P : Program} {k : TypeId} {w : World} {b n : Nat} {f : Int → Option α} {c : Nat}
theorem MapI.lt (h : MapI e P k w b n f c) : b < w.heap.size := by obtain ⟨D, h, _⟩ := h; exact h.lt
theorem MapI.mono (h : MapI e P k w b n f c) {n' : Nat} (hn : n ≤ n') : MapI e P k w b n' f c := by
  obtain ⟨D, h, r⟩ := h; exact ⟨D, h.mono hn, r⟩
theorem MapI.kept {w' : World} {row : Option Nat} (h : MapI e P k w b n f c) (hg : w.grownBy w' row) (hne : some b ≠ row) : MapI e P k w' b n f c := by
  obtain ⟨D, h, r⟩ := h; exact ⟨D, h.kept hg hne, r⟩
theorem MapI.below {w' : World} (h : MapI e P k w b n f c) (hb : Below w.heap.size w w') : MapI e P k w' b n f c :=
  h.kept (row := none) ⟨hb.os, hb.tape, hb.output, hb.size, fun j hj _ => hb.block j hj⟩ (by simp)
theorem MapI.alloc (h : MapI e P k w b n f c) (o : Obj) : MapI e P k (w.alloc o) b n f c := by
  obtain ⟨D, h, r⟩ := h; exact ⟨D, h.alloc o, r⟩
theorem MapI.ext {g : Int → Option α} (h : MapI e P k w b n f c) (hg : ∀ x, InI x → f x = g x) : MapI e P k w b n g c := by
  obtain ⟨D, h, hs, ht⟩ := h
  exact ⟨D, h, hs, fun x hx => by rw [← hg x hx]; exact ht x hx⟩
theorem keyOf_I (hk : P.underlying k = some (.int .i64)) {x : Int} (hx : InI x) : keyOf P k (.int .i64 x) = some (.int .i64 x) := Maps.keyOf_int_mk hk hx
theorem isKey_I (x : Int) : WideAt.IsKeyLit (.int .i64 x) := trivial
end
section
variable {α : Type} {e : α → Value} {P : Program} (w : World) {ops : Array Oper} {rest : List Oper} {o : Oper} {a : Act} {Q : Exit → Act → World → Prop}
theorem lookI_run {k el t : TypeId} {b n c : Nat} {f : Int → Option α} {w : World} (cm : Bool) (hk : P.underlying k = some (.int .i64)) (ht : P.underlying t = some (.map k el)) (a0 : α) (hz : (zeroValue el).run P w = .ok (e a0) w)
    (hown : MapI e P k w b n f c) {key : Int} (hkey : InI key) :
    (Instr.lookup t (.map (some b)) (.int .i64 key) cm).run P w = .ok (if cm then .tuple #[e ((f key).getD a0), .bool (f key).isSome] else e ((f key).getD a0)) w := by
  obtain ⟨D, hD, _, ht2⟩ := hown
  obtain ⟨hh, hat⟩ := ht2 key hkey
  have K := Maps.int_keyed hk
  cases cm
  · obtain ⟨v, ps, hrun, hv⟩ := hD.lookup K ht hz (rdE_mk e a0) (keyOf_I hk hkey)
    obtain ⟨x, rfl, hy⟩ := rdE_inv hv
    have hy := congrArg Prod.fst hy
    simp only at hy
    rw [hrun]
    cases hf : f key with
    | none =>
      rw [hf] at hh
      rw [Maps.atKey_of_not_has hh] at hy
      simp [DataW.held.inj hy]
    | some u =>
      rw [hat u hf] at hy
      simp [DataW.held.inj hy]
  · obtain ⟨v, ps, hrun, hv⟩ := hD.look_ok K ht hz (rdE_mk e a0) (keyOf_I hk hkey)
    obtain ⟨x, rfl, hy⟩ := rdE_inv hv
    have hy := congrArg Prod.fst hy
    simp only at hy
    rw [hrun, hh]
    cases hf : f key with
    | none =>
      rw [hf] at hh
      rw [Maps.atKey_of_not_has hh] at hy
      simp [DataW.held.inj hy]
    | some u =>
      rw [hat u hf] at hy
      simp [DataW.held.inj hy]
/-- 'v, ok := m[k]'. -/
theorem wpList_lookI_ok (hg : o.guard = none) (m x : Operand) (t : TypeId) (hop : o.op = Op.lookup t m x true) (k el : TypeId) (hk : P.underlying k = some (.int .i64)) (ht : P.underlying t = some (.map k el)) (a0 : α) (hz : (zeroValue el).run P w = .ok (e a0) w)
    (b n c : Nat) (f : Int → Option α) (hm : a.eval m = .map (some b)) (hown : MapI e P k w b n f c) (key : Int) (hx : a.eval x = .int .i64 key) (hkey : InI key)
    (hK : wpList P ops Q rest (a.put o.dst (.tuple #[e ((f key).getD a0), .bool (f key).isSome])) w) : wpList P ops Q (o :: rest) a w := by
  refine wpList_plain hg fun K' hK' => ?_
  have hrun := lookI_run true hk ht a0 hz hown hkey
  unfold Oper.wp
  simp only [if_true] at hrun
  simp [execOp, hop, hm, hx, hrun, Result.andThen]
  exact hK' _ _ hK
/-- 'm[k]'. -/
theorem wpList_lookI (hg : o.guard = none) (m x : Operand) (t : TypeId) (hop : o.op = Op.lookup t m x false) (k el : TypeId) (hk : P.underlying k = some (.int .i64)) (ht : P.underlying t = some (.map k el)) (a0 : α) (hz : (zeroValue el).run P w = .ok (e a0) w)
    (b n c : Nat) (f : Int → Option α) (hm : a.eval m = .map (some b)) (hown : MapI e P k w b n f c) (key : Int) (hx : a.eval x = .int .i64 key) (hkey : InI key)
    (hK : wpList P ops Q rest (a.put o.dst (e ((f key).getD a0))) w) : wpList P ops Q (o :: rest) a w := by
  refine wpList_plain hg fun K' hK' => ?_
  have hrun := lookI_run false hk ht a0 hz hown hkey
  unfold Oper.wp
  simp only [Bool.false_eq_true, if_false] at hrun
  simp [execOp, hop, hm, hx, hrun, Result.andThen]
  exact hK' _ _ hK
def putF (f : Int → Option α) (key : Int) (val : α) : Int → Option α := fun y => if y = key then some val else f y
theorem putF_same (f : Int → Option α) (key : Int) (val : α) : putF f key val key = some val := by simp [putF]
theorem putF_other (f : Int → Option α) {key y : Int} (val : α) (h : y ≠ key) : putF f key val y = f y := by simp [putF, h]
/-- 'm[k] = v'. -/
theorem wpList_putI (hg : o.guard = none) (m x v : Operand) (t : TypeId) (hop : o.op = Op.mapUpdate t m x v) (k el : TypeId) (hk : P.underlying k = some (.int .i64)) (ht : P.underlying t = some (.map k el))
    (b n c : Nat) (f : Int → Option α) (hm : a.eval m = .map (some b)) (hown : MapI e P k w b n f c) (hn : n < maxLen) (key : Int) (hx : a.eval x = .int .i64 key) (hkey : InI key) (val : α) (hv : a.eval v = e val)
    (hK : ∀ w', MapI e P k w' b (n + 1) (putF f key val) (if (f key).isSome then c else c + 1) → w.grownBy w' (some b) → wpList P ops Q rest (a.put o.dst undef) w') : wpList P ops Q (o :: rest) a w := by
  obtain ⟨D, hD, hs, ht2⟩ := hown
  refine wpList_mapUpdate_own w hg m x v t hop k el (Maps.int_keyed hk) ht (rdE e) b n D hm hD hn _ _ _ hx hv (keyOf_I hk hkey) _ [] (rdE_mk e val) fun w' h1 h2 => hK w' ⟨_, h1, ?_, fun y hy => ?_⟩ h2
  · rw [Maps.size_put (hD.tidy (Maps.int_keyed hk)), (ht2 key hkey).1, hs]
  · by_cases he : y = key
    · subst he
      rw [putF_same]
      exact ⟨Maps.has_put_same hD.isMap (isKey_I y) _, fun u hu z => by cases hu; exact Maps.atKey_put_same hD.isMap (isKey_I y) _ _⟩
    · have hne : Lit.int .i64 y ≠ .int .i64 key := fun h => he (by cases h; rfl)
      rw [putF_other f val he]
      exact ⟨(Maps.has_put_other hne _).trans (ht2 y hy).1, fun u hu z => (Maps.atKey_put_other hne _ _).trans ((ht2 y hy).2 u hu z)⟩
/-- A range over a map under way: 'left x': is the entry at x still to come? -/
def RangeI (e : α → Value) (P : Program) (k : TypeId) (w : World) (b r n : Nat) (f : Int → Option α) (left : Int → Bool) (cnt : Nat) : Prop :=
  ∃ D L, w.ranges P k (rdE e) b r n D L cnt ∧ Tells e D f ∧ ∀ x, InI x → L (.int .i64 x) = left x
theorem RangeI.owns {k : TypeId} {b r n cnt : Nat} {f : Int → Option α} {left : Int → Bool} {w : World} (h : RangeI e P k w b r n f left cnt) : ∃ c, MapI e P k w b n f c := by
  obtain ⟨D, L, h, ht, _⟩ := h
  exact ⟨_, D, h.owns, rfl, ht⟩
theorem RangeI.lt {k : TypeId} {b r n cnt : Nat} {f : Int → Option α} {left : Int → Bool} {w : World} (h : RangeI e P k w b r n f left cnt) : r < w.heap.size := by
  obtain ⟨D, L, h, _⟩ := h; exact h.lt
theorem RangeI.left_eq {k : TypeId} {b r n cnt : Nat} {f : Int → Option α} {left : Int → Bool} {w : World} (h : RangeI e P k w b r n f left cnt) : w.rangeLeft b r = cnt := by
  obtain ⟨D, L, h, _⟩ := h; exact h.left_eq
theorem RangeI.kept {k : TypeId} {b r n cnt : Nat} {f : Int → Option α} {left : Int → Bool} {w w' : World} {row : Option Nat} (h : RangeI e P k w b r n f left cnt) (hg : w.grownBy w' row) (hb : some b ≠ row) (hr : some r ≠ row) : RangeI e P k w' b r n f left cnt := by
  obtain ⟨D, L, h, q⟩ := h; exact ⟨D, L, h.kept hg hb hr, q⟩
theorem RangeI.alloc {k : TypeId} {b r n cnt : Nat} {f : Int → Option α} {left : Int → Bool} {w : World} (h : RangeI e P k w b r n f left cnt) (o : Obj) : RangeI e P k (w.alloc o) b r n f left cnt := by
  obtain ⟨D, L, h, q⟩ := h; exact ⟨D, L, h.alloc o, q⟩
theorem RangeI.below {k : TypeId} {b r n cnt : Nat} {f : Int → Option α} {left : Int → Bool} {w w' : World} (h : RangeI e P k w b r n f left cnt) (hb : Below w.heap.size w w') : RangeI e P k w' b r n f left cnt :=
  h.kept (row := none) ⟨hb.os, hb.tape, hb.output, hb.size, fun j hj _ => hb.block j hj⟩ (by simp) (by simp)
/-- 'range m'. -/
theorem wpList_rangeI (hg : o.guard = none) (m : Operand) (t : TypeId) (hop : o.op = Op.range t m) (k el : TypeId) (hk : P.underlying k = some (.int .i64)) (ht : P.underlying t = some (.map k el)) (b n c : Nat) (f : Int → Option α)
    (hm : a.eval m = .map (some b)) (hown : MapI e P k w b n f c)
    (hK : ∀ w', RangeI e P k w' b w.heap.size n f (fun x => (f x).isSome) c → w.grownBy w' none → w'.heap.size = w.heap.size + 1 → wpList P ops Q rest (a.put o.dst (.pointer (some ⟨w.heap.size, 0, none⟩))) w') :
    wpList P ops Q (o :: rest) a w := by
  obtain ⟨D, hD, hs, ht2⟩ := hown
  refine wpList_range_own w hg m t hop k el (Maps.int_keyed hk) ht (rdE e) b n D hm hD fun w' h1 h2 h3 => hK w' ⟨D, _, hs ▸ h1, ht2, fun x hx => (ht2 x hx).1⟩ h2 h3
/-- The step of a range. -/
theorem wpList_nextI (hg : o.guard = none) (it : Operand) (hop : o.op = Op.next it false) (k : TypeId) (hk : P.underlying k = some (.int .i64)) (hinj : ∀ x y : α, e x = e y → x = y)
    (b r n : Nat) (f : Int → Option α) (left : Int → Bool) (cnt : Nat) (hit : a.eval it = .pointer (some ⟨r, 0, none⟩)) (h : RangeI e P k w b r n f left cnt)
    (hDone : cnt = 0 → (∀ x, InI x → left x = false) → wpList P ops Q rest (a.put o.dst (.tuple #[.bool false])) w)
    (hMore : ∀ (x : Int) (u : α) (w' : World) (cnt' : Nat), InI x → left x = true → f x = some u → RangeI e P k w' b r n f (fun y => left y && !decide (y = x)) cnt' → cnt' < cnt →
      w.grownBy w' (some r) → w'.heap.size = w.heap.size → (Instr.entry (.pointer (some ⟨r, 0, none⟩))).run P w' = .ok (.tuple #[.int .i64 x, e u]) w' → wpList P ops Q rest (a.put o.dst (.tuple #[.bool true, .int .i64 x, e u])) w') :
    wpList P ops Q (o :: rest) a w := by
  obtain ⟨D, L, hr, ht2, hL⟩ := h
  refine wpList_next_ranges w hg it hop k (Maps.int_keyed hk) (rdE e) (Value.int .i64) e (fun key kl hkey => by obtain ⟨x, rfl, _⟩ := Maps.keyOf_int_inv hk hkey; exact ⟨x, rfl⟩) (fun v y hv => by obtain ⟨c, rfl, _⟩ := rdE_inv hv; exact ⟨c, rfl⟩)
    b r n D L cnt hit hr (fun h0 hl => hDone h0 fun x hx => (hL x hx).symm.trans (hl _)) fun x u kl y w' cnt' hkey hlk hv hat hrg hlt hgr hsz hen => ?_
  obtain ⟨x', ex, rfl, hwx⟩ := Maps.keyOf_int_inv hk hkey
  cases ex
  obtain ⟨u', eu, rfl⟩ := rdE_inv hv
  obtain ⟨hh, hf⟩ := ht2 x hwx
  have hhas : Maps.has D (.int .i64 x) = true := Maps.has_true_of_atKey hat
  rw [hhas] at hh
  obtain ⟨u2, hu2⟩ := Option.isSome_iff_exists.1 hh.symm
  have e1 := (hf u2 hu2 .nil).symm.trans (hat .nil)
  simp only [DataW.held.injEq] at e1
  have e2 : u2 = u := hinj _ _ (e1.trans eu.symm)
  subst e2
  refine hMore x u2 w' cnt' hwx ((hL x hwx).symm.trans hlk) hu2 ⟨D, _, hrg, ht2, fun y hy => ?_⟩ hlt hgr hsz hen
  rw [hL y hy]
  by_cases hyx : y = x
  · subst hyx
    rw [WideAt.sameKey_self (isKey_I y)]; simp
  · rw [Maps.sameKey_ne (fun h => hyx (by cases h; rfl))]; simp [hyx]
end
end Go.Proofs.Ytflalehpdngklaa

namespace Go.Proofs.Ytflalehpdngklaa
set_option maxRecDepth 100000
open Go.RowKit

theorem inI_of {x : Int} (h : IntOk x) : InI x := WalkArith.wf_i64 (by have := h.1; have := h.2; omega)
def eI : Int → Value := Value.int .i64
def eO : OpV → Value := OpV.v
theorem eO_inj : ∀ x y : OpV, eO x = eO y → x = y := by
  rintro ⟨a, b, c⟩ ⟨a', b', c'⟩ h
  unfold eO OpV.v at h
  simp at h
  obtain ⟨rfl, rfl, rfl⟩ := h
  rfl
/-- The last operation of a key; the first one; the last write. -/
def lastO (l : List OpV) (x : Int) : Option OpV := (l.filter fun o => o.key == x).getLast?
def firstO (l : List OpV) (x : Int) : Option OpV := l.find? fun o => o.key == x
def lastW (l : List OpV) (x : Int) : Option OpV := (l.filter fun o => o.wr && o.key == x).getLast?
theorem take_snoc (l : List OpV) (k : Nat) (hk : k < l.length) : l.take (k + 1) = l.take k ++ [l[k]] := List.take_succ_eq_append_getElem hk
theorem lastO_snoc (l : List OpV) (o : OpV) : lastO (l ++ [o]) = putF (lastO l) o.key o := by
  funext y
  unfold lastO putF
  rw [List.filter_append]
  by_cases h : y = o.key
  · subst h; simp
  · have : (o.key == y) = false := by simp; exact fun e => h e.symm
    simp [this, h]
theorem lastW_snoc (l : List OpV) (o : OpV) : lastW (l ++ [o]) = if o.wr then putF (lastW l) o.key o else lastW l := by
  funext y
  cases hw : o.wr
  · unfold lastW; rw [List.filter_append]; simp [hw]
  · simp only [if_true]
    unfold lastW putF
    rw [List.filter_append]
    by_cases h : y = o.key
    · subst h; simp [hw]
    · have : (o.key == y) = false := by simp; exact fun e => h e.symm
      simp [hw, this, h]
theorem firstO_snoc (l : List OpV) (o : OpV) : firstO (l ++ [o]) = if (firstO l o.key).isSome then firstO l else putF (firstO l) o.key o := by
  funext y
  unfold firstO putF
  by_cases h : y = o.key
  · subst h
    cases hf : l.find? (fun p => p.key == o.key) <;> simp [hf]
  · have : (o.key == y) = false := by simp; exact fun e => h e.symm
    cases hf : l.find? (fun p => p.key == o.key) <;> simp [this, h]
theorem firstO_key {l : List OpV} {x : Int} {o : OpV} (h : firstO l x = some o) : o.key = x ∧ o ∈ l := by
  unfold firstO at h
  exact ⟨by simpa using List.find?_some h, List.mem_of_find?_eq_some h⟩
theorem lastW_key {l : List OpV} {x : Int} {o : OpV} (h : lastW l x = some o) : o.key = x ∧ o.wr = true ∧ o ∈ l := by
  unfold lastW at h
  have := List.mem_of_getLast? h
  simp at this
  exact ⟨this.2.2, this.2.1, this.1⟩
/-- What is steady at the place k: it reads what the last operation of its key has. -/
def stOk (l : List OpV) (k : Nat) : Bool :=
  match l[k]? with
  | none => true
  | some o => match lastO (l.take k) o.key with
    | none => true
    | some p => o.wr || o.val == p.val
def steadyL (l : List OpV) : Bool := (List.range l.length).all (stOk l)
theorem steadyL_all {l : List OpV} (h : ∀ j, j < l.length → stOk l j = true) : steadyL l = true := by
  unfold steadyL; rw [List.all_eq_true]; intro j hj; exact h j (List.mem_range.1 hj)
theorem steadyL_no {l : List OpV} {k : Nat} (hk : k < l.length) (h : stOk l k = false) : steadyL l = false := by
  unfold steadyL; rw [List.all_eq_false]; exact ⟨k, List.mem_range.2 hk, by simp [h]⟩
theorem stOk_at {l : List OpV} {k : Nat} (hk : k < l.length) : stOk l k = match lastO (l.take k) l[k].key with
    | none => true
    | some p => l[k].wr || l[k].val == p.val := by
  unfold stOk; rw [List.getElem?_eq_getElem hk]
/-- Rising by keys, just those that f has, of the one kind. -/
def Rise (f : Int → Option OpV) (wr : Bool) (out : List OpV) : Prop := out.Pairwise (fun a b => a.key < b.key) ∧ ∀ o, o ∈ out ↔ (f o.key = some o ∧ o.wr = wr)
theorem rise_tail {a : OpV} {l m : List OpV} (h1 : ∀ x ∈ l, a.key < x.key) (h2 : ∀ x ∈ m, a.key < x.key) (hm : ∀ o, o ∈ a :: l ↔ o ∈ a :: m) : ∀ o, o ∈ l ↔ o ∈ m := by
  intro o
  have := hm o
  simp only [List.mem_cons] at this
  constructor
  · intro ho
    rcases this.1 (Or.inr ho) with rfl | h
    · have := h1 _ ho; omega
    · exact h
  · intro ho
    rcases this.2 (Or.inr ho) with rfl | h
    · have := h2 _ ho; omega
    · exact h
theorem rise_eq : ∀ {l m : List OpV}, l.Pairwise (fun a b => a.key < b.key) → m.Pairwise (fun a b => a.key < b.key) → (∀ o, o ∈ l ↔ o ∈ m) → l = m
  | [], [], _, _, _ => rfl
  | [], b :: m, _, _, h => by have := (h b).2 List.mem_cons_self; cases this
  | a :: l, [], _, _, h => by have := (h a).1 List.mem_cons_self; cases this
  | a :: l, b :: m, hl, hm, h => by
    obtain ⟨l1, l2⟩ := List.pairwise_cons.1 hl
    obtain ⟨m1, m2⟩ := List.pairwise_cons.1 hm
    have e : a = b := by
      rcases List.mem_cons.1 ((h a).1 List.mem_cons_self) with e | e
      · exact e
      · rcases List.mem_cons.1 ((h b).2 List.mem_cons_self) with e' | e'
        · exact e'.symm
        · have := m1 _ e; have := l1 _ e'; omega
    subst e
    rw [rise_eq l2 m2 (rise_tail l1 m1 h)]
theorem Rise.eq {f : Int → Option OpV} {wr : Bool} {l m : List OpV} (h1 : Rise f wr l) (h2 : Rise f wr m) : l = m :=
  rise_eq h1.1 h2.1 fun o => (h1.2 o).trans (h2.2 o).symm
end Go.Proofs.Ytflalehpdngklaa

namespace Go.Proofs.Ytflalehpdngklaa
set_option maxRecDepth 100000
open Go.RowKit

theorem keyI : Try.prog.underlying 3 = some (.int .i64) := Try.underlying3
theorem mapII : Try.prog.underlying 87 = some (.map 3 3) := Try.underlying87
theorem zeroI (w : World) : (zeroValue 3).run Try.prog w = .ok (eI 0) w := by kernel_rfl
theorem txnBlock (w : World) (x y z u : Value) (t : TypeId) : (w.alloc (.cells #[x, y, z, u] t)).cell? ⟨w.heap.size, 0, none⟩ = some x ∧ (w.alloc (.cells #[x, y, z, u] t)).cell? ⟨w.heap.size, 1, none⟩ = some y ∧ (w.alloc (.cells #[x, y, z, u] t)).cell? ⟨w.heap.size, 2, none⟩ = some z ∧ (w.alloc (.cells #[x, y, z, u] t)).cell? ⟨w.heap.size, 3, none⟩ = some u := by
  refine ⟨?_, ?_, ?_, ?_⟩ <;> simp
/-- The values that operations have last. -/
def valO (l : List OpV) : Int → Option Int := fun x => (lastO l x).map (·.val)
theorem valO_snoc (l : List OpV) (o : OpV) : valO (l ++ [o]) = putF (valO l) o.key o.val := by
  funext y
  unfold valO
  rw [lastO_snoc]
  unfold putF
  split <;> rfl
theorem valO_none {l : List OpV} {x : Int} (h : valO l x = none) : lastO l x = none := by
  unfold valO at h; simpa using h
theorem valO_some {l : List OpV} {x v : Int} (h : valO l x = some v) : ∃ p, lastO l x = some p ∧ p.val = v := by
  unfold valO at h; simpa using h
theorem all_snoc {p : Nat → Prop} {k : Nat} (h : ∀ j, j < k → p j) (hk : p k) : ∀ j, j < k + 1 → p j := fun j hj => by
  rcases Nat.lt_or_eq_of_le (Nat.le_of_lt_succ hj) with h1 | rfl
  · exact h j h1
  · exact hk
set_option maxHeartbeats 4000000 in
theorem steady_any (s b c : Int) (va : Value) (l : List OpV) (w : World) (ha : Ops w va l) (hok : ∀ o ∈ l, o.ok) (hlen : l.length ≤ 100000) :
    Calls Try.prog 47 #[.agg #[.int .i64 s, .int .i64 b, .int .i64 c, va]] w fun e w' => e = .returned (.bool (steadyL l)) ∧ Below w.heap.size w w' := by
  obtain ⟨ao, cap, rfl, hal⟩ := ha.form
  have HOK := Lib.hid hok
  clear hok
  have hb0 := (Below.refl w.heap.size w).alloc (Nat.le_refl _) (.cells #[.int .i64 s, .int .i64 b, .int .i64 c, .slice ao l.length cap] 41)
  have hm0 := MapI.made eI Try.prog 3 (w.alloc (.cells #[.int .i64 s, .int .i64 b, .int .i64 c, .slice ao l.length cap] 41))
  have hb1 := hb0.alloc hb0.size (.map #[] 0)
  have hmm := @run_makeMap Try.prog
  go_enter Try.func47, Try.ntmps47
  rw [show (w.alloc (.cells #[.int .i64 s, .int .i64 b, .int .i64 c, .slice ao l.length cap] 41)).heap.size = w.heap.size + 1 from by simp] at hm0
  go_wp2_with fail
  go_loopw [12] (fun i wr => ∃ k cnt : Nat, k ≤ l.length ∧ i = .int .i64 k ∧ (∀ j, j < k → stOk l j = true) ∧ MapI eI Try.prog 3 wr (w.heap.size + 1) k (valO (l.take k)) cnt ∧ Below w.heap.size w wr) (fun i _ => l.length - (intOf i).toNat)
  case atStart => exact ⟨0, 0, by omega, rfl, by omega, hm0, hb1⟩
  case round =>
    obtain ⟨k, cnt, hk, rfl, hst, hM, hb⟩ := hrel
    have HST := Lib.hid hst
    clear hst hm0 hb0 hb1
    by_cases hlt : k < l.length
    · have hki : (k : Int) < (l.length : Int) := by omega
      obtain ⟨g, o, hao, c0, c1, c2⟩ := (ha.below hb).at hlt
      cases hao
      have HV : Hid (valO (l.take (k + 1)) = putF (valO (l.take k)) l[k].key l[k].val) := Lib.hid (by rw [take_snoc l k hlt, valO_snoc])
      have HS := Lib.hid (stOk_at hlt)
      have HNO := Lib.hid (fun h => steadyL_no hlt h)
      have hox := HOK.out l[k] (List.getElem_mem hlt)
      have hkey := inI_of hox.1
      generalize l[k] = x at *
      obtain ⟨wr', key, val⟩ := x
      simp only at c0 c1 c2 hkey
      have hM1 := hM.alloc (.cells #[.bool wr', .int .i64 key, .int .i64 val] 51)
      have hbb := hb.alloc hb.size (.cells #[.bool wr', .int .i64 key, .int .i64 val] 51)
      clear hox
      cases hv : valO (l.take k) key with
      | none =>
        have H : Hid (stOk l k = true) := Lib.hid (by rw [HS.out, valO_none hv])
        clear HNO
        go_wp2_with (first | (at_lookup; refine wpList_lookI_ok _ rfl _ _ 87 rfl 3 3 keyI mapII 0 (zeroI _) _ _ _ _ rfl hM1 _ rfl hkey ?_; rw [hv]) | (at_mapUpdate; refine wpList_putI _ rfl _ _ _ 87 rfl 3 3 keyI mapII _ _ _ _ rfl hM1 (by unfold maxLen; omega) _ rfl hkey val rfl ?_; intro w1 hM2 hg; go_frame) | go_in)
        have hb2 := hbb.grown hg hbb.size (fun j hj => by cases hj; omega)
        go_wp2_with fail
        go_roundw
        case rel => exact ⟨k + 1, _, by omega, by go_num, all_snoc HST.out H.out, by rw [HV.out]; exact hM2, hb2⟩
        case measure => simp [intOf]; omega
      | some v =>
        obtain ⟨p, hp, hpv⟩ := valO_some hv
        have HSP : Hid (stOk l k = (wr' || val == v)) := Lib.hid (by rw [HS.out, hp, ← hpv])
        clear HS hp hpv
        cases wr'
        · by_cases hvv : val = v
          · have H : Hid (stOk l k = true) := Lib.hid (by rw [HSP.out, hvv]; simp)
            have hne : (val != v) = false := by simp [hvv]
            clear HNO HSP hvv
            go_wp2_with (first | (at_lookup; refine wpList_lookI_ok _ rfl _ _ 87 rfl 3 3 keyI mapII 0 (zeroI _) _ _ _ _ rfl hM1 _ rfl hkey ?_; rw [hv]; simp only [Option.getD_some, Option.isSome_some, eI]) | (at_mapUpdate; refine wpList_putI _ rfl _ _ _ 87 rfl 3 3 keyI mapII _ _ _ _ rfl hM1 (by unfold maxLen; omega) _ rfl hkey val rfl ?_; intro w1 hM2 hg; go_frame) | go_in)
            have hb2 := hbb.grown hg hbb.size (fun j hj => by cases hj; omega)
            go_wp2_with fail
            go_roundw
            case rel => exact ⟨k + 1, _, by omega, by go_num, all_snoc HST.out H.out, by rw [HV.out]; exact hM2, hb2⟩
            case measure => simp [intOf]; omega
          · have H : Hid (steadyL l = false) := Lib.hid (HNO.out (by rw [HSP.out]; simpa using hvv))
            have hne : (val != v) = true := by simpa using hvv
            clear HNO HSP hvv
            go_wp2_with (first | (at_lookup; refine wpList_lookI_ok _ rfl _ _ 87 rfl 3 3 keyI mapII 0 (zeroI _) _ _ _ _ rfl hM1 _ rfl hkey ?_; rw [hv]; simp only [Option.getD_some, Option.isSome_some, eI]) | go_in)
            go_ret
            exact ⟨ret_b H.out.symm, hbb⟩
        · have H : Hid (stOk l k = true) := Lib.hid (by rw [HSP.out]; rfl)
          clear HNO HSP
          go_wp2_with (first | (at_lookup; refine wpList_lookI_ok _ rfl _ _ 87 rfl 3 3 keyI mapII 0 (zeroI _) _ _ _ _ rfl hM1 _ rfl hkey ?_; rw [hv]; simp only [Option.getD_some, Option.isSome_some, eI]) | (at_mapUpdate; refine wpList_putI _ rfl _ _ _ 87 rfl 3 3 keyI mapII _ _ _ _ rfl hM1 (by unfold maxLen; omega) _ rfl hkey val rfl ?_; intro w1 hM2 hg; go_frame) | go_in)
          have hb2 := hbb.grown hg hbb.size (fun j hj => by cases hj; omega)
          go_wp2_with fail
          go_roundw
          case rel => exact ⟨k + 1, _, by omega, by go_num, all_snoc HST.out H.out, by rw [HV.out]; exact hM2, hb2⟩
          case measure => simp [intOf]; omega
    · have hkl : k = l.length := by omega
      have H : Hid (steadyL l = true) := Lib.hid (steadyL_all (by rw [← hkl]; exact HST.out))
      go_wp2_with fail
      go_ret
      exact ⟨ret_b H.out.symm, hb⟩
end Go.Proofs.Ytflalehpdngklaa

namespace Go.Proofs.Ytflalehpdngklaa
set_option maxRecDepth 100000
open Go.RowKit

theorem lastO_step {l : List OpV} {j : Nat} (hj : j < l.length) (key : Int) : lastO (l.take (j + 1)) key = if key = l[j].key then some l[j] else lastO (l.take j) key := by
  rw [take_snoc l j hj, lastO_snoc]; rfl
set_option maxHeartbeats 4000000 in
theorem before_any (va : Value) (l : List OpV) (k : Nat) (key : Int) (w : World) (ha : Ops w va l) (hk : k ≤ l.length) :
    Calls Try.prog 51 #[va, .int .i64 k, .int .i64 key] w fun e w' => e = .returned (.tuple #[eO ((lastO (l.take k) key).getD opZ), .bool (lastO (l.take k) key).isSome]) ∧ Below w.heap.size w w' := by
  obtain ⟨ao, cap, rfl, hal⟩ := ha.form
  obtain ⟨⟨c0, c1, c2⟩, f0, f1, f2⟩ := op_cells (Below.refl (w.heap.size + 1) (w.alloc (.cells #[.bool false, .int .i64 0, .int .i64 0] 51)))
  have hb0 := (Below.refl w.heap.size w).alloc (Nat.le_refl _) (.cells #[.bool false, .int .i64 0, .int .i64 0] 51)
  go_enter Try.func51, Try.ntmps51
  go_wp2_with fail
  generalize w.alloc (.cells #[.bool false, .int .i64 0, .int .i64 0] 51) = w1 at *
  go_loopw [8] (fun i wr => ∃ j : Nat, j ≤ k ∧ i = .int .i64 ((j : Int) - 1) ∧ lastO (l.take k) key = lastO (l.take j) key ∧ w1 = wr) (fun i _ => (intOf i + 1).toNat)
  case atStart => exact ⟨k, by omega, rfl, rfl, rfl⟩
  case round =>
    obtain ⟨j, hj, hi, hL, rfl⟩ := hrel
    cases j with
    | zero =>
      obtain rfl : u8 = .int .i64 (-1) := hi
      rw [List.take_zero] at hL
      have HL := Lib.hid (show lastO (l.take k) key = none from hL)
      clear hL
      go_wp2_with fail
      obtain ⟨d0, d1, d2⟩ := put_three (.bool false) (.int .i64 0) (.int .i64 0) c0 c1 c2
      have hb6 := below_three (.bool false) (.int .i64 0) (.int .i64 0) hb0 (Nat.le_refl _)
      generalize World.setCell _ _ _ = w5 at *
      refine bodyPost_ret (v := .tuple #[.agg #[.bool false, .int .i64 0, .int .i64 0], .bool false]) (by simp [results, Try.results51, go_sem, d0, d1, d2]) rfl ⟨?_, hb6⟩
      rw [HL.out]; rfl
    | succ j =>
      have hi' : (((j + 1 : Nat) : Int) - 1) = (j : Int) := by omega
      rw [hi'] at hi
      subst hi
      have hlt : j < l.length := by omega
      have hjl : (j : Int) < (l.length : Int) := by omega
      obtain ⟨g, o, hao, e0, e1, e2⟩ := (ha.below hb0).at hlt
      cases hao
      rw [lastO_step hlt] at hL
      generalize l[j] = x at *
      obtain ⟨wr', kx, vx⟩ := x
      simp only at e0 e1 e2 hL
      by_cases hke : kx = key
      · subst hke
        rw [if_pos rfl] at hL
        have HL := Lib.hid hL
        clear hL
        go_wp2_with fail
        obtain ⟨d0, d1, d2⟩ := put_three (.bool wr') (.int .i64 kx) (.int .i64 vx) c0 c1 c2
        have hb6 := below_three (.bool wr') (.int .i64 kx) (.int .i64 vx) hb0 (Nat.le_refl _)
        generalize World.setCell _ _ _ = w5 at *
        refine bodyPost_ret (v := .tuple #[.agg #[.bool wr', .int .i64 kx, .int .i64 vx], .bool true]) (by simp [results, Try.results51, go_sem, d0, d1, d2]) rfl ⟨?_, hb6⟩
        rw [HL.out]; rfl
      · rw [if_neg (fun h => hke h.symm)] at hL
        have HL := Lib.hid hL
        have hke' : (kx == key) = false := by simpa using hke
        clear hL hke
        go_wp2_with fail
        go_roundw
        case rel => exact ⟨j, by omega, by go_num, HL.out, by first | rfl | trivial⟩
        case measure => simp [intOf]
set_option maxHeartbeats 4000000 in
theorem rsteady_any (va : Value) (l : List OpV) (w : World) (ha : Ops w va l) :
    Calls Try.prog 31 #[va] w fun e w' => e = .returned (.bool (steadyL l)) ∧ Below w.heap.size w w' := by
  obtain ⟨ao, cap, rfl, hal⟩ := ha.form
  go_enter Try.func31, Try.ntmps31
  go_wp2_with fail
  go_loopw [3] (fun i wr => ∃ k : Nat, k ≤ l.length ∧ i = .int .i64 k ∧ (∀ j, j < k → stOk l j = true) ∧ Below w.heap.size w wr) (fun i _ => l.length - (intOf i).toNat)
  case atStart => exact ⟨0, by omega, rfl, by omega, Below.refl _ _⟩
  case round =>
    obtain ⟨k, hk, rfl, hst, hb⟩ := hrel
    have HST := Lib.hid hst
    clear hst
    by_cases hlt : k < l.length
    · have hki : (k : Int) < (l.length : Int) := by omega
      obtain ⟨g, o, hao, c0, c1, c2⟩ := (ha.below hb).at hlt
      cases hao
      have HS := Lib.hid (stOk_at hlt)
      have HNO := Lib.hid (fun h => steadyL_no hlt h)
      have CB := Lib.hid (before_any _ l k l[k].key wr (ha.below hb) hk)
      have HAT := Lib.hid (fun (wx : World) (hbx : Below w.heap.size w wx) => (ha.below hbx).at hlt)
      generalize l[k] = x at *
      obtain ⟨wr', key, val⟩ := x
      simp only at c0 c1 c2
      generalize lastO (l.take k) key = q at *
      go_wp2_with fail
      refine (CB.out).mono ?_
      rintro e w1 ⟨rfl, hb1⟩
      have hb2 := below_then hb hb1
      clear CB
      cases q with
      | none =>
        have H : Hid (stOk l k = true) := Lib.hid HS.out
        have hb3 := hb2.alloc hb2.size (.cells #[.bool false, .int .i64 0, .int .i64 0] 51)
        have hx := opBlock w1 (.bool false) (.int .i64 0) (.int .i64 0) 51
        clear HS HNO c0 c1 c2 HAT
        simp only [Option.getD_none, Option.isSome_none, eO, OpV.v, opZ]
        go_wp2_with fail
        generalize w1.alloc (.cells #[.bool false, .int .i64 0, .int .i64 0] 51) = w2 at *
        obtain ⟨x0, x1, x2⟩ := hx
        go_quiet (fail)
        go_wp2_with fail
        go_roundw
        case rel => exact ⟨k + 1, by omega, by go_num, all_snoc HST.out H.out, below_drewN hb3 _⟩
        case measure => simp [intOf]; omega
      | some p =>
        obtain ⟨pw, pk, pv⟩ := p
        have hb3 := hb2.alloc hb2.size (.cells #[.bool pw, .int .i64 pk, .int .i64 pv] 51)
        have hx := opBlock w1 (.bool pw) (.int .i64 pk) (.int .i64 pv) 51
        have HSP : Hid (stOk l k = (wr' || val == pv)) := HS
        clear HS c0 c1 c2
        simp only [Option.getD_some, Option.isSome_some, eO, OpV.v]
        go_wp2_with fail
        generalize w1.alloc (.cells #[.bool pw, .int .i64 pk, .int .i64 pv] 51) = w2 at *
        obtain ⟨x0, x1, x2⟩ := hx
        obtain ⟨_, _, hao', c0, c1, c2⟩ := HAT.out _ hb3
        cases hao'
        cases wr'
        · by_cases hvv : val = pv
          · have H : Hid (stOk l k = true) := Lib.hid (by rw [HSP.out, hvv]; simp)
            have hne : (pv != val) = false := by simp [hvv]
            clear HNO HSP hvv
            go_quiet (fail)
            go_wp2_with fail
            go_roundw
            case rel => exact ⟨k + 1, by omega, by go_num, all_snoc HST.out H.out, below_drewN hb3 _⟩
            case measure => simp [intOf]; omega
          · have H : Hid (steadyL l = false) := Lib.hid (HNO.out (by rw [HSP.out]; simpa using hvv))
            have hne : (pv != val) = true := by simpa using (fun h => hvv h.symm)
            clear HNO HSP hvv
            go_quiet (fail)
            go_wp2_with fail
            go_ret
            exact ⟨ret_b H.out.symm, below_drewN hb3 _⟩
        · have H : Hid (stOk l k = true) := Lib.hid (by rw [HSP.out]; rfl)
          clear HNO HSP
          go_quiet (fail)
          go_wp2_with fail
          go_roundw
          case rel => exact ⟨k + 1, by omega, by go_num, all_snoc HST.out H.out, below_drewN hb3 _⟩
          case measure => simp [intOf]; omega
    · have hkl : k = l.length := by omega
      have H : Hid (steadyL l = true) := Lib.hid (steadyL_all (by rw [← hkl]; exact HST.out))
      go_wp2_with fail
      go_ret
      exact ⟨ret_b H.out.symm, hb⟩
end Go.Proofs.Ytflalehpdngklaa

namespace Go.Proofs.Ytflalehpdngklaa
set_option maxRecDepth 100000
open Go.RowKit

theorem infoOp : (Try.prog.info? 51).map (fun i => (i.zero, i.size, i.bytes)) = some (some (.agg #[.bool false, .int .i64 0, .int .i64 0]), 3, 24) := by kernel_rfl
/-- The call's own slice v holds these operations; its block lies from base on. -/
def Own (w : World) (base : Nat) (v : Value) (l : List OpV) : Prop := w.ownsRow base 51 3 v l.length (opV l)
theorem opV_app (l m : List OpV) : opV (l ++ m) = opV l ++ opV m := by simp [opV]
theorem opV_one (l : List OpV) : ∀ u ∈ opV l, u.oneCell' = true := by
  intro u hu
  unfold opV at hu
  obtain ⟨o, _, ho⟩ := List.mem_flatMap.1 hu
  simp at ho
  rcases ho with rfl | rfl | rfl <;> rfl
theorem opLit (w : World) (base : Nat) (o : OpV) (hb : base ≤ w.heap.size) : (w.alloc (.cells #[.bool o.wr, .int .i64 o.key, .int .i64 o.val] 51)).ownsRow base 51 3 (.slice (some ⟨w.heap.size, 0, none⟩) 1 1) 1 (opV [o]) :=
  World.ownsRow_lit (base := base) (size := 3) w #[.bool o.wr, .int .i64 o.key, .int .i64 o.val] 1 hb (by decide) rfl
theorem Own.ops {w : World} {base : Nat} {v : Value} {l : List OpV} (h : Own w base v l) : Ops w v l := Row.of_owns h
theorem Own.nil (w : World) (base : Nat) : Own w base (.slice none 0 0) [] := ⟨rfl, .inl ⟨rfl, rfl⟩⟩
theorem Own.below {w w' : World} {base : Nat} {v : Value} {l : List OpV} (h : Own w base v l) (hb : Below w.heap.size w w') : Own w' base v l := owns_below h hb
theorem Own.base {w : World} {base base' : Nat} {v : Value} {l : List OpV} (h : Own w base v l) (hb : base' ≤ base) : Own w base' v l := by
  obtain ⟨h1, h2⟩ := h
  refine ⟨h1, ?_⟩
  rcases h2 with h2 | ⟨g, cap, cur, e1, e2, r⟩
  · exact .inl h2
  · exact .inr ⟨g, cap, cur, e1, Nat.le_trans hb e2, r⟩
/-- What is read of others, key by key; what is written for them. -/
def rdK (l : List OpV) (k : Nat) : Option OpV := (firstO l k).filter fun o => !o.wr
def wrK (l : List OpV) (k : Nat) : Option OpV := lastW l k
def upTo (g : Nat → Option OpV) (n : Nat) : List OpV := (List.range n).filterMap g
theorem upTo_succ (g : Nat → Option OpV) (n : Nat) : upTo g (n + 1) = upTo g n ++ (g n).toList := by
  unfold upTo
  rw [List.range_succ, List.filterMap_append]
  cases h : g n <;> simp [h]
theorem upTo_len (g : Nat → Option OpV) (n : Nat) : (upTo g n).length ≤ n := by
  have := List.length_filterMap_le g (List.range n)
  unfold upTo; simpa using this
theorem upTo_mem {g : Nat → Option OpV} {n : Nat} {o : OpV} : o ∈ upTo g n ↔ ∃ k, k < n ∧ g k = some o := by
  unfold upTo; simp
theorem upTo_rise {g : Nat → Option OpV} (hg : ∀ k o, g k = some o → o.key = (k : Int)) : ∀ n, (upTo g n).Pairwise (fun a b => a.key < b.key)
  | 0 => by simp [upTo]
  | n + 1 => by
    rw [upTo_succ, List.pairwise_append]
    refine ⟨upTo_rise hg n, by cases g n <;> simp, fun a ha b hb => ?_⟩
    obtain ⟨k, hk, he⟩ := upTo_mem.1 ha
    have hb' : g n = some b := by simpa using hb
    rw [hg _ _ he, hg _ _ hb']; omega
theorem rdK_some {l : List OpV} {k : Nat} {o : OpV} : rdK l k = some o ↔ firstO l k = some o ∧ o.wr = false := by
  unfold rdK; rw [Option.filter_eq_some_iff]; simp
def refReads (l : List OpV) : List OpV := upTo (rdK l) 64
def refWrites (l : List OpV) : List OpV := upTo (wrK l) 64
def keysIn (l : List OpV) : Prop := ∀ o ∈ l, 0 ≤ o.key ∧ o.key < 64
theorem refReads_rise {l : List OpV} (h : keysIn l) : Rise (firstO l) false (refReads l) := by
  refine ⟨upTo_rise (fun k o hk => (firstO_key (rdK_some.1 hk).1).1) 64, fun o => ?_⟩
  unfold refReads
  rw [upTo_mem]
  constructor
  · rintro ⟨k, _, hk⟩
    obtain ⟨h1, h2⟩ := rdK_some.1 hk
    rw [(firstO_key h1).1]; exact ⟨h1, h2⟩
  · rintro ⟨h1, h2⟩
    obtain ⟨h3, h4⟩ := h o (firstO_key h1).2
    refine ⟨o.key.toNat, by omega, rdK_some.2 ⟨?_, h2⟩⟩
    rw [Int.toNat_of_nonneg h3]; exact h1
theorem refWrites_rise {l : List OpV} (h : keysIn l) : Rise (lastW l) true (refWrites l) := by
  refine ⟨upTo_rise (fun k o hk => (lastW_key hk).1) 64, fun o => ?_⟩
  unfold refWrites
  rw [upTo_mem]
  constructor
  · rintro ⟨k, _, hk⟩
    have h1 : lastW l k = some o := hk
    rw [(lastW_key h1).1]; exact ⟨h1, (lastW_key h1).2.1⟩
  · rintro ⟨h1, h2⟩
    obtain ⟨h3, h4⟩ := h o (lastW_key h1).2.2
    refine ⟨o.key.toNat, by omega, ?_⟩
    unfold wrK
    rw [Int.toNat_of_nonneg h3]; exact h1
theorem allM_keys {l : List OpV} (h : allM l = true) : keysIn l := fun o ho => by
  have := (mayO_iff o).1 (List.all_eq_true.1 h o ho)
  exact this.1
theorem firstO_none {l : List OpV} {x : Int} : (firstO l x).isSome = (lastO l x).isSome := by
  unfold firstO lastO
  rw [Bool.eq_iff_iff, List.find?_isSome]
  rw [← Option.ne_none_iff_isSome, Ne, List.getLast?_eq_none_iff]
  simp [List.filter_eq_nil_iff]
/-- The inner loop of the reference's Reads. -/
def rdTo (l : List OpV) (k j : Nat) : Option OpV := rdK (l.take j) k
theorem rdTo_succ {l : List OpV} {k j : Nat} (hj : j < l.length) : rdTo l k (j + 1) = if l[j].key = k ∧ l[j].wr = false ∧ lastO (l.take j) k = none then some l[j] else rdTo l k j := by
  unfold rdTo rdK
  rw [take_snoc l j hj, firstO_snoc]
  have hn := firstO_none (l := l.take j) (x := l[j].key)
  by_cases hs : (firstO (l.take j) l[j].key).isSome = true
  · rw [if_pos hs]
    rw [hs] at hn
    rw [if_neg]
    rintro ⟨h1, _, h3⟩
    rw [h1, h3] at hn
    cases hn
  · rw [if_neg hs]
    have hf : firstO (l.take j) l[j].key = none := by simpa using hs
    rw [hf] at hn
    have hl : lastO (l.take j) l[j].key = none := by simpa using hn.symm
    unfold putF
    by_cases hk : (k : Int) = l[j].key
    · rw [if_pos hk]
      cases hw : l[j].wr
      · rw [if_pos ⟨hk.symm, rfl, by rw [hk]; exact hl⟩]; simp [hw]
      · rw [if_neg (by simp), hk, hf]; simp [hw]
    · rw [if_neg hk, if_neg (fun h => hk h.1.symm)]
end Go.Proofs.Ytflalehpdngklaa

namespace Go.Proofs.Ytflalehpdngklaa
set_option maxRecDepth 100000
open Go.RowKit Go.Lib Go.Sort Go.Shelf

theorem nan_any (a : Int) (w : World) : Calls Try.prog 62 #[.int .i64 a] w fun e w' => e = .returned (.bool false) ∧ w = w' := by
  go_enter Try.func62, Try.ntmps62
  go_wp2_with fail
  go_ret
  exact ⟨rfl, rfl⟩
theorem compare_any (a b : Int) (w : World) : Calls Try.prog 59 #[.int .i64 a, .int .i64 b] w fun e w' => e = .returned (.int .i64 (compareInt a b)) ∧ w = w' := by
  have CA := Lib.hid (nan_any a w)
  have CB := Lib.hid (nan_any b w)
  have H1 : Hid (a < b → (-1 : Int) = compareInt a b) := Lib.hid (fun h => by unfold compareInt; simp [h])
  have H2 : Hid (¬ a < b → b < a → (1 : Int) = compareInt a b) := Lib.hid (fun h h' => by unfold compareInt; simp [h, h'])
  have H3 : Hid (¬ a < b → ¬ b < a → (0 : Int) = compareInt a b) := Lib.hid (fun h h' => by unfold compareInt; simp [h, h'])
  go_enter Try.func59, Try.ntmps59
  go_wp2_with fail
  refine (CA.out).mono ?_
  rintro e w1 ⟨rfl, rfl⟩
  go_wp2_with fail
  refine (CB.out).mono ?_
  rintro e w1 ⟨rfl, rfl⟩
  by_cases h1 : a < b
  · have H := Lib.hid (H1.out h1)
    clear H1 H2 H3 CA CB
    go_wp2_with fail
    go_ret
    exact ⟨ret_i H.out, rfl⟩
  · by_cases h2 : b < a
    · have H := Lib.hid (H2.out (by omega) h2)
      clear H1 H2 H3 CA CB
      go_wp2_with fail
      go_ret
      exact ⟨ret_i H.out, rfl⟩
    · have H := Lib.hid (H3.out (by omega) (by omega))
      clear H1 H2 H3 CA CB
      go_wp2_with fail
      go_ret
      exact ⟨ret_i H.out, rfl⟩
def encO (o : OpV) : List Value := [.bool o.wr, .int .i64 o.key, .int .i64 o.val]
def cmpO (x y : OpV) : Int := compareInt x.key y.key
instance : Inhabited OpV := ⟨opZ⟩
theorem cmp_lt (x y : OpV) : ltOf cmpO x y = decide (x.key < y.key) := by
  unfold ltOf cmpO compareInt
  by_cases h1 : x.key < y.key
  · simp [h1]
  · by_cases h2 : y.key < x.key <;> simp [h1, h2]
theorem cmp_swo : SWO (ltOf cmpO) where
  irrefl x := by rw [cmp_lt]; simp
  trans x y z h1 h2 := by rw [cmp_lt] at *; simp at *; omega
  ntrans x y z h1 h2 := by rw [cmp_lt] at *; simp at *; omega
theorem closure_any (x y : OpV) (w : World) : Calls Try.prog 58 #[.agg #[.bool x.wr, .int .i64 x.key, .int .i64 x.val], .agg #[.bool y.wr, .int .i64 y.key, .int .i64 y.val]] w fun e w' => e = .returned (.int .i64 (cmpO x y)) ∧ ∃ q os', w' = grow (w.drewN q) os' := by
  obtain ⟨xw, xk, xv⟩ := x
  obtain ⟨yw, yk, yv⟩ := y
  have CC := fun w => Lib.hid (compare_any xk yk w)
  show Calls _ _ _ _ fun e w' => e = .returned (.int .i64 (compareInt xk yk)) ∧ _
  generalize compareInt xk yk = r at *
  go_enter Try.func58, Try.ntmps58
  go_wp2_with fail
  refine ((CC _).out).mono ?_
  rintro e w' ⟨rfl, rfl⟩
  go_wp2_with fail
  go_ret
  exact ⟨rfl, 0, _, by rw [alloc_eq_grow, alloc_eq_grow, grow_grow]; rfl⟩
theorem cmp_lays (blk off size : Nat) (w : World) : CmpLays Try.prog 58 #[] encO 3 cmpO blk off size w := fun _ _ _ _ x y => closure_any x y _
theorem sort_any (blk off cap : Nat) (d : Array OpV) (w : World) (hH : HoldsK encO 3 w blk off d) (hblk : blk < w.heap.size) (hsz : d.size < 4611686018427387904) :
    Calls Try.prog 57 #[.slice (some ⟨blk, off, none⟩) d.size cap, .func (.func 58) #[] #[]] w fun e w' => e = .returned (.tuple #[]) ∧ ∃ d' n os, PermIn 0 d.size d d' ∧ SortedIn (ltOf cmpO) 0 d.size d' ∧ w' = sortWorldK encO 3 w blk off n d' os := by
  have eg : ∀ args w, (callFunc 58 args).run Try.prog w = .ok (.enter 58 args) w := enters_of Try.func58 (by kernel_rfl) rfl
  exact AnyQ.slices_SortFunc Try.sortOp 3 Try.isAgg51 Try.sizeOf51 encO (fun _ => rfl) (fun x v hv => by simp [encO] at hv; rcases hv with rfl | rfl | rfl <;> rfl) cmpO cmp_swo 58 #[] blk off cap d w eg (cmp_lays blk off d.size w) hH hblk hsz
theorem insNone (p : Option Addr) (cap : Nat) (fv : Value) (w : World) : Calls Try.prog 63 #[.slice p 0 cap, .int .i64 0, .int .i64 0, fv] w fun e w' => e = .returned (.tuple #[]) ∧ w = w' := by
  go_enter Try.func63, Try.ntmps63
  go_wp2_with fail
  refine wp_loop_rounds 1 ?_
  rw [rounds_succ]
  go_wp2_with fail
  go_end0
  exact ⟨rfl, rfl⟩
theorem pdqNone (p : Option Addr) (cap : Nat) (lim : Int) (fv : Value) (w : World) : Calls Try.prog 60 #[.slice p 0 cap, .int .i64 0, .int .i64 0, .int .i64 lim, fv] w fun e w' => e = .returned (.tuple #[]) ∧ w = w' := by
  have CI := Lib.hid (fun w => insNone p cap fv w)
  go_enter Try.func60, Try.ntmps60
  go_wp2_with fail
  refine wp_loop_rounds 1 ?_
  rw [rounds_succ]
  go_wp2_with fail
  refine (CI.out _).mono ?_
  rintro e w' ⟨rfl, rfl⟩
  go_wp2_with fail
  (try simp only [Exit.inBlock, Exit.then]); refine bodyPost_ret (results_none rfl _ _ _) rfl ?_
  exact ⟨rfl, rfl⟩
theorem sort_none (p : Option Addr) (cap : Nat) (fv : Value) (w : World) : Calls Try.prog 57 #[.slice p 0 cap, fv] w fun e w' => e = .returned (.tuple #[]) ∧ w = w' := by
  have CP := Lib.hid (fun lim w => pdqNone p cap lim fv w)
  have hl : ∀ W, Calls Try.prog 61 #[.int .u64 0] W fun e w' => e = .returned (.int .i64 (Lib.bitLen 0 : Nat)) ∧ w' = W := fun W =>
    Any.bits_Len (SlLaysF0.n15.bits (P := Try.prog) (ρ := Try.sortOp_ren) { Try.sortOp with }) 0 W (by omega) (by omega)
  have CL := Lib.hid hl
  clear hl
  go_enter Try.func57, Try.ntmps57
  go_wp2_with fail
  refine (CL.out _).mono ?_
  rintro e w' ⟨rfl, rfl⟩
  go_wp2_with fail
  refine (CP.out _ _).mono ?_
  rintro e w' ⟨rfl, rfl⟩
  go_wp2_with fail
  go_end0
  exact ⟨rfl, rfl⟩
end Go.Proofs.Ytflalehpdngklaa

namespace Go.Proofs.Ytflalehpdngklaa
set_option maxRecDepth 100000
open Go.RowKit Go.Lib Go.Sort Go.Shelf

theorem flat_opV (l : List OpV) : flatK encO 3 l.toArray = (opV l).toArray := by
  apply Array.ext
  · simp [opV_len]
  · intro t h1 h2
    have ht : t < l.length * 3 := by simpa using h1
    have hk : t / 3 < l.length := by omega
    obtain ⟨e0, e1, e2⟩ := opV_at l (t / 3) hk
    have hx : l.toArray[t / 3]! = l[t / 3] := by simp [hk]
    have h3 : (flatK encO 3 l.toArray)[t]! = (encO l[t / 3])[t % 3]! := by rw [get_flatK _ _ _ t (by simpa using ht), hx]
    rw [← getElem!_pos _ t h1, h3]
    have hm3 : t % 3 = 0 ∨ t % 3 = 1 ∨ t % 3 = 2 := by omega
    have hr : ∀ x, (opV l)[t]? = some x → (opV l).toArray[t] = x := fun x hx => by
      have := List.getElem?_eq_some_iff.1 hx
      simpa using this.2
    rcases hm3 with h | h | h
    · rw [hr _ (by rw [show t = t / 3 * 3 from by omega]; exact e0), h]; rfl
    · rw [hr _ (by rw [show t = t / 3 * 3 + 1 from by omega]; exact e1), h]; rfl
    · rw [hr _ (by rw [show t = t / 3 * 3 + 2 from by omega]; exact e2), h]; rfl
theorem holds_cells {w : World} {g : Nat} {cur : Array Value} {e : TypeId} {cs : List Value} (hb : w.heap[g]? = some (.cells cur e (0, 0))) (ht : cur.toList.take cs.length = cs) : Holds id w g 0 cs.toArray := by
  intro j hj
  have hj' : j < cs.length := by simpa using hj
  refine ⟨?_, by simp [World.frozen?, hb]⟩
  have h1 : (cur.toList.take cs.length)[j]? = cs[j]? := by rw [ht]
  rw [List.getElem?_take_of_lt hj'] at h1
  simp only [World.cell?, hb, Nat.zero_add]
  simp only [Option.isSome_none, Bool.false_eq_true, if_false]
  rw [← Array.getElem?_toList, h1]
  simp [hj']
theorem heap_grown {w : World} {os : Array Obj} {k : Nat} (h : k < w.heap.size) : (grow w os).heap[k]? = w.heap[k]? := by
  show (w.heap ++ os)[k]? = _
  rw [Array.getElem?_append_left h]
theorem take_put (cur : Array Value) (cs : List Value) (h : cs.length ≤ cur.size) : (putCells id 0 cs.toArray cur).toList.take cs.length = cs := by
  apply List.ext_getElem?
  intro j
  by_cases hj : j < cs.length
  · rw [List.getElem?_take_of_lt hj, Array.getElem?_toList]
    simp [putCells, hj, show j < cur.size by omega]
  · rw [List.getElem?_take_eq_none (by omega), List.getElem?_eq_none (by omega)]
/-- What the sort leaves: the same slice owns what was sorted. -/
theorem own_sorted {w : World} {base g cap n : Nat} {os : Array Obj} {l ts : List OpV} (hl : ts.length = l.length) (h : Own w base (.slice (some ⟨g, 0, none⟩) l.length cap) l) :
    Own (sortWorldK encO 3 w g 0 n ts.toArray os) base (.slice (some ⟨g, 0, none⟩) l.length cap) ts ∧ w.grownBy (sortWorldK encO 3 w g 0 n ts.toArray os) (some g) := by
  obtain ⟨h1, h2⟩ := h
  rcases h2 with ⟨h2, _⟩ | ⟨g', cap', cur, e1, e2, hb, e3, e4, e5, e6⟩
  · cases h2
  cases e1
  have hg : g < w.heap.size := (Array.getElem?_eq_some_iff.1 hb).1
  have ew : sortWorldK encO 3 w g 0 n ts.toArray os = grow (putRow id (Sort.ahead w n) g 0 (opV ts).toArray) os := by
    unfold sortWorldK putRowK; rw [flat_opV]
  rw [ew]
  have hh : (grow (putRow id (Sort.ahead w n) g 0 (opV ts).toArray) os).heap[g]? = some (.cells (putCells id 0 (opV ts).toArray cur) 51 (0, 0)) := by
    rw [heap_grown (by simpa using hg)]
    simp [putRow, mapBlock, Sort.ahead, Array.getElem?_modify, hb, onCells]
  refine ⟨⟨by rw [opV_len], .inr ⟨g, cap, _, by rw [hl], e2, hh, by omega, e4, by simp [putCells, e5], ?_⟩⟩, rfl, rfl, rfl, by simp, fun k hk hne => ?_⟩
  · have := take_put cur (opV ts) (by rw [opV_len]; have := opV_len l; omega)
    rwa [opV_len] at this
  · rw [heap_grown (by simpa using hk)]
    have : g ≠ k := fun e => hne (by rw [e])
    simp [putRow, mapBlock, Sort.ahead, Array.getElem?_modify, this]
theorem own_holds {w : World} {base g cap : Nat} {l : List OpV} (h : Own w base (.slice (some ⟨g, 0, none⟩) l.length cap) l) : HoldsK encO 3 w g 0 l.toArray ∧ g < w.heap.size ∧ base ≤ g := by
  obtain ⟨h1, h2⟩ := h
  rcases h2 with ⟨h2, _⟩ | ⟨g', cap', cur, e1, e2, hb, e3, e4, e5, e6⟩
  · cases h2
  cases e1
  refine ⟨?_, (Array.getElem?_eq_some_iff.1 hb).1, e2⟩
  show Holds id w g 0 _
  rw [flat_opV]
  exact holds_cells hb (by rw [opV_len]; exact e6)
theorem extract_all {α : Type} (d : Array α) : (d.extract 0 d.size).toList = d.toList := by simp
theorem sort_rise {f : Int → Option OpV} {wr : Bool} {acc : List OpV} {d' : Array OpV} (hm : ∀ o, o ∈ acc ↔ (f o.key = some o ∧ o.wr = wr)) (hnd : acc.Pairwise (fun a b => a.key ≠ b.key))
    (hp : PermIn 0 acc.toArray.size acc.toArray d') (hs : SortedIn (ltOf cmpO) 0 acc.toArray.size d') : d'.toList.length = acc.length ∧ Rise f wr d'.toList := by
  obtain ⟨hsz, _, hperm⟩ := hp
  have hp2 : d'.toList.Perm acc := by
    rw [← hsz] at hperm
    rw [extract_all] at hperm
    rw [show (acc.toArray.extract 0 d'.size).toList = acc from by rw [hsz]; simp] at hperm
    exact hperm
  have hlen : d'.toList.length = acc.length := hp2.length_eq
  refine ⟨hlen, ?_, fun o => hp2.mem_iff.trans (hm o)⟩
  have hnd' : d'.toList.Pairwise (fun a b => a.key ≠ b.key) := (hp2.pairwise_iff (fun {a b} h => Ne.symm h)).2 hnd
  rw [List.pairwise_iff_getElem] at hnd' ⊢
  intro i j hi hj hij
  have h1 := hnd' i j hi hj hij
  have hj' : j < d'.size := by simpa using hj
  have hi' : i < d'.size := by simpa using hi
  have h2 := hs i j (Nat.zero_le _) hij (by rw [← hsz]; exact hj')
  rw [cmp_lt, getElem!_pos d' i hi', getElem!_pos d' j hj'] at h2
  have h3 : ¬ d'[j].key < d'[i].key := by simpa using h2
  simp only [Array.getElem_toList] at h1 ⊢
  omega
/-- What was collected of a map so far. -/
def Got (f : Int → Option OpV) (wr : Bool) (left : Int → Bool) (acc : List OpV) : Prop :=
  acc.Pairwise (fun a b => a.key ≠ b.key) ∧ ∀ o, o ∈ acc ↔ (f o.key = some o ∧ o.wr = wr ∧ left o.key = false)
theorem Got.start (f : Int → Option OpV) (wr : Bool) : Got f wr (fun x => (f x).isSome) [] := by
  refine ⟨List.Pairwise.nil, fun o => ⟨fun h => (by cases h), fun ⟨h1, _, h3⟩ => ?_⟩⟩
  simp only [h1, Option.isSome_some] at h3; cases h3
theorem Got.yes {f : Int → Option OpV} {wr : Bool} {left : Int → Bool} {acc : List OpV} (h : Got f wr left acc) {u : OpV} (hl : left u.key = true) (hu : f u.key = some u) (hw : u.wr = wr) :
    Got f wr (fun y => left y && !decide (y = u.key)) (acc ++ [u]) := by
  obtain ⟨h1, h2⟩ := h
  refine ⟨List.pairwise_append.2 ⟨h1, by simp, fun a ha b hb => ?_⟩, fun o => ?_⟩
  · simp at hb; subst hb
    have := (h2 a).1 ha
    intro e
    rw [e, hl] at this
    cases this.2.2
  · rw [List.mem_append, h2 o]
    simp only [List.mem_singleton, Bool.and_eq_false_iff, Bool.not_eq_false', decide_eq_true_eq]
    constructor
    · rintro (⟨e1, e2, e3⟩ | rfl)
      · exact ⟨e1, e2, .inl e3⟩
      · exact ⟨hu, hw, .inr rfl⟩
    · rintro ⟨e1, e2, e3 | e3⟩
      · exact .inl ⟨e1, e2, e3⟩
      · rw [e3, hu] at e1; exact .inr (Option.some.inj e1).symm
theorem Got.no {f : Int → Option OpV} {wr : Bool} {left : Int → Bool} {acc : List OpV} (h : Got f wr left acc) {u : OpV} (hu : f u.key = some u) (hw : ¬ u.wr = wr) :
    Got f wr (fun y => left y && !decide (y = u.key)) acc := by
  obtain ⟨h1, h2⟩ := h
  refine ⟨h1, fun o => ?_⟩
  rw [h2 o]
  simp only [Bool.and_eq_false_iff, Bool.not_eq_false', decide_eq_true_eq]
  constructor
  · rintro ⟨e1, e2, e3⟩; exact ⟨e1, e2, .inl e3⟩
  · rintro ⟨e1, e2, e3 | e3⟩
    · exact ⟨e1, e2, e3⟩
    · rw [e3, hu] at e1
      cases e1; exact absurd e2 hw
end Go.Proofs.Ytflalehpdngklaa

namespace Go.Proofs.Ytflalehpdngklaa
set_option maxRecDepth 100000
open Go.RowKit Go.Lib Go.Sort Go.Shelf

theorem mapIO : Try.prog.underlying 89 = some (.map 3 51) := Try.underlying89
theorem zeroO (w : World) : (zeroValue 51).run Try.prog w = .ok (eO opZ) w := by kernel_rfl
theorem Own.split {w : World} {base : Nat} {v : Value} {l : List OpV} (h : Own w base v l) : (v = .slice none 0 0 ∧ l = []) ∨ ∃ g cap, v = .slice (some ⟨g, 0, none⟩) l.length cap ∧ base ≤ g := by
  obtain ⟨_, h2⟩ := h
  rcases h2 with ⟨e1, e2⟩ | ⟨g, cap, cur, e1, e2, _⟩
  · exact .inl ⟨e1, List.eq_nil_of_length_eq_zero e2⟩
  · exact .inr ⟨g, cap, e1, e2⟩
/-- The world behind an append onto a call's own slice leaves what was there before. -/
theorem below_own {w w1 w2 : World} {base : Nat} {v : Value} {l : List OpV} (hb : Below w.heap.size w w1) (hO : Own w1 base v l) (hbase : w.heap.size ≤ base) (hg : w1.grownBy w2 v.ownBlock) : Below w.heap.size w w2 :=
  hb.grown hg hb.size (fun j hj => by
    rcases hO.split with ⟨e, _⟩ | ⟨g, cap, e, hg'⟩
    · rw [e] at hj; cases hj
    · rw [e] at hj; have : g = j := (by simpa [Value.ownBlock] using hj); omega)
theorem own_ne {w1 : World} {base b : Nat} {v : Value} {l : List OpV} (hO : Own w1 base v l) (hb : b < base) : some b ≠ v.ownBlock := by
  rcases hO.split with ⟨e, _⟩ | ⟨g, cap, e, hg'⟩
  · rw [e]; simp [Value.ownBlock]
  · rw [e]; intro h; have : b = g := (by simpa [Value.ownBlock] using h); omega
set_option maxHeartbeats 4000000 in
theorem rising_any (b n c : Nat) (f : Int → Option OpV) (wt : Bool) (w : World) (hM : MapI eO Try.prog 3 w b n f c) (hf : ∀ x o, f x = some o → o.key = x ∧ InI x) (hc : c ≤ 100000) :
    Calls Try.prog 55 #[.map (some b), .bool wt] w fun e w' => ∃ v out, e = .returned v ∧ Own w' w.heap.size v out ∧ Rise f wt out ∧ out.length ≤ c ∧ Below w.heap.size w w' := by
  obtain ⟨i0, hi, hz0, hz1, hz2⟩ := info_parts infoOp
  have HF := Lib.hid hf
  have hbm := hM.lt
  clear hf
  go_enter Try.func55, Try.ntmps55
  go_wp2_with (first | (at_range; refine wpList_rangeI _ rfl _ 89 rfl 3 51 keyI mapIO _ _ _ _ rfl hM ?_; intro w0 hR0 hg0 hs0) | go_in)
  go_frame
  have hb0 := (Below.refl w.heap.size w).grown hg0 (Nat.le_refl _) (fun j hj => by cases hj)
  go_loopw [5] (fun v wr' => ∃ left cnt acc, RangeI eO Try.prog 3 wr' b w.heap.size n f left cnt ∧ Own wr' (w.heap.size + 1) v acc ∧ acc.length + cnt ≤ c ∧ Got f wt left acc ∧ Below w.heap.size w wr') (fun _ wr' => wr'.rangeLeft b w.heap.size)
  case atStart => exact ⟨_, _, [], hR0, Own.nil _ _, by simp, Got.start f wt, hb0⟩
  case round =>
    obtain ⟨left, cnt, acc, hR, hO, hl, hG, hb⟩ := hrel
    clear hM hR0 hg0 hb0
    go_wp2_with (first | (at_next; refine wpList_nextI _ rfl _ rfl 3 keyI eO_inj _ _ _ _ _ _ rfl hR ?_ ?_) | go_in)
    · intro hc0 hl0
      have hmem : Hid (∀ o, o ∈ acc ↔ (f o.key = some o ∧ o.wr = wt)) := Lib.hid (fun o => (hG.2 o).trans ⟨fun ⟨h1, h2, _⟩ => ⟨h1, h2⟩, fun ⟨h1, h2⟩ => ⟨h1, h2, hl0 _ (HF.out _ _ h1).2⟩⟩)
      have hnd := Lib.hid hG.1
      clear hG hl0 hR
      rcases hO.split with ⟨rfl, rfl⟩ | ⟨g, cap, rfl, hbg⟩
      · go_wp2_with fail
        refine (sort_none _ _ _ _).mono ?_
        rintro e w1 ⟨rfl, rfl⟩
        go_wp2_with fail
        go_ret
        exact ⟨_, [], rfl, Own.nil _ _, ⟨List.Pairwise.nil, hmem.out⟩, by simp, hb⟩
      · have hH := Lib.hid (own_holds hO)
        have HO := Lib.hid hO
        clear hO
        go_wp2_with fail
        refine (sort_any g 0 cap acc.toArray wr hH.out.1 hH.out.2.1 (by simp; omega)).mono ?_
        rintro e w1 ⟨rfl, d', m, os, hp, hs, rfl⟩
        obtain ⟨hlen, hrise⟩ := sort_rise hmem.out hnd.out hp hs
        have hown := own_sorted (n := m) (os := os) hlen HO.out
        have hb1 := hb.grown hown.2 hb.size (fun j hj => by cases hj; omega)
        have hO1 := Lib.hid (hown.1.base (show w.heap.size ≤ w.heap.size + 1 by omega))
        clear hown hp hs
        generalize sortWorldK encO 3 wr g 0 m d'.toList.toArray os = w1 at *
        go_wp2_with fail
        go_ret
        exact ⟨_, _, rfl, hO1.out, hrise, by rw [hlen]; omega, hb1⟩
    · intro x u w1 cnt1 hx hlx hfu hR1 hlt1 hg1 hs1 hen
      obtain ⟨hux, _⟩ := HF.out _ _ hfu
      subst hux
      have hb1 := hb.grown hg1 hb.size (fun j hj => by cases hj; omega)
      have hO1 : Own w1 (w.heap.size + 1) u5 acc := World.ownsRow.kept hO hg1 (.inr (own_ne hO (Nat.lt_succ_self _)).symm)
      have GY := Lib.hid (fun h => hG.yes hlx hfu h)
      have GN := Lib.hid (fun h => hG.no hfu h)
      have hle := hR.left_eq
      clear hO hR hG hlx hfu hb hx
      obtain ⟨uw, uk, uv⟩ := u
      change Sem.run _ _ _ = Result.ok (Value.tuple #[.int .i64 uk, .agg #[.bool uw, .int .i64 uk, .int .i64 uv]]) _ at hen
      simp only [eO, OpV.v]
      have hR2 := hR1.alloc (.cells #[.bool uw, .int .i64 uk, .int .i64 uv] 51)
      have hO2 := World.ownsRow.alloc hO1 (.cells #[.bool uw, .int .i64 uk, .int .i64 uv] 51)
      have hb2 := hb1.alloc hb1.size (.cells #[.bool uw, .int .i64 uk, .int .i64 uv] 51)
      by_cases hw : uw = wt
      · subst hw
        have hw' : (uw == uw) = true := by simp
        have G := Lib.hid (GY.out rfl)
        have hx := opBlock w1 (.bool uw) (.int .i64 uk) (.int .i64 uv) 51
        have hws := hb1.size
        have hlit := opLit (w1.alloc (.cells #[.bool uw, .int .i64 uk, .int .i64 uv] 51)) 0 ⟨uw, uk, uv⟩ (Nat.zero_le _)
        rw [show (w1.alloc (.cells #[.bool uw, .int .i64 uk, .int .i64 uv] 51)).heap.size = w1.heap.size + 1 from by simp] at hlit
        clear GY GN hR1 hO1 hb1 hs1
        go_wp2_with (first | (at_builtin; go_loud (refine wpList_append_row rfl _ _ 39 rfl (w.heap.size + 1) 51 i0 (.agg #[.bool false, .int .i64 0, .int .i64 0]) 3 24 Try.underlying39 hi hz0 hz1 hz2 rfl (by decide) _ _ _ rfl (hO2.alloc _) _ 1 _ rfl (Row.of_owns hlit) ?d1 ?d2 ?d3 ?d4 ?_)) | go_in)
        case d1 => exact opV_one _
        case d2 => unfold maxLen; omega
        case d3 => omega
        case d4 => first | omega | (simp; omega)
        intro v6 w6 hown6 hg6
        clear hlit
        have hO3 : Own _ _ _ (acc ++ [⟨uw, uk, uv⟩]) := ⟨by rw [opV_len], by rw [opV_app]; simpa using hown6.2⟩
        have hg3 := hg6
        have hR3 := (hR2.alloc (.cells #[.bool uw, .int .i64 uk, .int .i64 uv] 51)).kept hg6 (own_ne hO2 (by omega)) (own_ne hO2 (by omega))
        have hb3 := below_own (hb2.alloc hb2.size (.cells #[.bool uw, .int .i64 uk, .int .i64 uv] 51)) (hO2.alloc (.cells #[.bool uw, .int .i64 uk, .int .i64 uv] 51)) (by omega) hg6
        clear hown6 hg6 hR2 hb2 hO2
        go_wp2_with fail
        go_roundw
        case rel => exact ⟨_, _, _, hR3, hO3, by simp; omega, G.out, hb3⟩
        case measure => rw [hR3.left_eq, hle]; exact hlt1
      · have hw' : (uw == wt) = false := by simpa using hw
        have G := Lib.hid (GN.out hw)
        clear GY GN hw
        go_wp2_with fail
        go_roundw
        case rel => exact ⟨_, _, _, hR2, hO2, by omega, G.out, hb2⟩
        case measure => rw [hR2.left_eq, hle]; exact hlt1
end Go.Proofs.Ytflalehpdngklaa

namespace Go.Proofs.Ytflalehpdngklaa
set_option maxRecDepth 100000
open Go.RowKit

theorem MapI.le {α : Type} {e : α → Value} {P : Program} {k : TypeId} {w : World} {b n : Nat} {f : Int → Option α} {c : Nat} (h : MapI e P k w b n f c) : c ≤ n := by
  obtain ⟨D, h, hs, _⟩ := h
  have := h.size_le
  omega
set_option maxHeartbeats 4000000 in
theorem reads_any (s b c : Int) (va : Value) (l : List OpV) (w : World) (ha : Ops w va l) (hok : ∀ o ∈ l, o.ok) (hlen : l.length ≤ 100000) :
    Calls Try.prog 46 #[.agg #[.int .i64 s, .int .i64 b, .int .i64 c, va]] w fun e w' => ∃ v out, e = .returned v ∧ Own w' w.heap.size v out ∧ Rise (firstO l) false out ∧ out.length ≤ l.length ∧ Below w.heap.size w w' := by
  obtain ⟨ao, cap, rfl, hal⟩ := ha.form
  have HOK := Lib.hid hok
  clear hok
  have hb0 := (Below.refl w.heap.size w).alloc (Nat.le_refl _) (.cells #[.int .i64 s, .int .i64 b, .int .i64 c, .slice ao l.length cap] 41)
  have hm0 := MapI.made eO Try.prog 3 (w.alloc (.cells #[.int .i64 s, .int .i64 b, .int .i64 c, .slice ao l.length cap] 41))
  have hb1 := hb0.alloc hb0.size (.map #[] 0)
  have hmm := @run_makeMap Try.prog
  rw [show (w.alloc (.cells #[.int .i64 s, .int .i64 b, .int .i64 c, .slice ao l.length cap] 41)).heap.size = w.heap.size + 1 from by simp] at hm0
  go_enter Try.func46, Try.ntmps46
  go_wp2_with fail
  go_loopw [12] (fun i wr => ∃ k cnt : Nat, k ≤ l.length ∧ i = .int .i64 k ∧ MapI eO Try.prog 3 wr (w.heap.size + 1) k (firstO (l.take k)) cnt ∧ Below w.heap.size w wr) (fun i _ => l.length - (intOf i).toNat)
  case atStart => exact ⟨0, 0, by omega, rfl, hm0, hb1⟩
  case round =>
    obtain ⟨k, cnt, hk, rfl, hM, hb⟩ := hrel
    clear hm0 hb0 hb1
    by_cases hlt : k < l.length
    · have hki : (k : Int) < (l.length : Int) := by omega
      obtain ⟨g, o, hao, c0, c1, c2⟩ := (ha.below hb).at hlt
      cases hao
      have HS : Hid (firstO (l.take (k + 1)) = if (firstO (l.take k) l[k].key).isSome then firstO (l.take k) else putF (firstO (l.take k)) l[k].key l[k]) := Lib.hid (by rw [take_snoc l k hlt, firstO_snoc])
      have hox := HOK.out l[k] (List.getElem_mem hlt)
      have hkey := inI_of hox.1
      generalize l[k] = x at *
      obtain ⟨wr', key, val⟩ := x
      simp only at c0 c1 c2 hkey
      have hM1 := hM.alloc (.cells #[.bool wr', .int .i64 key, .int .i64 val] 51)
      have hbb := hb.alloc hb.size (.cells #[.bool wr', .int .i64 key, .int .i64 val] 51)
      have hszb := hb.size
      clear hox hM hb
      cases hv : firstO (l.take k) key with
      | none =>
        simp only [hv, Option.isSome_none, Bool.false_eq_true, if_false] at HS
        have hM2 := hM1.alloc (.cells #[.bool false, .int .i64 0, .int .i64 0] 51)
        have hb2 := hbb.alloc hbb.size (.cells #[.bool false, .int .i64 0, .int .i64 0] 51)
        go_wp2_with (first | (at_lookup; refine wpList_lookI_ok _ rfl _ _ 89 rfl 3 51 keyI mapIO opZ (zeroO _) _ _ _ _ rfl hM1 _ rfl hkey ?_; rw [hv]; simp only [Option.getD_none, Option.isSome_none, eO, OpV.v, opZ]) | (at_mapUpdate; refine wpList_putI _ rfl _ _ _ 89 rfl 3 51 keyI mapIO _ _ _ _ rfl hM2 (by unfold maxLen; omega) _ rfl hkey ⟨wr', key, val⟩ rfl ?_; intro w1 hM3 hg; go_frame) | go_in)
        have hb3 := hb2.grown hg hb2.size (fun j hj => by cases hj; omega)
        go_wp2_with fail
        go_roundw
        case rel => exact ⟨k + 1, _, by omega, by go_num, by rw [HS.out]; exact hM3, hb3⟩
        case measure => simp [intOf]; omega
      | some v =>
        simp only [hv, Option.isSome_some, if_true] at HS
        obtain ⟨vw, vk, vv⟩ := v
        have hM2 := hM1.alloc (.cells #[.bool vw, .int .i64 vk, .int .i64 vv] 51)
        have hb2 := hbb.alloc hbb.size (.cells #[.bool vw, .int .i64 vk, .int .i64 vv] 51)
        go_wp2_with (first | (at_lookup; refine wpList_lookI_ok _ rfl _ _ 89 rfl 3 51 keyI mapIO opZ (zeroO _) _ _ _ _ rfl hM1 _ rfl hkey ?_; rw [hv]; simp only [Option.getD_some, Option.isSome_some, eO, OpV.v]) | go_in)
        go_roundw
        case rel => exact ⟨k + 1, _, by omega, by go_num, by rw [HS.out]; exact hM2.mono (by omega), hb2⟩
        case measure => simp [intOf]; omega
    · have hkl : k = l.length := by omega
      subst hkl
      rw [List.take_length] at hM
      have HR := Lib.hid (rising_any (w.heap.size + 1) l.length cnt (firstO l) false wr hM (fun x o h => ⟨(firstO_key h).1, inI_of (by rw [← (firstO_key h).1]; exact (HOK.out o (firstO_key h).2).1)⟩) (Nat.le_trans hM.le hlen))
      have hcl := hM.le
      clear hM
      go_wp2_with fail
      refine (HR.out).mono ?_
      rintro e w1 ⟨v, out, rfl, hO, hR, hl, hb1⟩
      have hb2 := below_then hb hb1
      have hO2 := Lib.hid (hO.base hb.size)
      have HRise := Lib.hid hR
      clear hO hb1 hb HR hR
      go_wp2_with fail
      go_ret
      exact ⟨_, _, rfl, hO2.out, HRise.out, by omega, hb2⟩
set_option maxHeartbeats 4000000 in
theorem writes_any (s b c : Int) (va : Value) (l : List OpV) (w : World) (ha : Ops w va l) (hok : ∀ o ∈ l, o.ok) (hlen : l.length ≤ 100000) :
    Calls Try.prog 45 #[.agg #[.int .i64 s, .int .i64 b, .int .i64 c, va]] w fun e w' => ∃ v out, e = .returned v ∧ Own w' w.heap.size v out ∧ Rise (lastW l) true out ∧ out.length ≤ l.length ∧ Below w.heap.size w w' := by
  obtain ⟨ao, cap, rfl, hal⟩ := ha.form
  have HOK := Lib.hid hok
  clear hok
  have hb0 := (Below.refl w.heap.size w).alloc (Nat.le_refl _) (.cells #[.int .i64 s, .int .i64 b, .int .i64 c, .slice ao l.length cap] 41)
  have hm0 := MapI.made eO Try.prog 3 (w.alloc (.cells #[.int .i64 s, .int .i64 b, .int .i64 c, .slice ao l.length cap] 41))
  have hb1 := hb0.alloc hb0.size (.map #[] 0)
  have hmm := @run_makeMap Try.prog
  rw [show (w.alloc (.cells #[.int .i64 s, .int .i64 b, .int .i64 c, .slice ao l.length cap] 41)).heap.size = w.heap.size + 1 from by simp] at hm0
  go_enter Try.func45, Try.ntmps45
  go_wp2_with fail
  go_loopw [10] (fun i wr => ∃ k cnt : Nat, k ≤ l.length ∧ i = .int .i64 k ∧ MapI eO Try.prog 3 wr (w.heap.size + 1) k (lastW (l.take k)) cnt ∧ Below w.heap.size w wr) (fun i _ => l.length - (intOf i).toNat)
  case atStart => exact ⟨0, 0, by omega, rfl, hm0, hb1⟩
  case round =>
    obtain ⟨k, cnt, hk, rfl, hM, hb⟩ := hrel
    clear hm0 hb0 hb1
    by_cases hlt : k < l.length
    · have hki : (k : Int) < (l.length : Int) := by omega
      obtain ⟨g, o, hao, c0, c1, c2⟩ := (ha.below hb).at hlt
      cases hao
      have HS : Hid (lastW (l.take (k + 1)) = if l[k].wr then putF (lastW (l.take k)) l[k].key l[k] else lastW (l.take k)) := Lib.hid (by rw [take_snoc l k hlt, lastW_snoc])
      have hox := HOK.out l[k] (List.getElem_mem hlt)
      have hkey := inI_of hox.1
      generalize l[k] = x at *
      obtain ⟨wr', key, val⟩ := x
      simp only at c0 c1 c2 hkey
      have hM1 := hM.alloc (.cells #[.bool wr', .int .i64 key, .int .i64 val] 51)
      have hbb := hb.alloc hb.size (.cells #[.bool wr', .int .i64 key, .int .i64 val] 51)
      have hszb := hb.size
      clear hox hM hb
      cases wr' with
      | false =>
        simp only [Bool.false_eq_true, if_false] at HS
        go_wp2_with fail
        go_roundw
        case rel => exact ⟨k + 1, _, by omega, by go_num, by rw [HS.out]; exact hM1.mono (by omega), hbb⟩
        case measure => simp [intOf]; omega
      | true =>
        simp only [if_true] at HS
        go_wp2_with (first | (at_mapUpdate; refine wpList_putI _ rfl _ _ _ 89 rfl 3 51 keyI mapIO _ _ _ _ rfl hM1 (by unfold maxLen; omega) _ rfl hkey ⟨true, key, val⟩ rfl ?_; intro w1 hM3 hg; go_frame) | go_in)
        have hb3 := hbb.grown hg hbb.size (fun j hj => by cases hj; omega)
        go_wp2_with fail
        go_roundw
        case rel => exact ⟨k + 1, _, by omega, by go_num, by rw [HS.out]; exact hM3, hb3⟩
        case measure => simp [intOf]; omega
    · have hkl : k = l.length := by omega
      subst hkl
      rw [List.take_length] at hM
      have HR := Lib.hid (rising_any (w.heap.size + 1) l.length cnt (lastW l) true wr hM (fun x o h => ⟨(lastW_key h).1, inI_of (by rw [← (lastW_key h).1]; exact (HOK.out o (lastW_key h).2.2).1)⟩) (Nat.le_trans hM.le hlen))
      have hcl := hM.le
      clear hM
      go_wp2_with fail
      refine (HR.out).mono ?_
      rintro e w1 ⟨v, out, rfl, hO, hR, hl, hb1⟩
      have hb2 := below_then hb hb1
      have hO2 := Lib.hid (hO.base hb.size)
      have HRise := Lib.hid hR
      clear hO hb1 hb HR hR
      go_wp2_with fail
      go_ret
      exact ⟨_, _, rfl, hO2.out, HRise.out, by omega, hb2⟩
end Go.Proofs.Ytflalehpdngklaa
