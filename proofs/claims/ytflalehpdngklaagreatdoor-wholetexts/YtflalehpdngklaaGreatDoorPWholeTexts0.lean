/- Walks and plain facts that the proof of the statement WholeTexts uses, joined: Law Slc SetM SetA OpZ Bld JoinZ TabN TokM TokA TokB TokC SetN SetB SetC SetD SetE TokD TokE TabT ArgZ TxZ ArgT Blk TokF TokG TokH SetF SetG TokI TokJ TokK TokL OpA OpB. Conditions: each theorem's own. -/
import Derived.Test.YtflalehpdngklaaGreatDoorRows
import Derived.Test.YtflalehpdngklaaGreatDoorProg
import Derived.Test.YtflalehpdngklaaGreatDoorShelf
import Derived.WalkKit
import Derived.ProofKit
import Derived.OpenShut
import Derived.Deep.DeepHandedRow
import Derived.Lib.LaidTab
import Derived.Lib.Hide
import Derived.WalkSpells
import Derived.WalkSmall
import Derived.Laws.AppendOwnNone
import Derived.Laws.Bits64b
import Derived.WalkLawsBesides
import Derived.Lib.Builder
import Derived.Lib.AppendStr
import Derived.Lib.ItoaNum
import Derived.Lib.ItoaLen
import Derived.Laws.IdiomStrings
import Derived.Laws.Concat
import Derived.IntWalk
import Derived.Stop.LaidErr
import Derived.Lib.SplitLaws
import Derived.Laws.Wrap64
import Derived.Deep.QuietTactic
import Derived.BigQuiet
import Derived.Deep.Slices
import Derived.Deep.Strs
import Derived.Lib.SmallJoins
import Derived.Deep.OwnRows
import Derived.BigRegion
namespace Go.Proofs.YtflalehpdngklaaGreatDoor
set_option maxRecDepth 100000
open Go.ChangeShapes Go.WideShapes Go.ChangeAt Go.RowKit

theorem own : ownKnob Tryz.prog.godebug = none := by kernel_rfl
theorem laidOut : laidOutB Tryz.prog = true := by kernel_rfl

theorem trodAll_stays {H : Type} {enc : TypeId × Value → H} {W W' : World} (hb : Below W.heap.size W W') :
    ∀ (ts : List TypeId) (vs : List Value) (ds : List (DataW H)) (ps : List MemPlace), (∀ t ∈ ts, Tryz.prog.readableRec t = true ∧ t < Tryz.prog.types.size) →
      DataW.TrodAll enc Tryz.prog W 0 (fun _ => true) true ts vs ds ps → (∀ x ∈ ps, x.block < W.heap.size) →
      DataW.TrodAll enc Tryz.prog W' 0 (fun b => decide (b < W.heap.size)) true ts vs ds ps
  | [], vs, ds, ps, _, h, _ => by
    obtain ⟨rfl, rfl, rfl⟩ := trodAll_nil h
    exact trodAll_mk0
  | t :: ts, vs, ds, ps, hr, h, hlt => by
    obtain ⟨v, vs', d, ds', p, q, rfl, rfl, rfl, hd, hrest⟩ := trodAll_cons h
    have h1 := hr t List.mem_cons_self
    exact trodAll_cons_mk (Below.trod laidOut h1.1 h1.2 hd hb fun x hx => hlt x (List.mem_append_left _ hx))
      (trodAll_stays hb ts vs' ds' q (fun u hu => hr u (List.mem_cons_of_mem _ hu)) hrest fun x hx => hlt x (List.mem_append_right _ hx))

/-- FROM THE CONTRACT TO WHAT THE ROW ASKS: a law that answers true, with nothing below the old heap changed. -/
theorem law_post {H : Type} {enc : TypeId × Value → H} {s : ChangeSpec} {f : Func} {W W' : World} {args : Array Value} {ds gs : List (DataW H)} {before : List MemPlace}
    (hW : DataW.Whole enc Tryz.prog f.params.toList s.vars false W args.toList ds gs before) (hv : s.vars = [])
    (hr : ∀ t ∈ f.params.toList, Tryz.prog.readableRec t = true ∧ t < Tryz.prog.types.size) (hb : Below W.heap.size W W')
    (hres : f.resultTypes = #[4]) (hfn : (s.fn H (ds ++ [])).results = [.lit (.bool true)]) (hfa : (s.fn H (ds ++ [])).args = ds) (hfv : (s.fn H (ds ++ [])).vars = []) :
    s.post enc Tryz.prog f false true false false W args (.bool true) W' := by
  have hW' := hW
  obtain ⟨p, q, hA, hV, hpq, hfz, hnd⟩ := hW
  rw [hv] at hV
  obtain ⟨rfl, rfl⟩ := trodVars_none hV
  have hlt : ∀ x ∈ p, x.block < W.heap.size := fun x hx => by
    have := hW'.lt x (by rw [hpq]; exact List.mem_append_left _ hx)
    simpa using this
  refine ⟨ds, [], before, [], p, [], hW', ?_, ?_, ?_, hb.frame _, fun h => by cases h⟩
  · rw [hfn, hres]
    exact trodAll_cons_mk (shut_bool Tryz.underlying4 _) trodAll_mk0
  · rw [hfa]
    exact trodAll_stays hb _ _ _ _ hr hA hlt
  · rw [hfv, hv]; exact rfl
end Go.Proofs.YtflalehpdngklaaGreatDoor

namespace Go.Proofs.YtflalehpdngklaaGreatDoor
set_option maxRecDepth 100000
open Go.RowKit

/-- The slice v has n elements of 'size' cells each, which are cs. -/
def Row (w : World) (v : Value) (n size : Nat) (cs : List Value) : Prop :=
  cs.length = n * size ∧ ∃ ao cap, v = .slice ao n cap ∧ (n ≤ cap ∧ cap ≤ maxLen) ∧ (ao = none → n = 0 ∧ cap = 0) ∧ (0 < n → ∃ b off, ao = some ⟨b, off, none⟩ ∧ ∀ i, i < n * size → w.cell? ⟨b, off + i, none⟩ = cs[i]?)
/-- The slice v holds these ints. -/
def Ints (w : World) (v : Value) (xs : List Int) : Prop := Row w v xs.length 1 (xs.map (Value.int .i64))

theorem block_lt {w : World} {a : Addr} {v : Value} (h : w.cell? a = some v) : a.block < w.heap.size := by
  by_cases h0 : a.block < w.heap.size
  · exact h0
  · simp [World.cell?, Array.getElem?_eq_none (Nat.le_of_not_lt h0)] at h
theorem Row.below {w w' : World} {v : Value} {n size : Nat} {cs : List Value} (h : Row w v n size cs) (hb : Below w.heap.size w w') : Row w' v n size cs := by
  obtain ⟨hl, ao, cap, rfl, hm, hno, hc⟩ := h
  refine ⟨hl, ao, cap, rfl, hm, hno, fun hn => ?_⟩
  obtain ⟨b, off, rfl, hcell⟩ := hc hn
  refine ⟨b, off, rfl, fun i hi => ?_⟩
  have h1 := hcell i hi
  have h2 : cs[i]? = some cs[i] := List.getElem?_eq_getElem (by omega)
  rw [h2] at h1
  have hlt := block_lt h1
  rw [hb.cell (p := ⟨b, off + i, none⟩) hlt, h1, h2]
theorem Ints.below {w w' : World} {v : Value} {xs : List Int} (h : Ints w v xs) (hb : Below w.heap.size w w') : Ints w' v xs := Row.below h hb
theorem Row.drewN {w : World} {v : Value} {n size : Nat} {cs : List Value} (h : Row w v n size cs) (k : Nat) : Row (w.drewN k) v n size cs := h.below (below_drewN (Below.refl _ _) k)
theorem Row.of_owns {w : World} {base : Nat} {e : TypeId} {size : Nat} {v : Value} {n : Nat} {cs : List Value} (h : w.ownsRow base e size v n cs) : Row w v n size cs := by
  obtain ⟨hl, h⟩ := h
  refine ⟨hl, ?_⟩
  rcases h with ⟨rfl, rfl⟩ | ⟨g, cap, cur, rfl, hb, hh, hn, hm, hs, ht⟩
  · exact ⟨none, 0, rfl, by simp, fun _ => ⟨rfl, rfl⟩, fun h => by omega⟩
  · refine ⟨some ⟨g, 0, none⟩, cap, rfl, by omega, fun h => (by cases h), fun _ => ⟨g, 0, rfl, fun i hi => ?_⟩⟩
    have hown : w.ownsRow base e size (.slice (some ⟨g, 0, none⟩) n cap) n cs := ⟨hl, .inr ⟨g, cap, cur, rfl, hb, hh, hn, hm, hs, ht⟩⟩
    have := hown.cellAt i hi
    simpa using this
theorem Ints.of_owns {w : World} {base : Nat} {e : TypeId} {v : Value} {n : Nat} {xs : List Int} (h : w.ownsRow base e 1 v n (xs.map (Value.int .i64))) : Ints w v xs := by
  have hr := Row.of_owns h
  have hn : n = xs.length := by have := h.1; simp at this; omega
  subst hn; exact hr
theorem Ints.form {w : World} {v : Value} {xs : List Int} (h : Ints w v xs) : ∃ ao cap, v = .slice ao xs.length cap ∧ xs.length ≤ 9223372036854775807 := by
  obtain ⟨_, ao, cap, rfl, hm, _, _⟩ := h
  exact ⟨ao, cap, rfl, Nat.le_trans hm.1 hm.2⟩
theorem Ints.at {w : World} {ao : Option Addr} {n cap : Nat} {xs : List Int} (h : Ints w (.slice ao n cap) xs) {k : Nat} (hk : k < xs.length) :
    ∃ b off, ao = some ⟨b, off, none⟩ ∧ w.cell? ⟨b, off + k, none⟩ = some (.int .i64 xs[k]) := by
  obtain ⟨_, ao', cap', he, hm, _, hc⟩ := h
  obtain ⟨rfl, _, _⟩ : ao = ao' ∧ n = xs.length ∧ cap = cap' := by simpa using he
  obtain ⟨b, off, rfl, hcell⟩ := hc (by omega)
  refine ⟨b, off, rfl, ?_⟩
  rw [hcell k (by omega)]
  simp [List.getElem?_eq_getElem hk]
theorem owns_below {w w' : World} {base : Nat} {e : TypeId} {size : Nat} {v : Value} {n : Nat} {cs : List Value} (h : w.ownsRow base e size v n cs) (hb : Below w.heap.size w w') : w'.ownsRow base e size v n cs :=
  h.kept (row := none) ⟨hb.os, hb.tape, hb.output, hb.size, fun k hk _ => hb.block k hk⟩ (by cases v.ownBlock <;> simp)
/-- 'append(own, x...)', x any slice whose cells are known, nil included. -/
theorem wpList_append_row {P : Program} {w : World} {ops : Array Oper} {rest : List Oper} {o : Oper} {a : Act} {Q : Exit → Act → World → Prop} (hgd : o.guard = none) (s x : Operand) (t : TypeId)
    (ho : o.op = .call { callee := .builtin .append, args := #[s, x], argTypes := #[t, t] })
    (base : Nat) (e : TypeId) (i : TypeInfo) (z : Value) (size bytes : Nat) (ht : P.underlying t = some (.slice e)) (hi : P.info? e = some i) (hz : i.zero = some z)
    (hsize : i.size = size) (hby : i.bytes = bytes) (hzs : z.cells.size = size) (hsz : 0 < size)
    (v : Value) (n : Nat) (xs : List Value) (hs : a.eval s = v) (hown : w.ownsRow base e size v n xs)
    (sv : Value) (m : Nat) (news : List Value) (hx : a.eval x = sv) (hsrc : Row w sv m size news) (h1 : ∀ u ∈ news, u.oneCell' = true)
    (h63 : n + m ≤ maxLen) (hbytes : (n + m) * bytes ≤ 140737488355328) (hbase : base ≤ w.heap.size)
    (h : ∀ v' w', w'.ownsRow base e size v' (n + m) (xs ++ news) → w.grownBy w' v.ownBlock → wpList P ops Q rest (a.put o.dst v') w') : wpList P ops Q (o :: rest) a w := by
  obtain ⟨hl, ao, cap, rfl, _, hno, hc⟩ := hsrc
  cases ao with
  | none =>
    obtain ⟨rfl, rfl⟩ := hno rfl
    have hnews : news = [] := List.eq_nil_of_length_eq_zero (by simpa using hl)
    subst hnews
    exact wpList_append_own_none hgd s x t ho base e i size ht hi v n xs hs hown hx (by simpa using h v w (by simpa using hown) (World.grownBy.refl _ _))
  | some ad =>
    refine wpList_append_own w hgd s x t ho base e i z size bytes ht hi hz hsize hby hzs hsz v n xs hs hown ad m cap news hx hl ?_ h1 h63 hbytes hbase (fun v' w' h2 h3 _ => h v' w' h2 h3)
    intro j u hu
    have hj : j < news.length := (List.getElem?_eq_some_iff.1 hu).1
    have hm : 0 < m := by
      rcases Nat.eq_zero_or_pos m with h0 | h0
      · subst h0; rw [Nat.zero_mul] at hl; omega
      · exact h0
    obtain ⟨b, off, he, hcell⟩ := hc hm
    obtain rfl := Option.some.inj he
    rw [Addr.add_lit, hcell j (by omega), hu]
end Go.Proofs.YtflalehpdngklaaGreatDoor

namespace Go.Proofs.YtflalehpdngklaaGreatDoor
set_option maxRecDepth 100000

/-- The bit of one number, 0 where it is no number from 0 to 63. -/
def bt (n : Int) : Nat := if 0 ≤ n ∧ n < 64 then 2 ^ n.toNat else 0
/-- Is a number in a set? -/
def hasB (s : Nat) (n : Int) : Bool := decide (0 ≤ n ∧ n < 64) && s.testBit n.toNat
/-- A set's word: below 2^64. -/
def IsSet (s : Nat) : Prop := s < 18446744073709551616
def withS (s : Nat) (n : Int) : Nat := s ||| bt n
def woS (s : Nat) (n : Int) : Nat := s ^^^ (s &&& bt n)

theorem isSet_iff (s : Nat) : IsSet s ↔ s < 2 ^ 64 := by unfold IsSet; omega
theorem isSet_of_bits {s : Nat} (h : ∀ i, 64 ≤ i → s.testBit i = false) : IsSet s := by
  rw [isSet_iff]; exact Nat.lt_pow_two_of_testBit s h
theorem IsSet.high {s : Nat} (h : IsSet s) {i : Nat} (hi : 64 ≤ i) : s.testBit i = false := by
  rw [isSet_iff] at h
  exact Nat.testBit_lt_two_pow (Nat.lt_of_lt_of_le h (Nat.pow_le_pow_right (by omega) hi))
theorem set_ext {s t : Nat} (hs : IsSet s) (ht : IsSet t) (h : ∀ i, i < 64 → s.testBit i = t.testBit i) : s = t := by
  apply Nat.eq_of_testBit_eq
  intro i
  by_cases hi : i < 64
  · exact h i hi
  · rw [hs.high (by omega), ht.high (by omega)]
theorem testBit_bt (n : Int) (i : Nat) : (bt n).testBit i = (decide (0 ≤ n ∧ n < 64) && decide (n.toNat = i)) := by
  unfold bt
  split
  · rename_i h; rw [Nat.testBit_two_pow]; simp [h]
  · rename_i h; simp [h]
theorem isSet_bt (n : Int) : IsSet (bt n) := by
  apply isSet_of_bits
  intro i hi
  rw [testBit_bt]
  by_cases h : 0 ≤ n ∧ n < 64
  · simp [h]; omega
  · simp [h]
theorem isSet_and {s t : Nat} (hs : IsSet s) : IsSet (s &&& t) := by
  apply isSet_of_bits
  intro i hi
  simp [hs.high hi]
theorem isSet_or {s t : Nat} (hs : IsSet s) (ht : IsSet t) : IsSet (s ||| t) := by
  apply isSet_of_bits
  intro i hi
  simp [hs.high hi, ht.high hi]
theorem isSet_xor {s t : Nat} (hs : IsSet s) (ht : IsSet t) : IsSet (s ^^^ t) := by
  apply isSet_of_bits
  intro i hi
  simp [hs.high hi, ht.high hi]
theorem isSet_withS {s : Nat} {n : Int} (hs : IsSet s) : IsSet (withS s n) := isSet_or hs (isSet_bt n)
theorem isSet_woS {s : Nat} {n : Int} (hs : IsSet s) : IsSet (woS s n) := isSet_xor hs (isSet_and hs)
theorem testBit_withS (s : Nat) (n : Int) (i : Nat) : (withS s n).testBit i = (s.testBit i || (decide (0 ≤ n ∧ n < 64) && decide (n.toNat = i))) := by
  simp only [withS, Nat.testBit_or, testBit_bt]
theorem testBit_woS (s : Nat) (n : Int) (i : Nat) : (woS s n).testBit i = (s.testBit i && !(decide (0 ≤ n ∧ n < 64) && decide (n.toNat = i))) := by
  simp only [woS, Nat.testBit_xor, Nat.testBit_and, testBit_bt]
  cases s.testBit i <;> simp
theorem and_bt_ne (s : Nat) (n : Int) : (s &&& bt n != 0) = hasB s n := by
  unfold hasB
  by_cases h : 0 ≤ n ∧ n < 64
  · have e : s &&& bt n = if s.testBit n.toNat then 2 ^ n.toNat else 0 := by
      apply Nat.eq_of_testBit_eq
      intro i
      rw [Nat.testBit_and, testBit_bt]
      by_cases hb : s.testBit n.toNat = true
      · simp only [h, hb, if_true, Nat.testBit_two_pow]
        by_cases e : n.toNat = i
        · subst e; simp [hb]
        · simp [e]
      · simp only [h, hb]
        by_cases e : n.toNat = i
        · subst e; simp [hb]
        · simp [e]
    rw [e]
    cases hb : s.testBit n.toNat
    · simp
    · have : 0 < 2 ^ n.toNat := Nat.two_pow_pos _
      simp [h]
  · have : bt n = 0 := by unfold bt; simp [h]
    rw [this]; simp [h]
theorem bits_has (s : Nat) (n : Int) (hs : IsSet s) : (Go.bits .and .u64 (s : Int) ((bt n : Nat) : Int) != 0) = hasB s n := by
  rw [Go.bits_and_u64_nat s (bt n) hs (isSet_bt n), ← and_bt_ne]
  rw [Bool.eq_iff_iff]; simp
theorem bits_with (s : Nat) (n : Int) (hs : IsSet s) : Go.bits .or .u64 (s : Int) ((bt n : Nat) : Int) = ((withS s n : Nat) : Int) :=
  Go.bits_or_u64_nat s (bt n) hs (isSet_bt n)
theorem bits_andNot_u64_nat (a b : Nat) (ha : a < 18446744073709551616) (hb : b < 18446744073709551616) :
    Go.bits .andNot .u64 (a : Int) (b : Int) = ((a ^^^ (a &&& b) : Nat) : Int) := by
  have hx : a ^^^ (a &&& b) < 2 ^ 64 := Nat.xor_lt_two_pow (by omega) (Nat.and_lt_two_pow _ (by omega))
  have h1 : (BitVec.ofInt 64 (a : Int)).toNat = a := by
    rw [BitVec.ofInt_natCast, BitVec.toNat_ofNat]; exact Nat.mod_eq_of_lt (by omega)
  have h2 : (BitVec.ofInt 64 (b : Int)).toNat = b := by
    rw [BitVec.ofInt_natCast, BitVec.toNat_ofNat]; exact Nat.mod_eq_of_lt (by omega)
  show IntKind.u64.wrap ((BitVec.ofInt 64 (a : Int) &&& ~~~ (BitVec.ofInt 64 (b : Int))).toNat : Int) = _
  have e : ∀ x y : BitVec 64, x &&& ~~~ y = x ^^^ (x &&& y) := by
    intro x y; ext i hi; simp; cases x[i] <;> cases y[i] <;> rfl
  rw [e, BitVec.toNat_xor, BitVec.toNat_and, h1, h2, IntKind.wrap_u64]
  omega
theorem bits_wo (s : Nat) (n : Int) (hs : IsSet s) : Go.bits .andNot .u64 (s : Int) ((bt n : Nat) : Int) = ((woS s n : Nat) : Int) :=
  bits_andNot_u64_nat s (bt n) hs (isSet_bt n)
theorem wrap_two_pow (n : Int) (h0 : 0 ≤ n) (h1 : n < 64) : IntKind.u64.wrap (2 ^ n.toNat) = ((bt n : Nat) : Int) := by
  have h := isSet_bt n
  unfold bt IsSet at *
  rw [if_pos ⟨h0, h1⟩] at *
  rw [IntKind.wrap_u64]
  have : ((2 : Int) ^ n.toNat) = ((2 ^ n.toNat : Nat) : Int) := by simp
  rw [this]; generalize 2 ^ n.toNat = k at *; omega
theorem bt_out (n : Int) (h : ¬ (0 ≤ n ∧ n < 64)) : (0 : Int) = ((bt n : Nat) : Int) := by unfold bt; simp [h]
end Go.Proofs.YtflalehpdngklaaGreatDoor

namespace Go.Proofs.YtflalehpdngklaaGreatDoor
set_option maxRecDepth 100000
open Go.RowKit

theorem ret_i {k : IntKind} {a b : Int} (h : a = b) : Ending.returned (.int k a) = .returned (.int k b) := by rw [h]
theorem ret_b {a b : Bool} (h : a = b) : Ending.returned (.bool a) = .returned (.bool b) := by rw [h]

set_option maxHeartbeats 400000 in
theorem bit_in (n : Int) (w : World) (h0 : 0 ≤ n) (h1 : n < 64) :
    Calls Tryz.prog 119 #[.int .i64 n] w fun e w' => e = .returned (.int .u64 ((bt n : Nat) : Int)) ∧ w = w' := by
  go_enter Tryz.func119, Tryz.ntmps119
  go_wp2
  go_ret
  exact ⟨ret_i (wrap_two_pow n h0 h1), rfl⟩
set_option maxHeartbeats 400000 in
theorem bit_out (n : Int) (w : World) (h : ¬ (0 ≤ n ∧ n < 64)) :
    Calls Tryz.prog 119 #[.int .i64 n] w fun e w' => e = .returned (.int .u64 ((bt n : Nat) : Int)) ∧ w = w' := by
  have e := bt_out n h
  have H := Lib.hid e; clear e
  by_cases h0 : n < 0
  all_goals
    go_enter Tryz.func119, Tryz.ntmps119
    go_wp2
    go_ret
    exact ⟨ret_i H.out, rfl⟩
theorem bit_any (n : Int) (w : World) :
    Calls Tryz.prog 119 #[.int .i64 n] w fun e w' => e = .returned (.int .u64 ((bt n : Nat) : Int)) ∧ w = w' := by
  by_cases h : 0 ≤ n ∧ n < 64
  · exact bit_in n w h.1 h.2
  · exact bit_out n w h

set_option maxHeartbeats 400000 in
theorem has_any (s : Nat) (n : Int) (w : World) (hs : IsSet s) :
    Calls Tryz.prog 44 #[.int .u64 (s : Int), .int .i64 n] w fun e w' => e = .returned (.bool (hasB s n)) ∧ w = w' := by
  go_enter Tryz.func44, Tryz.ntmps44
  go_wp2_with (go_at_call 119; refine (bit_any _ _).mono ?_; rintro e w' ⟨rfl, rfl⟩)
  go_ret
  exact ⟨ret_b (bits_has s n hs), rfl⟩
set_option maxHeartbeats 400000 in
theorem with_any (s : Nat) (n : Int) (w : World) (hs : IsSet s) :
    Calls Tryz.prog 112 #[.int .u64 (s : Int), .int .i64 n] w fun e w' => e = .returned (.int .u64 ((withS s n : Nat) : Int)) ∧ w = w' := by
  go_enter Tryz.func112, Tryz.ntmps112
  go_wp2_with (go_at_call 119; refine (bit_any _ _).mono ?_; rintro e w' ⟨rfl, rfl⟩)
  go_ret
  exact ⟨ret_i (bits_with s n hs), rfl⟩
set_option maxHeartbeats 400000 in
theorem wo_any (s : Nat) (n : Int) (w : World) (hs : IsSet s) :
    Calls Tryz.prog 104 #[.int .u64 (s : Int), .int .i64 n] w fun e w' => e = .returned (.int .u64 ((woS s n : Nat) : Int)) ∧ w = w' := by
  go_enter Tryz.func104, Tryz.ntmps104
  go_wp2_with (go_at_call 119; refine (bit_any _ _).mono ?_; rintro e w' ⟨rfl, rfl⟩)
  go_ret
  exact ⟨ret_i (bits_wo s n hs), rfl⟩
end Go.Proofs.YtflalehpdngklaaGreatDoor

namespace Go.Proofs.YtflalehpdngklaaGreatDoor
set_option maxRecDepth 100000
open Go.RowKit

def IntOk (n : Int) : Prop := -9223372036854775808 ≤ n ∧ n ≤ 9223372036854775807
structure OpV where
  wr : Bool
  key : Int
  val : Int
def OpV.v (o : OpV) : Value := .agg #[.bool o.wr, .int .i64 o.key, .int .i64 o.val]
def OpV.ok (o : OpV) : Prop := IntOk o.key ∧ IntOk o.val
def opZ : OpV := ⟨false, 0, 0⟩
/-- May there be such an operation? -/
def mayO (o : OpV) : Bool := (decide (0 ≤ o.key) && decide (o.key < 64)) && (decide (0 ≤ o.val) && decide (o.val ≤ 2147483647)) && (!o.wr || o.val != 0)
theorem mayO_iff (o : OpV) : mayO o = true ↔ (0 ≤ o.key ∧ o.key < 64) ∧ (0 ≤ o.val ∧ o.val ≤ 2147483647) ∧ (o.wr = true → o.val ≠ 0) := by
  obtain ⟨wr, key, val⟩ := o
  unfold mayO
  cases wr <;> simp [and_assoc]
theorem box_below (w : World) (o : Obj) : Below w.heap.size w (w.alloc o) := (Below.refl _ _).alloc (Nat.le_refl _) _
set_option maxHeartbeats 1000000 in
theorem right_any (wr : Bool) (key val : Int) (w : World) :
    Calls Tryz.prog 179 #[.agg #[.bool wr, .int .i64 key, .int .i64 val]] w fun e w' => e = .returned (.bool (mayO ⟨wr, key, val⟩)) ∧ Below w.heap.size w w' := by
  have hi := mayO_iff ⟨wr, key, val⟩
  by_cases h : mayO ⟨wr, key, val⟩ = true
  · obtain ⟨⟨h1, h2⟩, ⟨h3, h4⟩, h5⟩ := hi.1 h
    have HM := Lib.hid h
    have c1 : ¬ key < 0 := by simpa using h1
    have c2 : ¬ (64 : Int) ≤ key := by simp at h2; omega
    have c3 : ¬ val < 0 := by simpa using h3
    have c4 : ¬ (2147483647 : Int) < val := by simp at h4; omega
    simp only at h1 h2 h3 h4 h5
    clear h hi
    cases wr
    · clear h5
      go_enter Tryz.func179, Tryz.ntmps179
      go_wp2_with fail
      go_ret
      exact ⟨ret_b HM.out.symm, box_below _ _⟩
    · have c5 : (val != 0) = true := by rw [bne_iff_ne]; exact h5 rfl
      clear h5
      go_enter Tryz.func179, Tryz.ntmps179
      go_wp2_with fail
      go_ret
      exact ⟨ret_b HM.out.symm, box_below _ _⟩
  · have HM : Hid (mayO ⟨wr, key, val⟩ = false) := Lib.hid (by simpa using h)
    have hn : ¬ ((0 ≤ key ∧ key < 64) ∧ (0 ≤ val ∧ val ≤ 2147483647) ∧ (wr = true → val ≠ 0)) := fun k => h (hi.2 k)
    clear h hi
    by_cases c1 : key < 0
    · go_enter Tryz.func179, Tryz.ntmps179
      clear hn
      go_wp2_with fail
      go_ret
      exact ⟨ret_b HM.out.symm, box_below _ _⟩
    by_cases c2 : (64 : Int) ≤ key
    · clear hn
      go_enter Tryz.func179, Tryz.ntmps179
      go_wp2_with fail
      go_ret
      exact ⟨ret_b HM.out.symm, box_below _ _⟩
    by_cases c3 : val < 0
    · clear hn
      go_enter Tryz.func179, Tryz.ntmps179
      go_wp2_with fail
      go_ret
      exact ⟨ret_b HM.out.symm, box_below _ _⟩
    by_cases c4 : (2147483647 : Int) < val
    · clear hn
      go_enter Tryz.func179, Tryz.ntmps179
      go_wp2_with fail
      go_ret
      exact ⟨ret_b HM.out.symm, box_below _ _⟩
    cases wr
    · exfalso; apply hn; exact ⟨⟨by omega, by omega⟩, ⟨by omega, by omega⟩, fun h => by cases h⟩
    · have hv : val = 0 := by
        by_cases h : val = 0
        · exact h
        · exfalso; apply hn; exact ⟨⟨by omega, by omega⟩, ⟨by omega, by omega⟩, fun _ => h⟩
      subst hv
      clear hn
      go_enter Tryz.func179, Tryz.ntmps179
      go_wp2_with fail
      go_ret
      exact ⟨ret_b HM.out.symm, box_below _ _⟩
/-- Behind a region: what calls one behind the other leave alone. -/
theorem below_then {w0 w1 w2 : World} (h : Below w0.heap.size w0 w1) (k : Below w1.heap.size w1 w2) : Below w0.heap.size w0 w2 := h.trans (k.mono h.size)
theorem opBlock (w : World) (x y z : Value) (t : TypeId) : (w.alloc (.cells #[x, y, z] t)).cell? ⟨w.heap.size, 0, none⟩ = some x ∧ (w.alloc (.cells #[x, y, z] t)).cell? ⟨w.heap.size, 1, none⟩ = some y ∧ (w.alloc (.cells #[x, y, z] t)).cell? ⟨w.heap.size, 2, none⟩ = some z := by
  refine ⟨?_, ?_, ?_⟩ <;> simp
theorem ints_lit (w : World) (xs : List Int) (cs : Array Value) (n : Nat) (hc : cs.toList = xs.map (Value.int .i64)) (hn : n = xs.length) (hm : n ≤ maxLen) :
    Ints (w.alloc (.cells cs 3)) (.slice (some ⟨w.heap.size, 0, none⟩) n n) xs := by
  have hs : cs.size = n * 1 := by
    have := congrArg List.length hc
    simp at this; omega
  have h := World.ownsRow_lit (base := 0) (e := 3) (size := 1) w cs n (Nat.zero_le _) hm hs
  rw [hc] at h
  exact Ints.of_owns h
/-- The cells of operations in a row. -/
def opV (l : List OpV) : List Value := l.flatMap fun o => [.bool o.wr, .int .i64 o.key, .int .i64 o.val]
theorem opV_len (l : List OpV) : (opV l).length = l.length * 3 := by
  induction l with
  | nil => rfl
  | cons a l ih => unfold opV at *; rw [List.flatMap_cons, List.length_append, ih]; simp; omega
theorem opV_at : ∀ (l : List OpV) (k : Nat) (hk : k < l.length), (opV l)[k * 3]? = some (.bool l[k].wr) ∧ (opV l)[k * 3 + 1]? = some (.int .i64 l[k].key) ∧ (opV l)[k * 3 + 2]? = some (.int .i64 l[k].val)
  | a :: l, 0, _ => ⟨rfl, rfl, rfl⟩
  | a :: l, k + 1, hk => by
    obtain ⟨h0, h1, h2⟩ := opV_at l k (by simpa using hk)
    have e : ∀ j, (opV (a :: l))[(k + 1) * 3 + j]? = (opV l)[k * 3 + j]? := fun j => by
      unfold opV
      rw [List.flatMap_cons, show (k + 1) * 3 + j = 3 + (k * 3 + j) from by omega]
      rw [List.getElem?_append_right (by simp)]
      simp
    exact ⟨(e 0).trans h0, (e 1).trans h1, (e 2).trans h2⟩
/-- The slice v holds these operations. -/
def Ops (w : World) (v : Value) (l : List OpV) : Prop := Row w v l.length 3 (opV l)
theorem Ops.below {w w' : World} {v : Value} {l : List OpV} (h : Ops w v l) (hb : Below w.heap.size w w') : Ops w' v l := Row.below h hb
theorem Ops.form {w : World} {v : Value} {l : List OpV} (h : Ops w v l) : ∃ ao cap, v = .slice ao l.length cap ∧ l.length ≤ 9223372036854775807 := by
  obtain ⟨_, ao, cap, rfl, hm, _, _⟩ := h
  exact ⟨ao, cap, rfl, Nat.le_trans hm.1 hm.2⟩
theorem Ops.at {w : World} {ao : Option Addr} {n cap : Nat} {l : List OpV} (h : Ops w (.slice ao n cap) l) {k : Nat} (hk : k < l.length) :
    ∃ b off, ao = some ⟨b, off, none⟩ ∧ w.cell? ⟨b, off + k * 3, none⟩ = some (.bool l[k].wr) ∧ w.cell? ⟨b, off + k * 3 + 1, none⟩ = some (.int .i64 l[k].key) ∧ w.cell? ⟨b, off + k * 3 + 2, none⟩ = some (.int .i64 l[k].val) := by
  obtain ⟨_, ao', cap', he, hm, _, hc⟩ := h
  obtain ⟨rfl, _, _⟩ : ao = ao' ∧ n = l.length ∧ cap = cap' := by simpa using he
  obtain ⟨b, off, rfl, hcell⟩ := hc (by omega)
  obtain ⟨h0, h1, h2⟩ := opV_at l k hk
  refine ⟨b, off, rfl, ?_, ?_, ?_⟩
  · rw [hcell (k * 3) (by omega), h0]
  · rw [Nat.add_assoc, hcell (k * 3 + 1) (by omega), h1]
  · rw [Nat.add_assoc, hcell (k * 3 + 2) (by omega), h2]
def allM (l : List OpV) : Bool := l.all mayO
theorem allM_succ (l : List OpV) (k : Nat) (hk : k < l.length) : allM (l.take (k + 1)) = (allM (l.take k) && mayO l[k]) := by
  unfold allM; rw [List.take_succ_eq_append_getElem hk, List.all_append]; simp
theorem allM_no (l : List OpV) (k : Nat) (hk : k < l.length) (h : mayO l[k] = false) : allM l = false := by
  unfold allM; exact List.all_eq_false.2 ⟨l[k], List.getElem_mem hk, by simp [h]⟩
/-- Three cells of one block are written anew. -/
theorem put_three {w1 : World} {g : Nat} {x0 x1 x2 : Value} (v0 v1 v2 : Value) (c0 : w1.cell? ⟨g, 0, none⟩ = some x0) (c1 : w1.cell? ⟨g, 1, none⟩ = some x1) (c2 : w1.cell? ⟨g, 2, none⟩ = some x2) :
    (((w1.setCell ⟨g, 0, none⟩ v0).setCell ⟨g, 1, none⟩ v1).setCell ⟨g, 2, none⟩ v2).cell? ⟨g, 0, none⟩ = some v0 ∧
    (((w1.setCell ⟨g, 0, none⟩ v0).setCell ⟨g, 1, none⟩ v1).setCell ⟨g, 2, none⟩ v2).cell? ⟨g, 1, none⟩ = some v1 ∧
    (((w1.setCell ⟨g, 0, none⟩ v0).setCell ⟨g, 1, none⟩ v1).setCell ⟨g, 2, none⟩ v2).cell? ⟨g, 2, none⟩ = some v2 := by
  have n01 : (⟨g, 0, none⟩ : Addr) ≠ ⟨g, 1, none⟩ := by simp
  have n02 : (⟨g, 0, none⟩ : Addr) ≠ ⟨g, 2, none⟩ := by simp
  have n12 : (⟨g, 1, none⟩ : Addr) ≠ ⟨g, 2, none⟩ := by simp
  refine ⟨?_, ?_, ?_⟩
  · rw [World.cell?_setCell_other _ _ _ _ n02.symm, World.cell?_setCell_other _ _ _ _ n01.symm]
    exact World.cell?_setCell_same _ _ _ c0
  · rw [World.cell?_setCell_other _ _ _ _ n12.symm]
    exact World.cell?_setCell_same _ _ _ ((World.cell?_setCell_other _ _ _ _ n01).trans c1)
  · exact World.cell?_setCell_same _ _ _ ((World.cell?_setCell_other _ _ _ _ n12).trans ((World.cell?_setCell_other _ _ _ _ n02).trans c2))
theorem below_three {B : Nat} {w w1 : World} {g : Nat} (v0 v1 v2 : Value) (hb : Below B w w1) (hg : B ≤ g) :
    Below B w (((w1.setCell ⟨g, 0, none⟩ v0).setCell ⟨g, 1, none⟩ v1).setCell ⟨g, 2, none⟩ v2) :=
  ((hb.setCell (p := ⟨g, 0, none⟩) hg v0).setCell (p := ⟨g, 1, none⟩) hg v1).setCell (p := ⟨g, 2, none⟩) hg v2
/-- What a block of an operation that the call made holds, behind calls that leave it alone. -/
theorem op_cells {w w1 : World} {x y z : Value} {t : TypeId} (hb : Below (w.heap.size + 1) (w.alloc (.cells #[x, y, z] t)) w1) :
    (w1.cell? ⟨w.heap.size, 0, none⟩ = some x ∧ w1.cell? ⟨w.heap.size, 1, none⟩ = some y ∧ w1.cell? ⟨w.heap.size, 2, none⟩ = some z) ∧
    (w1.frozen? ⟨w.heap.size, 0, none⟩ = false ∧ w1.frozen? ⟨w.heap.size, 1, none⟩ = false ∧ w1.frozen? ⟨w.heap.size, 2, none⟩ = false) := by
  have c0 := hb.cell (p := ⟨w.heap.size, 0, none⟩) (by simp)
  have c1 := hb.cell (p := ⟨w.heap.size, 1, none⟩) (by simp)
  have c2 := hb.cell (p := ⟨w.heap.size, 2, none⟩) (by simp)
  have f0 := hb.frozen (p := ⟨w.heap.size, 0, none⟩) (by simp)
  have f1 := hb.frozen (p := ⟨w.heap.size, 1, none⟩) (by simp)
  have f2 := hb.frozen (p := ⟨w.heap.size, 2, none⟩) (by simp)
  simp at c0 c1 c2 f0 f1 f2
  exact ⟨⟨c0, c1, c2⟩, f0, f1, f2⟩
end Go.Proofs.YtflalehpdngklaaGreatDoor

namespace Go.Proofs.YtflalehpdngklaaGreatDoor
set_option maxRecDepth 100000
open Go.RowKit

theorem bldSize : (Tryz.prog.info? 167).map (·.size) = some 2 := by kernel_rfl
theorem bldLies : liesAt Tryz.prog Tryz.prog.depth 167 (2 / Tryz.prog.cellsOf 167) 0 167 1 = true := by kernel_rfl
theorem infoU8 : (Tryz.prog.info? 5).map (fun i => (i.zero, i.size, i.bytes)) = some (some (.int .u8 0), 1, 1) := by kernel_rfl
/-- A builder of the call's own, from block B on, in block b, that holds these bytes. -/
def Bld (B b : Nat) (l : List UInt8) (w : World) : Prop := Lib.IsBuilder 167 5 B b (Lib.byteCells l) w ∧ B ≤ w.heap.size
set_option maxRecDepth 100000 in
set_option maxHeartbeats 1000000 in
theorem copy_used (b : Nat) (w : World) (h : w.cell? ⟨b, 0, none⟩ = some (.pointer (some ⟨b, 0, none⟩))) :
    Calls Tryz.prog 168 #[.pointer (some ⟨b, 0, none⟩)] w fun e w' => e = .returned (.tuple #[]) ∧ w = w' := by
  obtain ⟨j, hj, _⟩ := Option.map_eq_some_iff.1 bldSize
  have hq := Lib.run_neq_ptr_same (P := Tryz.prog) w ⟨b, 0, none⟩ Tryz.underlying165 hj
  go_enter Tryz.func168, Tryz.ntmps168
  go_wp2
  go_end0
  exact ⟨rfl, rfl⟩
set_option maxRecDepth 100000 in
set_option maxHeartbeats 1000000 in
theorem copy_fresh (b : Nat) (w : World) (h : w.cell? ⟨b, 0, none⟩ = some (.pointer none)) (hs : w.shape? b = some (167, 2)) (hf : w.frozen? ⟨b, 0, none⟩ = false) :
    Calls Tryz.prog 168 #[.pointer (some ⟨b, 0, none⟩)] w fun e w' => e = .returned (.tuple #[]) ∧ w' = w.setCell ⟨b, 0, none⟩ (.pointer (some ⟨b, 0, none⟩)) := by
  obtain ⟨j, hj, hjs⟩ := Option.map_eq_some_iff.1 bldSize
  have HTO := Lib.hid (Lib.run_to_unsafe (P := Tryz.prog) w ⟨b, 0, none⟩ Tryz.underlying165 Tryz.underlying224 hj (by rw [hjs]; decide) hs (Nat.zero_lt_succ 1))
  have HFROM := Lib.hid (Lib.run_from_unsafe (P := Tryz.prog) w ⟨b, 0, none⟩ Tryz.underlying224 Tryz.underlying165 hj hs bldLies)
  clear hjs
  go_enter Tryz.func168, Tryz.ntmps168
  go_wp2
  rw [HTO.out]
  simp only [Result.andThen]
  rw [Oper.upon_value]
  go_wp2
  rw [run_callFunc_extern Tryz.func180 (by kernel_rfl) (by kernel_rfl) (by kernel_rfl) (e := Extern.AbiNoEscape.same) (by kernel_rfl), Lib.run_noEscape]
  simp only [Result.andThen]
  rw [Oper.upon_value]
  go_wp2
  rw [HFROM.out]
  simp only [Result.andThen]
  rw [Oper.upon_value]
  go_wp2
  go_end0
  exact ⟨rfl, rfl⟩
theorem copy_any (B b : Nat) (l : List UInt8) (w : World) (h : Bld B b l w) :
    Calls Tryz.prog 168 #[.pointer (some ⟨b, 0, none⟩)] w fun e w' => e = .returned (.tuple #[]) ∧ Lib.BuilderAt 167 5 B b (.pointer (some ⟨b, 0, none⟩)) (Lib.byteCells l) w' ∧ Below B w w' := by
  rcases h.1 with h | h
  · refine (copy_fresh b w h.cell0 h.shape h.frozen0).mono ?_
    rintro e w' ⟨rfl, rfl⟩
    exact ⟨rfl, h.used _, (Below.refl B w).setCell (p := ⟨b, 0, none⟩) h.1 _⟩
  · refine (copy_used b w h.cell0).mono ?_
    rintro e w' ⟨rfl, rfl⟩
    exact ⟨rfl, h, Below.refl B _⟩
theorem own_slice {w : World} {B e n : Nat} {v : Value} {xs : List Value} (h : w.ownsRow B e 1 v n xs) : ∃ ao k cap, v = .slice ao k cap := by
  rcases h.2 with ⟨h, _⟩ | ⟨g, cap, cur, h, _⟩
  · exact ⟨_, _, _, h⟩
  · exact ⟨_, _, _, h⟩
theorem strCells_bytes (s : ByteArray) : Lib.strCells s = Lib.byteCells s.data.toList := rfl
set_option maxRecDepth 100000 in
set_option maxHeartbeats 1000000 in
theorem write_any (B b : Nat) (l : List UInt8) (s : ByteArray) (w : World) (h : Bld B b l w) (hlen : l.length + s.size ≤ 140737488355328) :
    Calls Tryz.prog 123 #[.pointer (some ⟨b, 0, none⟩), .string s] w fun e w' => e = .returned (.tuple #[.int .i64 s.size, .nilIface]) ∧ Bld B b (l ++ s.data.toList) w' ∧ Below B w w' := by
  obtain ⟨i0, hi, hz0, hz1, hz2⟩ := info_parts infoU8
  have hBw := h.2
  have hll : (Lib.byteCells l).length = l.length := Lib.byteCells_length l
  have C := Lib.hid (copy_any B b l w h)
  clear h
  go_enter Tryz.func123, Tryz.ntmps123
  go_wp2_with fail
  refine (C.out).mono ?_
  rintro e w1 ⟨rfl, h1, hb1⟩
  obtain ⟨hB, v, hbk, hown, hne⟩ := h1
  have hsz := hb1.size
  have c0 : w1.cell? ⟨b, 0, none⟩ = some (.pointer (some ⟨b, 0, none⟩)) := by rw [Lib.cell_of_heap hbk]; rfl
  have c1 : w1.cell? ⟨b, 1, none⟩ = some v := by rw [Lib.cell_of_heap hbk]; rfl
  have hlt : b < w1.heap.size := by
    rcases Nat.lt_or_ge b w1.heap.size with h' | h'
    · exact h'
    · simp [Array.getElem?_eq_none h'] at hbk
  rw [hll] at hown
  have HBK := Lib.hid hbk
  clear hbk hll
  go_wp2_with (at_builtin; refine Lib.wpList_append_own_string _ rfl _ _ 23 9 rfl B 5 i0 Tryz.underlying23 Tryz.underlying9 hi hz0 hz1 hz2 _ _ _ rfl hown s rfl ?c3 ?c4 ?c5 ?_)
  case c3 => unfold maxLen; omega
  case c4 => omega
  case c5 => omega
  intro v' w2 hown' hgrow _
  have hb2 : w2.heap[b]? = some (.cells #[.pointer (some ⟨b, 0, none⟩), v] 167 (0, 0)) := by
    rw [hgrow.block b hlt (fun e => hne e.symm)]
    exact HBK.out
  have d0 : w2.cell? ⟨b, 0, none⟩ = some (.pointer (some ⟨b, 0, none⟩)) := by rw [Lib.cell_of_heap hb2]; rfl
  have d1 : w2.cell? ⟨b, 1, none⟩ = some v := by rw [Lib.cell_of_heap hb2]; rfl
  have f1 : w2.frozen? ⟨b, 1, none⟩ = false := Lib.frozen_of_heap hb2 1
  have HB2 := Lib.hid hb2
  clear hb2 c0 c1
  obtain ⟨ao, k, cap, rfl⟩ := own_slice hown'
  go_wp2
  go_ret2
  refine ⟨rfl, ⟨.inr ?_, ?_⟩, ?_⟩
  · refine Lib.BuilderAt.put hB HB2.out (bs' := Lib.byteCells (l ++ s.data.toList)) ?_ (by decide)
    rw [Lib.byteCells_append, ← strCells_bytes]
    simpa [Lib.strCells_length, Lib.byteCells_length] using hown'
  · have := hgrow.size; simp [World.setCell]; omega
  · exact (hb1.grown hgrow (by omega) (fun k hk => (hown.lt k hk).1)).setCell (p := ⟨b, 1, none⟩) hB _
theorem bld_new (w : World) : Bld w.heap.size w.heap.size [] (w.alloc (.cells #[.pointer none, .slice none 0 0] 167)) := ⟨Lib.fresh_isBuilder _ _ w, by simp⟩
theorem bld_string (B b : Nat) (l : List UInt8) (w : World) (h : Bld B b l w) :
    Calls Tryz.prog 125 #[.pointer (some ⟨b, 0, none⟩)] w fun e w' => e = .returned (.string ⟨l.toArray⟩) ∧ Below B w w' :=
  Tryz.Builder_String_any B b l w h.1 h.2
/-- A builder stands where nothing has turned but what lies behind. -/
theorem Bld.grown {B b : Nat} {l : List UInt8} {w w' : World} (h : Bld B b l w) (hb : Below w.heap.size w w') : Bld B b l w' := by
  obtain ⟨h1, h2⟩ := h
  have key : ∀ p, Lib.BuilderAt 167 5 B b p (Lib.byteCells l) w → Lib.BuilderAt 167 5 B b p (Lib.byteCells l) w' := by
    rintro p ⟨hB, v, hbk, hown, hne⟩
    have hlt : b < w.heap.size := by
      rcases Nat.lt_or_ge b w.heap.size with h' | h'
      · exact h'
      · simp [Array.getElem?_eq_none h'] at hbk
    refine ⟨hB, v, by rw [hb.block b hlt]; exact hbk, ?_, hne⟩
    exact hown.kept (row := none) ⟨hb.os, hb.tape, hb.output, hb.size, fun k hk _ => hb.block k hk⟩ (by cases v.ownBlock <;> simp)
  exact ⟨h1.elim (fun h => .inl (key _ h)) (fun h => .inr (key _ h)), Nat.le_trans h2 hb.size⟩
end Go.Proofs.YtflalehpdngklaaGreatDoor

namespace Go.Proofs.YtflalehpdngklaaGreatDoor
set_option maxRecDepth 100000
open Go.RowKit

theorem gTen : Tryz.prog.globalNamed "internal/strconv.uint64pow10" = some 5 := by kernel_rfl
/-- The library's table of tens is as a start leaves it. -/
def Ten (w : World) : Prop := Lib.TabIs Tryz.prog w "internal/strconv.uint64pow10" .u64 Lib.pow10Tab
theorem Ten.pos {w : World} (h : Ten w) : 5 < w.heap.size := by
  have := Lib.TabIs.cell h gTen 0 (by decide)
  exact block_lt this
theorem Ten.below {w w' : World} (h : Ten w) (hb : Below w.heap.size w w') : Ten w' := var?_below hb gTen h.pos h
theorem below_sort_grow (w : World) (k : Nat) (os : Array Obj) : Below w.heap.size w (Sort.grow (w.drewN k) os) :=
  ⟨rfl, rfl, rfl, by simp [Sort.grow, World.drewN], fun i hi => by
    have : (Sort.grow (w.drewN k) os).heap = w.heap ++ os := rfl
    rw [this, Array.getElem?_append_left hi]⟩
theorem itoa_ten (n : Int) (w : World) (he : Ten w) (hn : IntOk n) :
    Calls Tryz.prog 181 #[.int .i64 n] w fun e w' => e = .returned (.string ⟨(Lib.itoa n).toArray⟩) ∧ Below w.heap.size w w' := by
  refine (Tryz.strconv_Itoa n hn.1 hn.2 w he).mono fun e w' ⟨h, k, os, hw⟩ => ⟨h, ?_⟩
  subst hw
  exact below_sort_grow w k os
/-- A word, and numbers behind it, a blank ahead of each. -/
def joinTo (s : List UInt8) (l : List Int) : List UInt8 := s ++ l.flatMap fun n => 32 :: Lib.itoa n
theorem joinTo_nil (s : List UInt8) : joinTo s [] = s := by simp [joinTo]
theorem joinTo_succ (s : List UInt8) (l : List Int) (k : Nat) (hk : k < l.length) : joinTo s (l.take (k + 1)) = (joinTo s (l.take k) ++ [32]) ++ Lib.itoa l[k] := by
  unfold joinTo
  rw [List.take_succ_eq_append_getElem hk, List.flatMap_append]
  simp
theorem joinTo_len (s : List UInt8) : ∀ (l : List Int), (∀ n ∈ l, IntOk n) → (joinTo s l).length ≤ s.length + 22 * l.length := by
  intro l
  induction l with
  | nil => intro _; simp [joinTo]
  | cons a l ih =>
    intro h
    have h1 := ih (fun n hn => h n (List.mem_cons_of_mem _ hn))
    have ha := h a List.mem_cons_self
    have h2 := Lib.itoa_length_le a ha.1 ha.2
    unfold joinTo at *
    rw [List.flatMap_cons]
    simp only [List.length_append, List.length_cons] at *
    omega
def joinB (s : ByteArray) (l : List Int) : ByteArray := ⟨(joinTo s.data.toList l).toArray⟩
set_option maxHeartbeats 2000000 in
theorem join_ten (s : ByteArray) (va : Value) (l : List Int) (w : World) (he : Ten w) (hI : Ints w va l) (hl : ∀ n ∈ l, IntOk n) (hlen : s.size + 22 * l.length ≤ 1000000000) :
    Calls Tryz.prog 169 #[.string s, va] w fun e w' => e = .returned (.string (joinB s l)) ∧ Below w.heap.size w w' := by
  obtain ⟨ao, cap, rfl, hal⟩ := hI.form
  have hsl := Lib.size_eq s
  have HLEN : Hid (∀ k, k ≤ l.length → (joinTo s.data.toList (l.take k)).length ≤ s.size + 22 * k) := Lib.hid (fun k hk => by
    have := joinTo_len s.data.toList (l.take k) (fun n hn => hl n (List.mem_of_mem_take hn))
    rw [← hsl, List.length_take, Nat.min_eq_left hk] at this
    exact this)
  have HL := Lib.hid hl
  have HENV := Lib.hid he
  have hB0 := bld_new w
  have hb0 := (Below.refl w.heap.size w).alloc (Nat.le_refl _) (.cells #[.pointer none, .slice none 0 0] 167)
  have CW := Lib.hid (write_any w.heap.size w.heap.size [] s _ hB0 (by simp; omega))
  clear hl he hsl
  go_enter Tryz.func169, Tryz.ntmps169
  go_wp2_with fail
  refine (CW.out).mono ?_
  rintro e w1 ⟨rfl, hB1, hb1⟩
  have hbb := hb0.trans (hb1.mono (Nat.le_refl _))
  rw [List.nil_append] at hB1
  clear hB0 hb0 hb1 CW
  go_wp2_with fail
  go_loopw [12] (fun i wr => ∃ k : Nat, k ≤ l.length ∧ i = .int .i64 k ∧ Bld w.heap.size w.heap.size (joinTo s.data.toList (l.take k)) wr ∧ Below w.heap.size w wr) (fun i _ => l.length - (intOf i).toNat)
  case atStart => exact ⟨0, by omega, rfl, by rw [List.take_zero, joinTo_nil]; exact hB1, hbb⟩
  case round =>
    obtain ⟨k, hk, rfl, hB, hb⟩ := hrel
    have hszr := hb.size
    by_cases hlt : k < l.length
    · have hki : (k : Int) < (l.length : Int) := by omega
      obtain ⟨b, off, hao, hc⟩ := (hI.below hb).at hlt
      cases hao
      have hxi := HL.out l[k] (List.getElem_mem hlt)
      have HS := Lib.hid (joinTo_succ s.data.toList l k hlt)
      have hlk := HLEN.out k hk
      generalize joinTo s.data.toList (l.take k) = A at *
      generalize l[k] = x at *
      have CW1 := Lib.hid (write_any w.heap.size w.heap.size A ⟨#[32]⟩ wr hB (by have : (⟨#[32]⟩ : ByteArray).size = 1 := rfl; omega))
      have HX := Lib.hid hxi
      clear hxi hB
      go_wp2_with fail
      refine (CW1.out).mono ?_
      rintro e w2 ⟨rfl, hB2, hb2⟩
      have hb2' := hb.trans hb2
      clear CW1
      go_wp2_with fail
      refine (itoa_ten x w2 (HENV.out.below hb2') HX.out).mono ?_
      rintro e w3 ⟨rfl, hb3⟩
      have hB3 := hB2.grown hb3
      have hb3' := hb2'.trans (hb3.mono hb2'.size)
      have htl := Lib.itoa_length_le x HX.out.1 HX.out.2
      have hts : (⟨(Lib.itoa x).toArray⟩ : ByteArray).size = (Lib.itoa x).length := by simp [ByteArray.size]
      have CW2 := Lib.hid (write_any w.heap.size w.heap.size _ ⟨(Lib.itoa x).toArray⟩ w3 hB3 (by rw [hts]; simp; omega))
      obtain ⟨t, ht⟩ : ∃ t : ByteArray, t = ⟨(Lib.itoa x).toArray⟩ := ⟨_, rfl⟩
      have HT := Lib.hid ht
      rw [← ht] at CW2
      rw [← ht]
      clear ht hts htl hB2 hB3 hb2' hb2 hb3
      go_wp2_with fail
      refine (CW2.out).mono ?_
      rintro e w4 ⟨rfl, hB4, hb4⟩
      have hb4' := hb3'.trans hb4
      go_wp2_with fail
      go_roundw
      case rel => exact ⟨k + 1, by omega, by go_num, by rw [HS.out]; have h := HT.out; subst h; simpa using hB4, hb4'⟩
      case measure => simp [intOf]; omega
    · obtain rfl : k = l.length := by omega
      have CS := Lib.hid (bld_string w.heap.size w.heap.size _ wr hB)
      have HJ : Hid (joinB s l = ⟨(joinTo s.data.toList (l.take l.length)).toArray⟩) := Lib.hid (by rw [List.take_length]; rfl)
      clear hB
      go_wp2_with fail
      refine (CS.out).mono ?_
      rintro e w' ⟨rfl, hbs⟩
      rw [← HJ.out]
      go_wp2_with fail
      go_ret
      exact ⟨rfl, hb.trans hbs⟩
/-- An operation in words. -/
def textB (wr : Bool) (key val : Int) : ByteArray := joinB (if wr then ⟨#[119]⟩ else ⟨#[114]⟩) [key, val]
set_option maxHeartbeats 1000000 in
theorem text_ten (wr : Bool) (key val : Int) (w : World) (he : Ten w) (hk : IntOk key) (hv : IntOk val) :
    Calls Tryz.prog 170 #[.agg #[.bool wr, .int .i64 key, .int .i64 val]] w fun e w' => e = .returned (.string (textB wr key val)) ∧ Below w.heap.size w w' := by
  have hb1 := box_below w (.cells #[.bool wr, .int .i64 key, .int .i64 val] 102)
  have hb2 := hb1.trans ((box_below (w.alloc (.cells #[.bool wr, .int .i64 key, .int .i64 val] 102)) (.cells #[.int .i64 key, .int .i64 val] 3)).mono (by simp))
  have hI := ints_lit (w.alloc (.cells #[.bool wr, .int .i64 key, .int .i64 val] 102)) [key, val] #[.int .i64 key, .int .i64 val] 2 rfl rfl (by decide)
  rw [show (w.alloc (.cells #[.bool wr, .int .i64 key, .int .i64 val] 102)).heap.size = w.heap.size + 1 from by simp] at hI
  have CJ := fun s => join_ten s _ [key, val] _ (he.below hb2) hI (by intro n hn; simp at hn; rcases hn with rfl | rfl <;> assumption)
  have HJ := Lib.hid CJ
  clear CJ he hk hv hb1 hI
  cases wr
  all_goals
    go_enter Tryz.func170, Tryz.ntmps170
    go_wp2_with fail
    refine (HJ.out _ (by show 1 + 22 * 2 ≤ 1000000000; omega)).mono ?_
    rintro e w' ⟨rfl, hb⟩
    go_wp2_with fail
    go_ret
    exact ⟨rfl, hb2.trans (hb.mono hb2.size)⟩
end Go.Proofs.YtflalehpdngklaaGreatDoor

namespace Go.Proofs.YtflalehpdngklaaGreatDoor
set_option maxRecDepth 100000
open Go.ChangeShapes Go.WideShapes Go.ChangeAt Go.RowKit

theorem gTenType : (Tryz.prog.globals[5]?).map (·.type) = some 267 := by kernel_rfl
theorem cellsTen : Tryz.prog.cellsOf 267 = 20 := by kernel_rfl
theorem cellsU64 : Tryz.prog.cellsOf 35 = 1 := by kernel_rfl
/-- A datum's cells, two steps deep. -/
def leafV : DataW Unit → List Value
  | .lit (.int k n) => [.int k n]
  | .lit (.bool b) => [.bool b]
  | _ => []
def leafVV : DataW Unit → List Value
  | .agg ds => ds.flatMap fun d => match d with
    | .agg es => es.flatMap leafV
    | d => leafV d
  | d => leafV d
def setG (h : Array Obj) (g : Nat) (d : DataW Unit) : Array Obj := h.modify g fun
  | .cells _ t frozen => .cells (leafVV d).toArray t frozen
  | o => o
end Go.Proofs.YtflalehpdngklaaGreatDoor

namespace Go.Proofs.YtflalehpdngklaaGreatDoor
set_option maxRecDepth 100000

/-- The pieces of a text between a byte. -/
def cutL (c : UInt8) : List UInt8 → List (List UInt8)
  | [] => [[]]
  | b :: l => if b = c then [] :: cutL c l else (b :: (cutL c l).headD []) :: (cutL c l).tail
theorem cutL_ne (c : UInt8) (l : List UInt8) : cutL c l ≠ [] := by
  cases l with
  | nil => simp [cutL]
  | cons b l => unfold cutL; split <;> simp
theorem cutL_length (c : UInt8) : ∀ l : List UInt8, (cutL c l).length = l.count c + 1
  | [] => rfl
  | b :: l => by
    have ih := cutL_length c l
    unfold cutL
    split
    · rename_i h; subst h; simp [ih]
    · rename_i h
      have : (b :: l).count c = l.count c := List.count_cons_of_ne (by simpa using h)
      rw [this]; simp [ih]
theorem cutL_none {c : UInt8} : ∀ {l : List UInt8}, (∀ x ∈ l, x ≠ c) → cutL c l = [l]
  | [], _ => rfl
  | b :: l, h => by
    have hb := h b List.mem_cons_self
    have ih := cutL_none (l := l) (fun x hx => h x (List.mem_cons_of_mem _ hx))
    unfold cutL
    rw [if_neg hb, ih]; rfl
theorem cutL_app {c : UInt8} (r : List UInt8) : ∀ {a : List UInt8}, (∀ x ∈ a, x ≠ c) → cutL c (a ++ c :: r) = a :: cutL c r
  | [], _ => by simp [cutL]
  | b :: a, h => by
    have hb := h b List.mem_cons_self
    have ih := cutL_app r (a := a) (fun x hx => h x (List.mem_cons_of_mem _ hx))
    rw [List.cons_append, cutL, if_neg hb, ih]; rfl
/-- No byte of what stands from one place to another one is the one that is cut at. -/
def Clear (c : UInt8) (l : List UInt8) (a i : Nat) : Prop := ∀ x ∈ (l.drop a).take (i - a), x ≠ c
theorem clear_nil (c : UInt8) (l : List UInt8) (a : Nat) : Clear c l a a := by intro x hx; simp at hx
theorem cut_hit {c : UInt8} {l : List UInt8} {a i : Nat} (h : Clear c l a i) (ha : a ≤ i) (hi : i < l.length) (he : l[i] = c) :
    cutL c (l.drop a) = (l.drop a).take (i - a) :: cutL c (l.drop (i + 1)) := by
  have e : l.drop a = (l.drop a).take (i - a) ++ c :: l.drop (i + 1) := by
    have h1 : (l.drop a).drop (i - a) = l.drop i := by rw [List.drop_drop]; congr 1; omega
    have h2 : l.drop i = c :: l.drop (i + 1) := by rw [List.drop_eq_getElem_cons hi, he]
    rw [← h2, ← h1, List.take_append_drop]
  calc cutL c (l.drop a) = cutL c ((l.drop a).take (i - a) ++ c :: l.drop (i + 1)) := by rw [← e]
    _ = _ := cutL_app _ h
theorem index_app (c : UInt8) (r : List UInt8) : ∀ (a : List UInt8), (∀ x ∈ a, x ≠ c) → Lib.index (a ++ c :: r) [c] = (a.length : Int)
  | [], _ => by rw [List.nil_append, Lib.index]; simp [List.isPrefixOf]
  | b :: a, h => by
    have hb := h b List.mem_cons_self
    have ih := index_app c r a (fun x hx => h x (List.mem_cons_of_mem _ hx))
    have hp : ([c] : List UInt8).isPrefixOf (b :: (a ++ c :: r)) = false := by simp [List.isPrefixOf, Ne.symm hb]
    rw [List.cons_append, Lib.index, hp, ih]
    have : ((a.length : Int) == -1) = false := by rw [beq_eq_false_iff_ne]; omega
    simp [this]
theorem first_of (c : UInt8) : ∀ (l : List UInt8), (∀ x ∈ l, x ≠ c) ∨ ∃ a r, l = a ++ c :: r ∧ ∀ x ∈ a, x ≠ c
  | [] => .inl (by simp)
  | b :: l => by
    by_cases hb : b = c
    · exact .inr ⟨[], l, by rw [hb]; rfl, by simp⟩
    · rcases first_of c l with h | ⟨a, r, rfl, h⟩
      · refine .inl fun x hx => ?_
        rcases List.mem_cons.1 hx with rfl | hx
        · exact hb
        · exact h x hx
      · refine .inr ⟨b :: a, r, rfl, fun x hx => ?_⟩
        rcases List.mem_cons.1 hx with rfl | hx
        · exact hb
        · exact h x hx
theorem splitK_cut (c : UInt8) : ∀ (k : Nat) (l : List UInt8), l.count c = k → Lib.splitK [c] 0 k l = cutL c l
  | 0, l, h => by
    have hn : ∀ x ∈ l, x ≠ c := by
      intro x hx e
      subst e
      exact absurd (List.count_pos_iff.2 hx) (by omega)
    rw [Lib.splitK, cutL_none hn]
  | k + 1, l, h => by
    rcases first_of c l with hn | ⟨a, r, rfl, ha⟩
    · exfalso
      have : l.count c = 0 := List.count_eq_zero.2 (fun hm => hn c hm rfl)
      omega
    · have hix := index_app c r a ha
      have hm : (Lib.index (a ++ c :: r) [c] == -1) = false := by rw [hix, beq_eq_false_iff_ne]; omega
      have hc : r.count c = k := by
        have : a.count c = 0 := List.count_eq_zero.2 (fun hm => ha c hm rfl)
        rw [List.count_append, List.count_cons_self, this] at h
        omega
      rw [Lib.splitK, hm, hix, cutL_app r ha]
      simp only [Bool.false_eq_true, if_false, Int.toNat_natCast, Nat.add_zero, List.length_cons, List.length_nil]
      have e1 : (a ++ c :: r).take a.length = a := by simp
      have e2 : (a ++ c :: r).drop (a.length + (0 + 1)) = r := by
        rw [show a ++ c :: r = (a ++ [c]) ++ r from by simp]
        rw [List.drop_append_of_le_length (by simp)]
        simp
      rw [e1, e2, splitK_cut c k r hc]
/-- The pieces as texts. -/
def cutB (c : UInt8) (s : ByteArray) : List ByteArray := (cutL c s.data.toList).map fun l => ⟨l.toArray⟩
theorem byteArray_ext {a b : ByteArray} (h : a.data.toList = b.data.toList) : a = b := by
  obtain ⟨⟨a⟩⟩ := a; obtain ⟨⟨b⟩⟩ := b; simp at h; rw [h]
theorem splitB_cut (c : UInt8) (s : ByteArray) : Lib.splitB ⟨#[c]⟩ 0 (Lib.countB s ⟨#[c]⟩) s = cutB c s := by
  have h := Lib.splitB_data ⟨#[c]⟩ 0 (Lib.countB s ⟨#[c]⟩) s
  have hc : Lib.countB s ⟨#[c]⟩ = s.data.toList.count c := Lib.count_one c _
  rw [hc] at h ⊢
  rw [show (⟨#[c]⟩ : ByteArray).data.toList = [c] from rfl, splitK_cut c _ _ rfl] at h
  unfold cutB
  rw [← h, List.map_map]
  symm
  calc _ = (Lib.splitB ⟨#[c]⟩ 0 (s.data.toList.count c) s).map id := List.map_congr_left (fun a _ => byteArray_ext (by simp))
    _ = _ := List.map_id _
theorem countB_cut (c : UInt8) (s : ByteArray) : Lib.countB s ⟨#[c]⟩ = s.data.toList.count c := Lib.count_one c _
theorem cutB_length (c : UInt8) (s : ByteArray) : (cutB c s).length = s.data.toList.count c + 1 := by
  unfold cutB; rw [List.length_map, cutL_length]

/-- Is a byte a digit? -/
def isD (b : UInt8) : Bool := decide (48 ≤ b.toNat) && decide (b.toNat ≤ 57)
/-- What digits say. -/
def valL (l : List UInt8) : Nat := l.foldl (fun n b => n * 10 + (b.toNat - 48)) 0
/-- Is a word one number at least ahead of which there stands a nought? -/
def nought (l : List UInt8) : Bool := decide (1 < l.length) && (l.headD 0 == 48)
/-- Is a word a number? -/
def okN (l : List UInt8) : Bool := decide (0 < l.length) && l.all isD && !nought l && decide (valL l ≤ 2147483647)
def numV (l : List UInt8) : Nat := if okN l = true then valL l else 0
theorem valL_snoc (l : List UInt8) (b : UInt8) : valL (l ++ [b]) = valL l * 10 + (b.toNat - 48) := by unfold valL; rw [List.foldl_append]; rfl
theorem valL_mono (r : List UInt8) : ∀ l : List UInt8, valL l ≤ valL (l ++ r) := by
  induction r with
  | nil => intro l; simp
  | cons b r ih =>
    intro l
    have h1 := ih (l ++ [b])
    rw [List.append_assoc, List.singleton_append] at h1
    have h2 := valL_snoc l b
    omega
theorem valL_take_le (l : List UInt8) (k : Nat) : valL (l.take k) ≤ valL l := by
  have := valL_mono (l.drop k) (l.take k)
  rwa [List.take_append_drop] at this
theorem valL_take_succ (l : List UInt8) (k : Nat) (hk : k < l.length) : valL (l.take (k + 1)) = valL (l.take k) * 10 + (l[k].toNat - 48) := by
  rw [List.take_succ_eq_append_getElem hk, valL_snoc]
theorem okN_empty {l : List UInt8} (h : l.length = 0) : okN l = false := by
  unfold okN; simp [h]
theorem okN_nought {l : List UInt8} (h : nought l = true) : okN l = false := by
  unfold okN; simp [h]
theorem okN_digit {l : List UInt8} {k : Nat} (hk : k < l.length) (h : isD l[k] = false) : okN l = false := by
  unfold okN
  have : l.all isD = false := by
    rw [List.all_eq_false]
    exact ⟨l[k], List.getElem_mem hk, by simp [h]⟩
  simp [this]
theorem okN_big {l : List UInt8} {k : Nat} (h : 2147483647 < valL (l.take k)) : okN l = false := by
  unfold okN
  have := valL_take_le l k
  have : decide (valL l ≤ 2147483647) = false := by simp; omega
  simp [this]
theorem numV_no {l : List UInt8} (h : okN l = false) : numV l = 0 := by unfold numV; simp [h]
/-- All bytes ahead of a place are digits. -/
def digTo (l : List UInt8) (k : Nat) : Prop := ∀ b ∈ l.take k, isD b = true
theorem digTo_zero (l : List UInt8) : digTo l 0 := by intro b hb; simp at hb
theorem digTo_succ {l : List UInt8} {k : Nat} (h : digTo l k) (hk : k < l.length) (hd : isD l[k] = true) : digTo l (k + 1) := by
  intro b hb
  rw [List.take_succ_eq_append_getElem hk, List.mem_append] at hb
  rcases hb with hb | hb
  · exact h b hb
  · rw [List.mem_singleton] at hb; subst hb; exact hd
theorem okN_yes {l : List UInt8} (h0 : 0 < l.length) (hn : nought l = false) (hd : digTo l l.length) (hv : valL (l.take l.length) ≤ 2147483647) : okN l = true ∧ numV l = valL (l.take l.length) := by
  rw [List.take_length] at hv
  have h1 : okN l = true := by
    unfold okN
    have : l.all isD = true := by
      rw [List.all_eq_true]
      intro b hb
      exact hd b (by rw [List.take_length]; exact hb)
    simp [h0, hn, this, hv]
  exact ⟨h1, by unfold numV; rw [if_pos h1, List.take_length]⟩
theorem numV_le (l : List UInt8) : numV l ≤ 2147483647 := by
  unfold numV
  split
  · rename_i h; unfold okN at h; simp at h; exact h.2
  · omega

/-! ### Numerals -/
theorem isD_ofNat {d : Nat} (h : d < 10) : isD (UInt8.ofNat (48 + d)) = true ∧ (UInt8.ofNat (48 + d)).toNat = 48 + d := by
  have e : (UInt8.ofNat (48 + d)).toNat = 48 + d := by rw [UInt8.toNat_ofNat']; omega
  refine ⟨?_, e⟩
  unfold isD; rw [e]; simp; omega
theorem dec_small {u : Nat} (h : u < 10) : Lib.decDigits u = [UInt8.ofNat (48 + u)] := by rw [Lib.decDigits, dif_pos h]
theorem dec_big {u : Nat} (h : ¬ u < 10) : Lib.decDigits u = Lib.decDigits (u / 10) ++ [UInt8.ofNat (48 + u % 10)] := by rw [Lib.decDigits, dif_neg h]
theorem dec_all (u : Nat) : (∀ b ∈ Lib.decDigits u, isD b = true) ∧ valL (Lib.decDigits u) = u ∧ 0 < (Lib.decDigits u).length ∧ (0 < u → (Lib.decDigits u).headD 0 ≠ 48) := by
  induction u using Nat.strongRecOn with
  | _ u ih =>
    by_cases h : u < 10
    · obtain ⟨h1, h2⟩ := isD_ofNat h
      rw [dec_small h]
      refine ⟨?_, ?_, by simp, ?_⟩
      · intro b hb; rw [List.mem_singleton] at hb; subst hb; exact h1
      · unfold valL; simp only [List.foldl_cons, List.foldl_nil, h2]; omega
      · intro h0 he
        have : (UInt8.ofNat (48 + u)).toNat = 48 := by rw [show UInt8.ofNat (48 + u) = 48 from he]; rfl
        omega
    · obtain ⟨i1, i2, i3, i4⟩ := ih (u / 10) (by omega)
      obtain ⟨h1, h2⟩ := isD_ofNat (Nat.mod_lt u (by decide : 0 < 10))
      rw [dec_big h]
      refine ⟨?_, ?_, by simp, ?_⟩
      · intro b hb
        rw [List.mem_append] at hb
        rcases hb with hb | hb
        · exact i1 b hb
        · rw [List.mem_singleton] at hb; subst hb; exact h1
      · rw [valL_snoc, i2, h2]; omega
      · intro _
        have := i4 (by omega)
        cases hd : Lib.decDigits (u / 10) with
        | nil => rw [hd] at i3; simp at i3
        | cons a r => rw [hd] at this; simpa using this
theorem dec_nought (u : Nat) : nought (Lib.decDigits u) = false := by
  unfold nought
  by_cases h : u < 10
  · rw [dec_small h]; rfl
  · have h4 := (dec_all u).2.2.2 (by omega)
    have : ((Lib.decDigits u).headD 0 == 48) = false := by simpa using h4
    rw [this]; simp
theorem numV_dec {u : Nat} (h : u ≤ 2147483647) : okN (Lib.decDigits u) = true ∧ numV (Lib.decDigits u) = u := by
  obtain ⟨h1, h2, h3, _⟩ := dec_all u
  have hk : okN (Lib.decDigits u) = true := by
    unfold okN
    have : (Lib.decDigits u).all isD = true := List.all_eq_true.2 h1
    simp [this, h3, dec_nought, h2, h]
  exact ⟨hk, by unfold numV; rw [if_pos hk, h2]⟩
end Go.Proofs.YtflalehpdngklaaGreatDoor

namespace Go.Proofs.YtflalehpdngklaaGreatDoor
set_option maxRecDepth 100000
open Go.RowKit

theorem ret_nb {a a' : Int} {b b' : Bool} (h : a = a') (k : b = b') : Ending.returned (.tuple #[.int .i64 a, .bool b]) = .returned (.tuple #[.int .i64 a', .bool b']) := by rw [h, k]
theorem at_data {s : ByteArray} {k : Nat} (h : k < s.size) : k < s.data.toList.length ∧ ∀ h', s.data.toList[k]'h' = s[k] := by
  have e : s.data.toList.length = s.size := (Lib.size_eq s).symm
  exact ⟨by omega, fun _ => rfl⟩
theorem empty_of {s : ByteArray} (h : s.size = 0) : s.toList = [] ∧ s.toList.isEmpty = true := by
  have : s.data.toList = [] := List.eq_nil_of_length_eq_zero (by rw [← Lib.size_eq]; exact h)
  rw [ByteArray.toList_eq, this]; exact ⟨rfl, rfl⟩
theorem some_of {s : ByteArray} (h : 0 < s.size) : (¬ s.toList = []) ∧ s.toList.isEmpty = false := by
  have : s.data.toList ≠ [] := by
    intro e
    have := Lib.size_eq s
    rw [e, List.length_nil] at this; omega
  rw [ByteArray.toList_eq]
  exact ⟨this, by cases h : s.data.toList with | nil => exact absurd h this | cons a l => rfl⟩
theorem headD_at : ∀ (l : List UInt8) (h : 0 < l.length), l.headD 0 = l[0]
  | _ :: _, _ => rfl
theorem nought_of {s : ByteArray} (h : 1 < s.size) : nought s.data.toList = ((s[0].toNat : Int) == 48) := by
  have hl := Lib.size_eq s
  obtain ⟨h0, e⟩ := at_data (s := s) (k := 0) (by omega)
  unfold nought
  have : s.data.toList.headD 0 = s[0] := by
    rw [← e h0]; exact headD_at _ h0
  rw [this, ← hl]
  have h1 : decide (1 < s.size) = true := by simp; omega
  rw [h1, Bool.true_and, Bool.eq_iff_iff, beq_iff_eq, beq_iff_eq]
  constructor
  · intro h; rw [h]; rfl
  · intro h; exact UInt8.toNat_inj.1 (by simpa using (by omega : s[0].toNat = 48))
theorem nought_one {s : ByteArray} (h : s.size = 1) : nought s.data.toList = false := by
  unfold nought; rw [← Lib.size_eq s, h]; rfl
/-- The loop of Number, behind its first look. -/
def NumAt (l : List UInt8) (k : Nat) (v : Nat) : Prop := digTo l k ∧ v = valL (l.take k) ∧ v ≤ 2147483647
theorem NumAt.start (l : List UInt8) : NumAt l 0 0 := ⟨digTo_zero l, rfl, by omega⟩
theorem isD_iff (b : UInt8) : isD b = true ↔ 48 ≤ b.toNat ∧ b.toNat ≤ 57 := by unfold isD; simp
theorem NumAt.next {s : ByteArray} {k v : Nat} (h : NumAt s.data.toList k v) (hk : k < s.size) (h0 : 48 ≤ s[k].toNat) (h1 : s[k].toNat ≤ 57) (h2 : v * 10 + (s[k].toNat - 48) ≤ 2147483647) :
    NumAt s.data.toList (k + 1) (v * 10 + (s[k].toNat - 48)) := by
  obtain ⟨hl, e⟩ := at_data hk
  obtain ⟨hd, rfl, _⟩ := h
  exact ⟨digTo_succ hd hl (by rw [e hl]; exact (isD_iff _).2 ⟨h0, h1⟩), by rw [valL_take_succ _ _ hl, e hl], h2⟩
theorem NumAt.no {s : ByteArray} {k v : Nat} (h : NumAt s.data.toList k v) (hk : k < s.size) (hn : s[k].toNat < 48 ∨ 57 < s[k].toNat ∨ 2147483647 < v * 10 + (s[k].toNat - 48)) : okN s.data.toList = false := by
  obtain ⟨hl, e⟩ := at_data hk
  obtain ⟨hd, rfl, _⟩ := h
  have hx : isD s[k] = false → okN s.data.toList = false := fun h => okN_digit hl (by rw [e hl]; exact h)
  rcases hn with hn | hn | hn
  · exact hx (by cases h : isD s[k]; rfl; have := (isD_iff _).1 h; omega)
  · exact hx (by cases h : isD s[k]; rfl; have := (isD_iff _).1 h; omega)
  · exact okN_big (k := k + 1) (by rw [valL_take_succ _ _ hl, e hl]; exact hn)
theorem NumAt.yes {s : ByteArray} {k v : Nat} (h : NumAt s.data.toList k v) (hk : k = s.size) (h0 : 0 < s.size) (hn : nought s.data.toList = false) : okN s.data.toList = true ∧ numV s.data.toList = v := by
  have hl := Lib.size_eq s
  subst hk
  obtain ⟨hd, rfl, hv⟩ := h
  rw [hl] at hd hv h0 ⊢
  exact okN_yes h0 hn hd hv
theorem num_step (v c : Nat) (h : 48 ≤ c) : ((v : Int) * 10 + ((c : Int) - 48)) = ((v * 10 + (c - 48) : Nat) : Int) := by omega
set_option maxHeartbeats 1000000 in
theorem number_any (s : ByteArray) (w : World) (hs : s.size ≤ maxLen) :
    Calls Tryz.prog 189 #[.string s] w fun e w' => e = .returned (.tuple #[.int .i64 ((numV s.data.toList : Nat) : Int), .bool (okN s.data.toList)]) ∧ w = w' := by
  unfold maxLen at hs
  by_cases h0 : s.size = 0
  · obtain ⟨h1, h2⟩ := empty_of h0
    have hk := okN_empty (l := s.data.toList) (by rw [← Lib.size_eq]; exact h0)
    have H := Lib.hid (show (0 : Int) = ((numV s.data.toList : Nat) : Int) ∧ false = okN s.data.toList from ⟨by rw [numV_no hk]; rfl, hk.symm⟩)
    clear hk h0
    go_enter Tryz.func189, Tryz.ntmps189
    go_wp2_with fail
    go_ret2
    exact ⟨ret_nb H.out.1 H.out.2, rfl⟩
  have hpos : 0 < s.size := by omega
  obtain ⟨h1, h2⟩ := some_of hpos
  clear h0
  by_cases hno : nought s.data.toList = true
  · have hk := okN_nought hno
    have H := Lib.hid (show (0 : Int) = ((numV s.data.toList : Nat) : Int) ∧ false = okN s.data.toList from ⟨by rw [numV_no hk]; rfl, hk.symm⟩)
    have hl : 1 < s.size := by
      by_cases h : s.size = 1
      · rw [nought_one h] at hno; cases hno
      · omega
    have hl' : (1 : Int) < (s.size : Int) := by omega
    have h48 := nought_of hl
    rw [hno] at h48
    have h48' : ((s[0].toNat : Int) == 48) = true := h48.symm
    clear hk hno h48
    go_enter Tryz.func189, Tryz.ntmps189
    go_wp2_with fail
    go_ret2
    exact ⟨ret_nb H.out.1 H.out.2, rfl⟩
  have hno' : nought s.data.toList = false := by simpa using hno
  have HNO := Lib.hid hno'
  clear hno hno'
  have HS : Hid (NumAt s.data.toList 0 0) := Lib.hid (NumAt.start _)
  rcases Nat.lt_or_ge 1 s.size with hl | hl
  case' inl =>
    have hl' : (1 : Int) < (s.size : Int) := by omega
    have h48 := nought_of hl
    rw [HNO.out] at h48
    have h48' : ((s[0].toNat : Int) == 48) = false := h48.symm
    clear h48
  case' inr =>
    have hl' : ¬ (1 : Int) < (s.size : Int) := by omega
  all_goals
    go_enter Tryz.func189, Tryz.ntmps189
    go_wp2_with fail
    go_loop [4, 21] (fun n i => ∃ k v : Nat, k ≤ s.size ∧ i = .int .i64 k ∧ n = .int .i64 v ∧ NumAt s.data.toList k v) (fun _ i => s.size - (intOf i).toNat)
    case atStart => exact ⟨0, 0, by omega, rfl, rfl, HS.out⟩
    case round =>
      obtain ⟨k, v, hk, rfl, rfl, hat⟩ := hrel
      have hv : (v : Int) ≤ 2147483647 := by have := hat.2.2; omega
      have hv0 : (0 : Int) ≤ (v : Int) := by omega
      have HAT := Lib.hid hat
      clear hat h1 h2
      by_cases hlt : k < s.size
      · have hki : (k : Int) < (s.size : Int) := by omega
        have hb : s[k].toNat < 256 := UInt8.toNat_lt _
        by_cases hbad : s[k].toNat < 48 ∨ 57 < s[k].toNat ∨ 2147483647 < v * 10 + (s[k].toNat - 48)
        · have hk0 := HAT.out.no hlt hbad
          have H := Lib.hid (show (0 : Int) = ((numV s.data.toList : Nat) : Int) ∧ false = okN s.data.toList from ⟨by rw [numV_no hk0]; rfl, hk0.symm⟩)
          clear hk0
          by_cases c1 : (s[k].toNat : Int) - 48 < 0
          · go_wp2_with fail
            go_ret2
            exact ⟨ret_nb H.out.1 H.out.2, rfl⟩
          · by_cases c2 : 9 < (s[k].toNat : Int) - 48
            · go_wp2_with fail
              go_ret2
              exact ⟨ret_nb H.out.1 H.out.2, rfl⟩
            · have c3 : (2147483647 - ((s[k].toNat : Int) - 48)) / 10 < (v : Int) := by omega
              go_wp2_with fail
              go_ret2
              exact ⟨ret_nb H.out.1 H.out.2, rfl⟩
        · have b1 : 48 ≤ s[k].toNat := by omega
          have b2 : s[k].toNat ≤ 57 := by omega
          have b3 : v * 10 + (s[k].toNat - 48) ≤ 2147483647 := by omega
          have HN := Lib.hid (HAT.out.next hlt b1 b2 b3)
          have HE := Lib.hid (num_step v s[k].toNat b1)
          have c1 : ¬ (s[k].toNat : Int) - 48 < 0 := by omega
          have c2 : ¬ 9 < (s[k].toNat : Int) - 48 := by omega
          have c3 : ¬ (2147483647 - ((s[k].toNat : Int) - 48)) / 10 < (v : Int) := by omega
          have c4 : (v : Int) * 10 + ((s[k].toNat : Int) - 48) ≤ 2147483647 := by omega
          clear hbad b3
          go_wp2_with fail
          go_round
          case rel => exact ⟨k + 1, _, by omega, by go_num, by rw [HE.out], HN.out⟩
          case measure => simp [intOf]; omega
      · obtain ⟨e1, e2⟩ := HAT.out.yes (by omega) hpos HNO.out
        have H := Lib.hid (show ((v : Nat) : Int) = ((numV s.data.toList : Nat) : Int) ∧ true = okN s.data.toList from ⟨by rw [e2], e1.symm⟩)
        clear e1 e2
        go_wp2_with fail
        go_ret2
        exact ⟨ret_nb H.out.1 H.out.2, rfl⟩
end Go.Proofs.YtflalehpdngklaaGreatDoor

namespace Go.Proofs.YtflalehpdngklaaGreatDoor
set_option maxRecDepth 100000
open Go.RowKit

/-- The loop of the reference's Number. -/
def RNumAt (l : List UInt8) (k : Nat) (v : Nat) : Prop := digTo l k ∧ v = valL (l.take k) ∧ v < 10 ^ k
theorem RNumAt.start (l : List UInt8) : RNumAt l 0 0 := ⟨digTo_zero l, rfl, by decide⟩
theorem RNumAt.next {s : ByteArray} {k v : Nat} (h : RNumAt s.data.toList k v) (hk : k < s.size) (h0 : 48 ≤ s[k].toNat) (h1 : s[k].toNat ≤ 57) :
    RNumAt s.data.toList (k + 1) (v * 10 + (s[k].toNat - 48)) := by
  obtain ⟨hl, e⟩ := at_data hk
  obtain ⟨hd, rfl, hv⟩ := h
  exact ⟨digTo_succ hd hl (by rw [e hl]; exact (isD_iff _).2 ⟨h0, h1⟩), by rw [valL_take_succ _ _ hl, e hl], by rw [Nat.pow_succ]; omega⟩
theorem RNumAt.no {s : ByteArray} {k : Nat} (hk : k < s.size) (hn : s[k].toNat < 48 ∨ 57 < s[k].toNat) : okN s.data.toList = false := by
  obtain ⟨hl, e⟩ := at_data hk
  refine okN_digit hl ?_
  rw [e hl]
  cases h : isD s[k]
  · rfl
  · have := (isD_iff _).1 h; omega
end Go.Proofs.YtflalehpdngklaaGreatDoor

namespace Go.Proofs.YtflalehpdngklaaGreatDoor
set_option maxRecDepth 100000

/-- The numbers of a set below k, rising. -/
def lstTo (s k : Nat) : List Nat := (List.range k).filter fun i => s.testBit i
def lst (s : Nat) : List Nat := lstTo s 64
/-- The least number of a set, 64 where it is empty. -/
def fst (s : Nat) : Nat := (lst s).headD 64

theorem lstTo_len (s k : Nat) : (lstTo s k).length ≤ k := by
  unfold lstTo
  have := List.length_filter_le (fun i => s.testBit i) (List.range k)
  simpa using this
theorem mem_lst {s i : Nat} : i ∈ lst s ↔ i < 64 ∧ s.testBit i = true := by simp [lst, lstTo]
theorem mem_lst' {s i : Nat} (hs : IsSet s) : i ∈ lst s ↔ s.testBit i = true := by
  rw [mem_lst]
  constructor
  · exact fun h => h.2
  · intro h
    refine ⟨?_, h⟩
    by_cases h2 : i < 64
    · exact h2
    · rw [hs.high (by omega)] at h; cases h
theorem lst_nodup (s : Nat) : (lst s).Nodup := List.Pairwise.filter _ List.nodup_range
theorem lst_nil {s : Nat} (hs : IsSet s) (h : lst s = []) : s = 0 := by
  apply set_ext hs (by unfold IsSet; omega)
  intro i hi
  cases hb : s.testBit i
  · simp
  · have : i ∈ lst s := mem_lst.2 ⟨hi, hb⟩
    rw [h] at this; cases this
theorem lst_woS (s : Nat) (n : Nat) (hn : n < 64) : lst (woS s (n : Int)) = (lst s).filter (fun i => i != n) := by
  unfold lst lstTo
  rw [List.filter_filter]
  apply List.filter_congr
  intro i _
  rw [testBit_woS]
  have : (0 ≤ (n : Int) ∧ (n : Int) < 64) := by omega
  simp only [this, and_self, decide_true, Bool.true_and, Int.toNat_natCast, bne]
  rw [Bool.and_comm]
  congr 2
  rw [Bool.eq_iff_iff]; simp; exact ⟨fun h => h.symm, fun h => h.symm⟩
theorem lst_cons {s : Nat} (h : lst s ≠ []) : lst s = fst s :: lst (woS s (fst s : Int)) := by
  unfold fst
  match e : lst s with
  | [] => exact absurd e h
  | a :: t =>
    have ha : a < 64 := (mem_lst.1 (e ▸ List.mem_cons_self : a ∈ lst s)).1
    simp only [List.headD_cons]
    rw [lst_woS s a ha, e]
    have hn := e ▸ lst_nodup s
    rw [List.nodup_cons] at hn
    rw [List.filter_cons]
    simp
    symm
    rw [List.filter_eq_self]
    intro b hb
    simp
    rintro rfl
    exact hn.1 hb
theorem fst_mem {s : Nat} (h : lst s ≠ []) : fst s ∈ lst s := by
  rw [lst_cons h]; exact List.mem_cons_self
/-! ### The lowest bit, as the library finds it -/
/-- The library's table. -/
def deB : List Int := [0, 1, 56, 2, 57, 49, 28, 3, 61, 58, 42, 50, 38, 29, 17, 4, 62, 47, 59, 36, 45, 43, 51, 22, 53, 39, 33, 30, 24, 18, 12, 5, 63, 55, 48, 27, 60, 41, 37, 16, 46, 35, 44, 21, 52, 32, 23, 11, 54, 26, 40, 15, 34, 20, 31, 10, 25, 14, 19, 9, 13, 8, 7, 6]
/-! ### How many bits, as the library counts them -/
def f1 (b : Nat) : Nat := (b / 2 &&& 0x55) + (b &&& 0x55)
def f2 (b : Nat) : Nat := (b / 4 &&& 0x33) + (b &&& 0x33)
def f3 (b : Nat) : Nat := (b / 16 + b) &&& 0x0f
def mk (c : Nat) : Nat → Nat
  | 0 => 0
  | k + 1 => 256 * mk c k + c
/-! ### The library's steps, as the walk writes them -/
end Go.Proofs.YtflalehpdngklaaGreatDoor

namespace Go.Proofs.YtflalehpdngklaaGreatDoor
set_option maxRecDepth 100000
open Go.RowKit

/-- The library's table lies in memory. -/
def Tab (w : World) : Prop := ∀ i, i < 64 → w.cell? ⟨1, i, none⟩ = some (.int .u8 (deB.getD i 0))
theorem Tab.pos {w : World} (h : Tab w) : 1 < w.heap.size := by
  have := h 0 (by omega)
  by_cases h0 : 1 < w.heap.size
  · exact h0
  · simp [World.cell?, Array.getElem?_eq_none (Nat.le_of_not_lt h0)] at this
theorem Tab.below {w w' : World} {B : Nat} (h : Tab w) (hb : Below B w w') (hB : 1 < B) : Tab w' :=
  fun i hi => (hb.cell (p := ⟨1, i, none⟩) hB).trans (h i hi)

/-- Are all numbers of a set in another one? -/
def inB (s t : Nat) : Bool := (s ^^^ (s &&& t)) == 0
theorem bits_in (s t : Nat) (hs : IsSet s) (ht : IsSet t) : (Go.bits .andNot .u64 (s : Int) (t : Int) == 0) = inB s t := by
  rw [bits_andNot_u64_nat s t hs ht, inB, Bool.eq_iff_iff]; simp
set_option maxHeartbeats 400000 in
theorem within_any (s t : Nat) (w : World) (hs : IsSet s) (ht : IsSet t) :
    Calls Tryz.prog 109 #[.int .u64 (s : Int), .int .u64 (t : Int)] w fun e w' => e = .returned (.bool (inB s t)) ∧ w = w' := by
  have H := Lib.hid (bits_in s t hs ht)
  clear hs ht
  go_enter Tryz.func109, Tryz.ntmps109
  go_wp2
  go_ret
  exact ⟨ret_b H.out, rfl⟩

end Go.Proofs.YtflalehpdngklaaGreatDoor

namespace Go.Proofs.YtflalehpdngklaaGreatDoor
set_option maxRecDepth 100000
open Go.RowKit

theorem infoInt : (Tryz.prog.info? 3).map (fun i => (i.zero, i.size, i.bytes)) = some (some (.int .i64 0), 1, 8) := by kernel_rfl
theorem below_app {B : Nat} {W wr w1 : World} {o : Obj} {e : TypeId} {n size : Nat} {v : Value} {xs : List Value} (hb : Below B W wr) (hB : B ≤ W.heap.size) (hown : wr.ownsRow B e size v n xs)
    (hg : (wr.alloc o).grownBy w1 v.ownBlock) : Below B W w1 :=
  (hb.alloc (Nat.le_trans hB hb.size) o).grown hg (by have := hb.size; simp; omega) fun k hk => (hown.lt k hk).1

end Go.Proofs.YtflalehpdngklaaGreatDoor

namespace Go.Proofs.YtflalehpdngklaaGreatDoor
set_option maxRecDepth 100000
open Go.RowKit

/-- The slice v holds these texts. -/
def Strs (w : World) (v : Value) (xs : List ByteArray) : Prop := Row w v xs.length 1 (xs.map Value.string)
theorem Strs.below {w w' : World} {v : Value} {xs : List ByteArray} (h : Strs w v xs) (hb : Below w.heap.size w w') : Strs w' v xs := Row.below h hb
theorem Strs.of_owns {w : World} {base : Nat} {e : TypeId} {v : Value} {n : Nat} {xs : List ByteArray} (h : w.ownsRow base e 1 v n (xs.map Value.string)) : Strs w v xs := by
  have hr := Row.of_owns h
  have hn : n = xs.length := by have := h.1; simp at this; omega
  subst hn; exact hr
theorem Strs.form {w : World} {v : Value} {xs : List ByteArray} (h : Strs w v xs) : ∃ ao cap, v = .slice ao xs.length cap ∧ (xs.length ≤ cap ∧ cap ≤ 9223372036854775807) ∧ (ao = none → xs.length = 0 ∧ cap = 0) := by
  obtain ⟨_, ao, cap, rfl, hm, hno, _⟩ := h
  exact ⟨ao, cap, rfl, hm, hno⟩
theorem Strs.at {w : World} {ao : Option Addr} {n cap : Nat} {xs : List ByteArray} (h : Strs w (.slice ao n cap) xs) {k : Nat} (hk : k < xs.length) :
    ∃ b off, ao = some ⟨b, off, none⟩ ∧ w.cell? ⟨b, off + k, none⟩ = some (.string xs[k]) := by
  obtain ⟨_, ao', cap', he, hm, _, hc⟩ := h
  obtain ⟨rfl, _, _⟩ : ao = ao' ∧ n = xs.length ∧ cap = cap' := by simpa using he
  obtain ⟨b, off, rfl, hcell⟩ := hc (by omega)
  refine ⟨b, off, rfl, ?_⟩
  rw [hcell k (by omega)]
  simp [List.getElem?_eq_getElem hk]
/-- The pieces ahead of a place, where the last one is yet to come. -/
def CutAt (c : UInt8) (s : ByteArray) (a i : Nat) (acc : List ByteArray) : Prop := a ≤ i ∧ acc.length ≤ a ∧ Clear c s.data.toList a i ∧ cutB c s = acc ++ (cutL c (s.data.toList.drop a)).map fun l => ⟨l.toArray⟩
theorem CutAt.start (c : UInt8) (s : ByteArray) : CutAt c s 0 0 [] := ⟨by omega, by simp, clear_nil _ _ _, by simp [cutB]⟩
theorem ext_list (s : ByteArray) (a b : Nat) : s.extract a b = ⟨((s.data.toList.drop a).take (b - a)).toArray⟩ := by
  apply byteArray_ext
  simp [ByteArray.extract, ByteArray.copySlice, List.extract_eq_take_drop]
theorem CutAt.hit {c : UInt8} {s : ByteArray} {a i : Nat} {acc : List ByteArray} (h : CutAt c s a i acc) (hi : i < s.size) (hc : s[i] = c) : CutAt c s (i + 1) (i + 1) (acc ++ [s.extract a i]) := by
  obtain ⟨h1, h2, h3, h4⟩ := h
  obtain ⟨hl, e⟩ := at_data hi
  refine ⟨by omega, by simp; omega, clear_nil _ _ _, ?_⟩
  rw [h4, cut_hit h3 h1 hl (by rw [e hl]; exact hc), ext_list]
  simp
end Go.Proofs.YtflalehpdngklaaGreatDoor

namespace Go.Proofs.YtflalehpdngklaaGreatDoor
set_option maxRecDepth 100000
open Go.RowKit

/-- The library's variables are as a start leaves them. -/
def Env (w : World) : Prop := Lib.TabIs Tryz.prog w "internal/strconv.uint64pow10" .u64 Lib.pow10Tab ∧ ∃ m, w.cell? ⟨2, 0, none⟩ = some (.int .i64 m)
theorem Env.pos {w : World} (h : Env w) : 5 < w.heap.size := by
  have := h.1.cell gTen 0 (by decide)
  exact block_lt this
theorem Env.below {w w' : World} (h : Env w) (hb : Below w.heap.size w w') : Env w' := by
  refine ⟨?_, ?_⟩
  · exact var?_below hb gTen h.pos h.1
  · obtain ⟨m, hm⟩ := h.2
    exact ⟨m, by rw [hb.cell (p := ⟨2, 0, none⟩) (block_lt hm)]; exact hm⟩
theorem count_byte (s : ByteArray) (c : UInt8) (w : World) :
    Calls Tryz.prog 187 #[.string s, .string ⟨#[c]⟩] w fun e w' => e = .returned (.int .i64 (((cutB c s).length : Int) - 1)) ∧ w = w' :=
  (Tryz.strings_Count_one s c w).mono fun e w' ⟨he, hw⟩ => ⟨by
    rw [he, cutB_length]
    show Ending.returned (Value.int .i64 ((s.data.toList.count c : Nat) : Int)) = _
    congr 2; omega, hw.symm⟩
theorem split_byte (s : ByteArray) (c : UInt8) (w : World) (he : Env w) (hs : s.size ≤ 100000) :
    Calls Tryz.prog 165 #[.string s, .string ⟨#[c]⟩] w fun e w' => e = .returned (.slice (some ⟨w.heap.size, 0, none⟩) (cutB c s).length (cutB c s).length) ∧ w' = w.alloc (.cells ((cutB c s).map Value.string).toArray 9) := by
  obtain ⟨_, m, hm⟩ := he
  refine (Tryz.strings_Split s ⟨#[c]⟩ m w (by omega) hm (Nat.le_refl 1)).mono fun e w' ⟨he, hw⟩ => ?_
  rw [countB_cut, ← cutB_length] at he
  rw [splitB_cut] at hw
  exact ⟨he, hw⟩
theorem cut_len_le (c : UInt8) (s : ByteArray) : (cutB c s).length ≤ s.size + 1 ∧ 1 ≤ (cutB c s).length := by
  rw [cutB_length]
  have : s.data.toList.count c ≤ s.data.toList.length := List.count_le_length
  have := Lib.size_eq s
  omega
theorem strs_lit (w : World) (xs : List ByteArray) (hm : xs.length ≤ maxLen) :
    Strs (w.alloc (.cells (xs.map Value.string).toArray 9)) (.slice (some ⟨w.heap.size, 0, none⟩) xs.length xs.length) xs := by
  have h := World.ownsRow_lit (base := 0) (e := 9) (size := 1) w (xs.map Value.string).toArray xs.length (Nat.zero_le _) hm (by simp)
  exact Strs.of_owns (by simpa using h)
/-- The lines of a text; and whether the last one is ended. -/
def linesB (s : ByteArray) : List ByteArray := (cutB 10 s).dropLast
def endedB (s : ByteArray) : Bool := ((cutB 10 s).getLastD ⟨#[]⟩).toList.isEmpty
theorem Strs.cut {w : World} {b n : Nat} {P : List ByteArray} (h : Strs w (.slice (some ⟨b, 0, none⟩) (n + 1) (n + 1)) P) : Strs w (.slice (some ⟨b, 0, none⟩) n n) P.dropLast := by
  obtain ⟨hl, ao, cap, he, hm, hno, hc⟩ := h
  obtain ⟨rfl, hpl, rfl⟩ : some ⟨b, 0, none⟩ = ao ∧ n + 1 = P.length ∧ n + 1 = cap := by simpa using he
  have hdl : P.dropLast.length = n := by rw [List.length_dropLast]; omega
  refine ⟨by simp, some ⟨b, 0, none⟩, n, by rw [hdl], by rw [hdl]; omega, (fun h => by cases h), fun hn => ?_⟩
  obtain ⟨b', off, he', hcell⟩ := hc (by omega)
  cases he'
  refine ⟨b, 0, rfl, fun i hi => ?_⟩
  rw [hdl] at hi
  rw [hcell i (by omega), List.map_dropLast, List.getElem?_dropLast, if_pos (by rw [List.length_map]; omega)]
theorem last_at {P : List ByteArray} {n : Nat} (h : P.length = n + 1) (hn : n < P.length) : P.getLastD ⟨#[]⟩ = P[n] := by
  rw [List.getLastD_eq_getLast?, List.getLast?_eq_getElem?, h]
  simp [List.getElem?_eq_getElem hn]
theorem ret_vb {v : Value} {b b' : Bool} (h : b = b') : Ending.returned (.tuple #[v, .bool b]) = .returned (.tuple #[v, .bool b']) := by rw [h]
set_option maxHeartbeats 2000000 in
theorem lines_any (s : ByteArray) (w : World) (he : Env w) (hs : s.size ≤ 100000) :
    Calls Tryz.prog 121 #[.string s] w fun e w' => ∃ v, e = .returned (.tuple #[v, .bool (endedB s)]) ∧ Strs w' v (linesB s) ∧ Below w.heap.size w w' := by
  have CS := Lib.hid (split_byte s 10 w he hs)
  obtain ⟨hl1, hl2⟩ := cut_len_le 10 s
  have hS := strs_lit w (cutB 10 s) (by unfold maxLen; omega)
  have hb := (Below.refl w.heap.size w).alloc (Nat.le_refl _) (.cells ((cutB 10 s).map Value.string).toArray 9)
  have HL : Hid (linesB s = (cutB 10 s).dropLast ∧ endedB s = ((cutB 10 s).getLastD ⟨#[]⟩).toList.isEmpty) := Lib.hid ⟨rfl, rfl⟩
  generalize cutB 10 s = P at *
  obtain ⟨n, hn⟩ : ∃ n, P.length = n + 1 := ⟨P.length - 1, by omega⟩
  have hnl : n < P.length := by omega
  rw [hn] at hS CS
  obtain ⟨b, off, hao, hc⟩ := hS.at (k := n) hnl
  cases hao
  rw [Nat.zero_add] at hc
  have HQ := Lib.hid (last_at hn hnl)
  have HS := Lib.hid hS.cut
  clear hS hl2
  generalize P[n] = q at *
  have hnb : (n : Int) ≤ 1000000 := by omega
  clear hn hnl hl1 he hs
  go_enter Tryz.func121, Tryz.ntmps121
  go_wp2_with fail
  refine (CS.out).mono ?_
  rintro e w' ⟨rfl, rfl⟩
  generalize w.alloc (.cells (P.map Value.string).toArray 9) = w1 at *
  clear CS
  go_wp2_with fail
  go_quiet (fail)
  go_wp2_with fail
  go_ret2
  exact ⟨_, ret_vb (by rw [HL.out.2, HQ.out]), by rw [HL.out.1]; exact Row.drewN HS.out _, below_drewN hb _⟩
end Go.Proofs.YtflalehpdngklaaGreatDoor

namespace Go.Proofs.YtflalehpdngklaaGreatDoor
set_option maxRecDepth 100000
open Go.ChangeShapes Go.WideShapes Go.ChangeAt Go.RowKit

def listT : List (String × DataW Unit) := [("math/bits.deBruijn32tab", Rows.laid_math_bits_deBruijn32tab), ("math/bits.deBruijn64tab", Rows.laid_math_bits_deBruijn64tab), ("internal/strconv.uint64pow10", Rows.laid_internal_strconv_uint64pow10), ("unicode/utf8.acceptRanges", Rows.laid_unicode_utf8_acceptRanges), ("unicode/utf8.first", Rows.laid_unicode_utf8_first)]
theorem env_of {W : World} (h : laidMet Tryz.prog listT W) (hs : W.ShapedOpen Tryz.prog) : Env W :=
  ⟨Lib.tabIs_of_head (rest := [("unicode/utf8.acceptRanges", Rows.laid_unicode_utf8_acceptRanges), ("unicode/utf8.first", Rows.laid_unicode_utf8_first)]) gTen gTenType Tryz.underlying267 Tryz.underlying35 cellsU64 cellsTen (laidMet.tail (laidMet.tail h)), Tryz.laysM146.s1_3 W hs⟩
/-- A world in which the variables hold what their initialisers lay. -/
noncomputable def laidWorldT (os : Os) : World :=
  { World.holding Tryz.prog os ⟨#[], #[], []⟩ with heap := setG (setG (setG (setG (setG (World.holding Tryz.prog os ⟨#[], #[], []⟩).heap 6 Rows.laid_math_bits_deBruijn32tab) 1 Rows.laid_math_bits_deBruijn64tab) 5 Rows.laid_internal_strconv_uint64pow10) 4 Rows.laid_unicode_utf8_acceptRanges) 3 Rows.laid_unicode_utf8_first }
theorem laidT (os : Os) : laidMet Tryz.prog listT (laidWorldT os) := laidMet_of_run' 8 (by kernel_rfl) (by kernel_rfl)
end Go.Proofs.YtflalehpdngklaaGreatDoor

namespace Go.Proofs.YtflalehpdngklaaGreatDoor
set_option maxRecDepth 100000
open Go.ChangeShapes Go.WideShapes Go.ChangeAt Go.RowKit Go.Deep

theorem cellsOp : Tryz.prog.cellsOf 102 = 3 := by kernel_rfl
theorem ops_of_cells {H : Type} {enc : TypeId × Value → H} {W : World} {v : Value} {fuel : Nat} {x : DataW H × List MemPlace}
    (hf : DataW.trod enc Tryz.prog W 0 (fun _ => true) true fuel 104 [v] = some x) : ∃ l, Ops W v l ∧ (∀ o ∈ l, o.ok) ∧ ((∀ n ∈ DataW.weights Tryz.prog 104 x.1, n ≤ reachBytes) → l.length ≤ 6000000000000) := by
  rcases open_slice Tryz.underlying104 hf with ⟨hcs, _⟩ | ⟨a, len, cap, m, n, D, Pl, hcs, _, hl, hm, hmm, hx, hi⟩
  · obtain rfl : v = .slice none 0 0 := by simpa using hcs
    exact ⟨[], ⟨rfl, none, 0, rfl, by simp, (fun _ => ⟨rfl, rfl⟩), (fun h => by simp at h)⟩, by simp, by simp⟩
  · obtain rfl : v = .slice (some a) len cap := by simpa using hcs
    simp only [if_true] at hmm
    have key : ∀ i, ∃ o : OpV, i < len → o.ok ∧ W.cell? ((a.add (i * 3)).add 0) = some (.bool o.wr) ∧ W.cell? ((a.add (i * 3)).add 1) = some (.int .i64 o.key) ∧ W.cell? ((a.add (i * 3)).add 2) = some (.int .i64 o.val) := fun i => by
      by_cases hlt : i < len
      · obtain ⟨cs', hc, ht⟩ := hi i (by omega)
        rw [cellsOp] at hc
        obtain ⟨_, hcl, hat⟩ := World.cells?_some hc
        obtain ⟨y0, y1, y2, n', _, _, h0, h1, h2⟩ := trod_struct3 Tryz.underlying102 ht
        match cs', hcl with
        | [x0, x1, x2], _ =>
          obtain ⟨b, e0, _⟩ := DataW.trod_bool Tryz.underlying4 h0
          obtain ⟨k, e1, _, w1⟩ := DataW.trod_int Tryz.underlying3 h1
          obtain ⟨z, e2, _, w2⟩ := DataW.trod_int Tryz.underlying3 h2
          have k0 : Tryz.prog.cellsOf 4 = 1 := by kernel_rfl
          have k1 : Tryz.prog.cellsOf 3 = 1 := by kernel_rfl
          simp [k0, k1] at e0 e1 e2
          subst e0; subst e1; subst e2
          exact ⟨⟨b, k, z⟩, fun _ => ⟨⟨bounds_i64 w1, bounds_i64 w2⟩, hat 0 (by omega), hat 1 (by omega), hat 2 (by omega)⟩⟩
      · exact ⟨opZ, fun h => absurd h hlt⟩
    obtain ⟨O, hO⟩ := Classical.skolem.1 key
    have hlen : ((List.range len).map O).length = len := by simp
    have hel : ∀ (i : Nat) (h : i < ((List.range len).map O).length), ((List.range len).map O)[i] = O i := fun i h => by simp
    refine ⟨(List.range len).map O, ?_, ?_, ?_⟩
    · generalize (List.range len).map O = l at *
      subst hlen
      refine ⟨opV_len l, some a, cap, rfl, ⟨hl, hm⟩, (fun h => by cases h), fun hn => ?_⟩
      obtain ⟨b, off, spot⟩ := a
      have hspot : spot = none := by
        have := (hO 0 hn).2.1
        simpa [Addr.add] using World.cell?_spot this
      subst hspot
      refine ⟨b, off, rfl, fun i hii => ?_⟩
      have hk : i / 3 < l.length := by omega
      obtain ⟨_, c0, c1, c2⟩ := hO (i / 3) hk
      simp only [Addr.add_lit] at c0 c1 c2
      obtain ⟨e0, e1, e2⟩ := opV_at l (i / 3) hk
      rw [hel _ hk] at e0 e1 e2
      have hm3 : i % 3 = 0 ∨ i % 3 = 1 ∨ i % 3 = 2 := by omega
      rcases hm3 with h | h | h
      · rw [show i = i / 3 * 3 from by omega, e0, ← c0]; rfl
      · rw [show i = i / 3 * 3 + 1 from by omega, e1, ← c1, ← Nat.add_assoc]
      · rw [show i = i / 3 * 3 + 2 from by omega, e2, ← c2, ← Nat.add_assoc]
    · intro o ho
      obtain ⟨i, hi2, rfl⟩ := List.mem_map.1 ho
      exact (hO i (List.mem_range.1 hi2)).1
    · intro hw
      rw [hlen]
      have hb24 : Tryz.prog.bytesOf 102 = 24 := by kernel_rfl
      have := hw ((((List.range len).map D).length + ((List.range (m - len)).map fun j => D (len + j)).length) * Tryz.prog.bytesOf 102) (by rw [hx]; simp [DataW.weights, Tryz.underlying104])
      rw [hb24] at this
      unfold reachBytes at this
      simp at this
      omega
end Go.Proofs.YtflalehpdngklaaGreatDoor

namespace Go.Proofs.YtflalehpdngklaaGreatDoor
set_option maxRecDepth 100000
open Go.RowKit

/-- A transaction: its numbers, its slice of operations, and what that holds. -/
structure TxnV where
  s : Int
  b : Int
  c : Int
  v : Value
  l : List OpV
def TxnV.ok (t : TxnV) : Prop := (IntOk t.s ∧ IntOk t.b ∧ IntOk t.c) ∧ ∀ o ∈ t.l, o.ok
def txV (h : List TxnV) : List Value := h.flatMap fun t => [.int .i64 t.s, .int .i64 t.b, .int .i64 t.c, t.v]
theorem txV_len (h : List TxnV) : (txV h).length = h.length * 4 := by
  induction h with
  | nil => rfl
  | cons a l ih => unfold txV at *; rw [List.flatMap_cons, List.length_append, ih]; simp; omega
theorem txV_at : ∀ (l : List TxnV) (k : Nat) (hk : k < l.length), (txV l)[k * 4]? = some (.int .i64 l[k].s) ∧ (txV l)[k * 4 + 1]? = some (.int .i64 l[k].b) ∧ (txV l)[k * 4 + 2]? = some (.int .i64 l[k].c) ∧ (txV l)[k * 4 + 3]? = some l[k].v
  | a :: l, 0, _ => ⟨rfl, rfl, rfl, rfl⟩
  | a :: l, k + 1, hk => by
    obtain ⟨h0, h1, h2, h3⟩ := txV_at l k (by simpa using hk)
    have e : ∀ j, (txV (a :: l))[(k + 1) * 4 + j]? = (txV l)[k * 4 + j]? := fun j => by
      unfold txV
      rw [List.flatMap_cons, show (k + 1) * 4 + j = 4 + (k * 4 + j) from by omega]
      rw [List.getElem?_append_right (by simp)]
      simp
    exact ⟨(e 0).trans h0, (e 1).trans h1, (e 2).trans h2, (e 3).trans h3⟩
/-- The slice v holds these transactions. -/
def Txns (w : World) (v : Value) (h : List TxnV) : Prop := Row w v h.length 4 (txV h) ∧ ∀ t ∈ h, Ops w t.v t.l
theorem Txns.below {w w' : World} {v : Value} {h : List TxnV} (hT : Txns w v h) (hb : Below w.heap.size w w') : Txns w' v h := ⟨Row.below hT.1 hb, fun t ht => (hT.2 t ht).below hb⟩
theorem Txns.form {w : World} {v : Value} {l : List TxnV} (h : Txns w v l) : ∃ ao cap, v = .slice ao l.length cap ∧ l.length ≤ 9223372036854775807 := by
  obtain ⟨⟨_, ao, cap, rfl, hm, _, _⟩, _⟩ := h
  exact ⟨ao, cap, rfl, Nat.le_trans hm.1 hm.2⟩
theorem Txns.at {w : World} {ao : Option Addr} {n cap : Nat} {l : List TxnV} (h : Txns w (.slice ao n cap) l) {k : Nat} (hk : k < l.length) :
    ∃ b off, ao = some ⟨b, off, none⟩ ∧ w.cell? ⟨b, off + k * 4, none⟩ = some (.int .i64 l[k].s) ∧ w.cell? ⟨b, off + k * 4 + 1, none⟩ = some (.int .i64 l[k].b) ∧ w.cell? ⟨b, off + k * 4 + 2, none⟩ = some (.int .i64 l[k].c) ∧ w.cell? ⟨b, off + k * 4 + 3, none⟩ = some l[k].v := by
  obtain ⟨⟨_, ao', cap', he, hm, _, hc⟩, _⟩ := h
  obtain ⟨rfl, _, _⟩ : ao = ao' ∧ n = l.length ∧ cap = cap' := by simpa using he
  obtain ⟨b, off, rfl, hcell⟩ := hc (by omega)
  obtain ⟨h0, h1, h2, h3⟩ := txV_at l k hk
  refine ⟨b, off, rfl, ?_, ?_, ?_, ?_⟩
  · rw [hcell (k * 4) (by omega), h0]
  · rw [Nat.add_assoc, hcell (k * 4 + 1) (by omega), h1]
  · rw [Nat.add_assoc, hcell (k * 4 + 2) (by omega), h2]
  · rw [Nat.add_assoc, hcell (k * 4 + 3) (by omega), h3]
theorem Txns.ops {w : World} {v : Value} {l : List TxnV} (h : Txns w v l) {k : Nat} (hk : k < l.length) : Ops w l[k].v l[k].l := h.2 _ (List.getElem_mem hk)
end Go.Proofs.YtflalehpdngklaaGreatDoor

namespace Go.Proofs.YtflalehpdngklaaGreatDoor
set_option maxRecDepth 100000
open Go.ChangeShapes Go.WideShapes Go.ChangeAt Go.RowKit Go.Deep

theorem cellsTxn : Tryz.prog.cellsOf 106 = 4 := by kernel_rfl
theorem weightsAll_mem {H : Type} {P : Program} {e : TypeId} {d : DataW H} {n : Nat} (hn : n ∈ d.weights P e) : ∀ {ds : List (DataW H)}, d ∈ ds → n ∈ DataW.weightsAll P e ds
  | a :: ds, h => by
    unfold DataW.weightsAll
    rcases List.mem_cons.1 h with rfl | h
    · exact List.mem_append_left _ hn
    · exact List.mem_append_right _ (weightsAll_mem hn h)
theorem txns_of_trod {H : Type} {enc : TypeId × Value → H} {W : World} {base : Nat} {v : Value} {d : DataW H} {p : List MemPlace}
    (hval : Value.okWide Tryz.prog W .any base 22 v) (h : DataW.Trod enc Tryz.prog W 0 (fun _ => true) true 22 v d p) (hwt : ∀ n ∈ DataW.weights Tryz.prog 22 d, n ≤ reachBytes) : ∃ l, Txns W v l ∧ (∀ t ∈ l, t.ok) ∧ ∀ t ∈ l, t.l.length ≤ 6000000000000 := by
  obtain ⟨a0, len, cap, rfl⟩ := okWide_slice Tryz.underlying22 hval
  obtain ⟨fuel, hf⟩ := h
  rcases open_slice Tryz.underlying22 hf with ⟨hcs, _⟩ | ⟨a, len', cap', m, n, D, Pl, hcs, _, hl, hm, hmm, hx, hi⟩
  · simp [Value.cells] at hcs
    obtain ⟨rfl, rfl, rfl⟩ := hcs
    exact ⟨[], ⟨⟨rfl, none, 0, rfl, by simp, (fun _ => ⟨rfl, rfl⟩), (fun h => by simp at h)⟩, by simp⟩, by simp, by simp⟩
  · simp [Value.cells] at hcs
    obtain ⟨rfl, rfl, rfl⟩ := hcs
    simp only [if_true] at hmm
    have key : ∀ i, ∃ t : TxnV, i < len → (t.ok ∧ t.l.length ≤ 6000000000000) ∧ Ops W t.v t.l ∧ W.cell? ((a.add (i * 4)).add 0) = some (.int .i64 t.s) ∧ W.cell? ((a.add (i * 4)).add 1) = some (.int .i64 t.b) ∧ W.cell? ((a.add (i * 4)).add 2) = some (.int .i64 t.c) ∧ W.cell? ((a.add (i * 4)).add 3) = some t.v := fun i => by
      by_cases hlt : i < len
      · obtain ⟨cs', hc, ht⟩ := hi i (by omega)
        rw [cellsTxn] at hc
        obtain ⟨_, hcl, hat⟩ := World.cells?_some hc
        obtain ⟨y0, y1, y2, y3, n', hy, _, h0, h1, h2, h3⟩ := Joins.trod_struct4 Tryz.underlying106 ht
        match cs', hcl with
        | [x0, x1, x2, x3], _ =>
          obtain ⟨s, e0, _, w0⟩ := DataW.trod_int Tryz.underlying3 h0
          obtain ⟨b, e1, _, w1⟩ := DataW.trod_int Tryz.underlying3 h1
          obtain ⟨c, e2, _, w2⟩ := DataW.trod_int Tryz.underlying3 h2
          have k1 : Tryz.prog.cellsOf 3 = 1 := by kernel_rfl
          have k3 : Tryz.prog.cellsOf 104 = 1 := by kernel_rfl
          simp [k1] at e0 e1 e2
          subst e0; subst e1; subst e2
          simp [k3] at h3
          obtain ⟨l, hlo, hok, hlw⟩ := ops_of_cells h3
          have hll := hlw (fun q hq => hwt q (by
            rw [show d = _ from congrArg Prod.fst hx]
            simp only [DataW.weights, Tryz.underlying22]
            refine List.mem_cons_of_mem _ (List.mem_append_left _ (weightsAll_mem (d := D i) ?_ (List.mem_map.2 ⟨i, List.mem_range.2 hlt, rfl⟩)))
            have hy1 := congrArg Prod.fst hy
            rw [show D i = _ from hy1]
            simp only [DataW.weights, Tryz.underlying106, DataW.weightsEach, List.map_cons, List.map_nil]
            simp [hq]))
          exact ⟨⟨s, b, c, x3, l⟩, fun _ => ⟨⟨⟨⟨bounds_i64 w0, bounds_i64 w1, bounds_i64 w2⟩, hok⟩, hll⟩, hlo, hat 0 (by omega), hat 1 (by omega), hat 2 (by omega), hat 3 (by omega)⟩⟩
      · exact ⟨⟨0, 0, 0, .nilIface, []⟩, fun h => absurd h hlt⟩
    obtain ⟨O, hO⟩ := Classical.skolem.1 key
    have hlen : ((List.range len).map O).length = len := by simp
    have hel : ∀ (i : Nat) (h : i < ((List.range len).map O).length), ((List.range len).map O)[i] = O i := fun i h => by simp
    refine ⟨(List.range len).map O, ⟨?_, ?_⟩, ?_, ?_⟩
    · generalize (List.range len).map O = l at *
      subst hlen
      refine ⟨txV_len l, some a, cap, rfl, ⟨hl, hm⟩, (fun h => by cases h), fun hn => ?_⟩
      obtain ⟨b, off, spot⟩ := a
      have hspot : spot = none := by
        have := (hO 0 hn).2.2.1
        simpa [Addr.add] using World.cell?_spot this
      subst hspot
      refine ⟨b, off, rfl, fun i hii => ?_⟩
      have hk : i / 4 < l.length := by omega
      obtain ⟨_, _, c0, c1, c2, c3⟩ := hO (i / 4) hk
      simp only [Addr.add_lit] at c0 c1 c2 c3
      obtain ⟨e0, e1, e2, e3⟩ := txV_at l (i / 4) hk
      rw [hel _ hk] at e0 e1 e2 e3
      have hm4 : i % 4 = 0 ∨ i % 4 = 1 ∨ i % 4 = 2 ∨ i % 4 = 3 := by omega
      rcases hm4 with h | h | h | h
      · rw [show i = i / 4 * 4 from by omega, e0, ← c0]; rfl
      · rw [show i = i / 4 * 4 + 1 from by omega, e1, ← c1, ← Nat.add_assoc]
      · rw [show i = i / 4 * 4 + 2 from by omega, e2, ← c2, ← Nat.add_assoc]
      · rw [show i = i / 4 * 4 + 3 from by omega, e3, ← c3, ← Nat.add_assoc]
    · intro t ht
      obtain ⟨i, hi2, rfl⟩ := List.mem_map.1 ht
      exact (hO i (List.mem_range.1 hi2)).2.1
    · intro t ht
      obtain ⟨i, hi2, rfl⟩ := List.mem_map.1 ht
      exact (hO i (List.mem_range.1 hi2)).1.1
    · intro t ht
      obtain ⟨i, hi2, rfl⟩ := List.mem_map.1 ht
      exact (hO i (List.mem_range.1 hi2)).1.2
end Go.Proofs.YtflalehpdngklaaGreatDoor

namespace Go.Proofs.YtflalehpdngklaaGreatDoor
set_option maxRecDepth 100000
open Go.RowKit

/-- Block g holds these cells of this type, and all of them may be written. -/
def Whole (w : World) (g : Nat) (t : TypeId) (cs : Array Value) : Prop := w.heap[g]? = some (.cells cs t (0, 0))
theorem Whole.lt {w : World} {g : Nat} {t : TypeId} {cs : Array Value} (h : Whole w g t cs) : g < w.heap.size := by
  by_cases hg : g < w.heap.size
  · exact hg
  · unfold Whole at h; rw [Array.getElem?_eq_none (by omega)] at h; cases h
theorem Whole.cell {w : World} {g : Nat} {t : TypeId} {cs : Array Value} (h : Whole w g t cs) (i : Nat) : w.cell? ⟨g, i, none⟩ = cs[i]? := by
  unfold Whole at h
  simp [World.cell?, h]
theorem Whole.frozen {w : World} {g : Nat} {t : TypeId} {cs : Array Value} (h : Whole w g t cs) (i : Nat) : w.frozen? ⟨g, i, none⟩ = false := by
  unfold Whole at h
  simp [World.frozen?, h]
theorem Whole.new (w : World) (t : TypeId) (cs : Array Value) : Whole (w.alloc (.cells cs t)) w.heap.size t cs := heap_alloc_new w _
theorem Whole.below {w w' : World} {g : Nat} {t : TypeId} {cs : Array Value} (h : Whole w g t cs) (hb : Below w.heap.size w w') : Whole w' g t cs := (hb.block g h.lt).trans h
theorem Whole.put {w : World} {g : Nat} {t : TypeId} {cs : Array Value} (h : Whole w g t cs) (i : Nat) (v : Value) : Whole (w.setCell ⟨g, i, none⟩ v) g t (cs.setIfInBounds i v) := by
  unfold Whole at h ⊢
  simp [World.setCell, Array.getElem?_modify, h]
/-- A store into that block leaves all others as they were. -/
theorem below_put {B g : Nat} {w w' : World} (hb : Below B w w') (hg : B ≤ g) (i : Nat) (v : Value) : Below B w (w'.setCell ⟨g, i, none⟩ v) := hb.setCell (p := ⟨g, i, none⟩) hg _
theorem Whole.row {w : World} {g : Nat} {t : TypeId} {cs : List Value} {n : Nat} (h : Whole w g t cs.toArray) (hn : cs.length = n) (hm : n ≤ maxLen) : Row w (.slice (some ⟨g, 0, none⟩) n n) n 1 cs := by
  refine ⟨by omega, some ⟨g, 0, none⟩, n, rfl, ⟨by omega, hm⟩, (fun h => by cases h), fun _ => ⟨g, 0, rfl, fun i _ => ?_⟩⟩
  rw [h.cell]; simp
end Go.Proofs.YtflalehpdngklaaGreatDoor

namespace Go.Proofs.YtflalehpdngklaaGreatDoor
set_option maxRecDepth 100000
open Go.RowKit

/-- Are a line's pieces behind the first one just so many numbers? -/
def wordsOK (s : ByteArray) (many : Int) : Bool := decide (((cutB 32 s).length : Int) = many + 1) && (cutB 32 s).tail.all fun t => okN t.data.toList
def numsB (P : List ByteArray) : List Int := P.map fun t => ((numV t.data.toList : Nat) : Int)
def numsOf (s : ByteArray) : List Int := numsB (cutB 32 s).tail
def headB (s : ByteArray) : ByteArray := (cutB 32 s).headD ⟨#[]⟩
def WordsRes (s : ByteArray) (many : Int) (w : World) (p : ByteArray) (v : Value) (b : Bool) : Prop :=
  b = wordsOK s many ∧ (b = true → p = headB s ∧ Ints w v (numsOf s)) ∧ (b = false → p = ⟨#[]⟩ ∧ v = .slice none 0 0)
theorem wordsRes_no {s : ByteArray} {many : Int} {w : World} (h : wordsOK s many = false) : WordsRes s many w ⟨#[]⟩ (.slice none 0 0) false := ⟨h.symm, (fun h => by cases h), fun _ => ⟨rfl, rfl⟩⟩
/-- The numbers' cells while the loop goes: the first k are there, noughts behind. -/
def numsTo (Q : List ByteArray) (k : Nat) : List Value := ((numsB (Q.take k)).map (Value.int .i64)) ++ List.replicate (Q.length - k) (.int .i64 0)
theorem numsTo_len (Q : List ByteArray) (k : Nat) (hk : k ≤ Q.length) : (numsTo Q k).length = Q.length := by
  unfold numsTo numsB; simp; omega
theorem numsTo_set (Q : List ByteArray) (k : Nat) (hk : k < Q.length) : (numsTo Q k).toArray.setIfInBounds k (.int .i64 ((numV Q[k].data.toList : Nat) : Int)) = (numsTo Q (k + 1)).toArray := by
  have hl : ((numsB (Q.take k)).map (Value.int .i64)).length = k := by unfold numsB; simp; omega
  have e1 : Q.length - k = (Q.length - (k + 1)) + 1 := by omega
  have e2 : numsB (Q.take (k + 1)) = numsB (Q.take k) ++ [((numV Q[k].data.toList : Nat) : Int)] := by
    unfold numsB; rw [List.take_succ_eq_append_getElem hk, List.map_append]; rfl
  unfold numsTo
  rw [e1, e2, List.replicate_succ, List.map_append, List.setIfInBounds_toArray]
  congr 1
  rw [List.set_append_right _ _ (by omega), hl, Nat.sub_self, List.set_cons_zero]
  simp
theorem numsTo_all (Q : List ByteArray) : numsTo Q Q.length = (numsB Q).map (Value.int .i64) := by unfold numsTo; simp
theorem numsTo_at (Q : List ByteArray) (k : Nat) (hk : k < Q.length) : (numsTo Q k).toArray[k]? = some (.int .i64 0) := by
  have hl : ((numsB (Q.take k)).map (Value.int .i64)).length = k := by unfold numsB; simp; omega
  unfold numsTo
  rw [List.getElem?_toArray, List.getElem?_append_right (by omega), hl, Nat.sub_self, List.getElem?_replicate, if_pos (by omega)]
/-- All pieces ahead of a place are numbers. -/
def okTo (Q : List ByteArray) (k : Nat) : Prop := ∀ t ∈ Q.take k, okN t.data.toList = true
theorem okTo_zero (Q : List ByteArray) : okTo Q 0 := by intro t ht; simp at ht
theorem okTo_succ {Q : List ByteArray} {k : Nat} (h : okTo Q k) (hk : k < Q.length) (hd : okN Q[k].data.toList = true) : okTo Q (k + 1) := by
  intro b hb
  rw [List.take_succ_eq_append_getElem hk, List.mem_append] at hb
  rcases hb with hb | hb
  · exact h b hb
  · rw [List.mem_singleton] at hb; subst hb; exact hd
theorem words_no_at {s : ByteArray} {many : Int} {q : ByteArray} {Q : List ByteArray} (h : cutB 32 s = q :: Q) {k : Nat} (hk : k < Q.length) (hd : okN Q[k].data.toList = false) : wordsOK s many = false := by
  unfold wordsOK
  rw [h, List.tail_cons]
  have : Q.all (fun t => okN t.data.toList) = false := List.all_eq_false.2 ⟨Q[k], List.getElem_mem hk, by simp [hd]⟩
  rw [this]; simp
theorem words_yes {s : ByteArray} {q : ByteArray} {Q : List ByteArray} (h : cutB 32 s = q :: Q) (hd : okTo Q Q.length) : wordsOK s (Q.length : Int) = true ∧ headB s = q ∧ numsOf s = numsB Q := by
  unfold wordsOK headB numsOf
  rw [h, List.tail_cons]
  refine ⟨?_, rfl, rfl⟩
  have : Q.all (fun t => okN t.data.toList) = true := List.all_eq_true.2 (fun t ht => hd t (by rw [List.take_length]; exact ht))
  rw [this]; simp
theorem words_count {s : ByteArray} {many : Int} (h : ¬ ((cutB 32 s).length : Int) - 1 = many) : wordsOK s many = false := by
  unfold wordsOK
  have : decide (((cutB 32 s).length : Int) = many + 1) = false := by simp; omega
  rw [this]; simp
theorem pieces_le {s : ByteArray} {c : UInt8} {t : ByteArray} (h : t ∈ cutB c s) : t.size ≤ 100000000 ∨ 100000 < s.size := by
  by_cases hb : 100000 < s.size
  · exact .inr hb
  · left
    have key : ∀ (l p : List UInt8), p ∈ cutL c l → p.length ≤ l.length := by
      intro l
      induction l with
      | nil => intro p hp; simp [cutL] at hp; subst hp; simp
      | cons b l ih =>
        intro p hp
        unfold cutL at hp
        split at hp
        · rcases List.mem_cons.1 hp with rfl | hp
          · simp
          · have := ih p hp; simp; omega
        · rcases List.mem_cons.1 hp with rfl | hp
          · have := cutL_ne c l
            cases hc : cutL c l with
            | nil => exact absurd hc this
            | cons a r =>
              have := ih a (by rw [hc]; exact List.mem_cons_self)
              simp; omega
          · have := ih p (List.mem_of_mem_tail hp); simp; omega
    obtain ⟨p, hp, rfl⟩ := List.mem_map.1 h
    have := key _ _ hp
    have e : (⟨p.toArray⟩ : ByteArray).size = p.length := by simp [ByteArray.size]
    rw [e, Lib.size_eq] at *; omega
set_option maxHeartbeats 2000000 in
theorem words_any (s : ByteArray) (many : Int) (w : World) (he : Env w) (hs : s.size ≤ 100000) :
    Calls Tryz.prog 178 #[.string s, .int .i64 many] w fun e w' => ∃ p v b, e = .returned (.tuple #[.string p, v, .bool b]) ∧ WordsRes s many w' p v b ∧ Below w.heap.size w w' := by
  have CC := Lib.hid (count_byte s 32 w)
  by_cases hm : ((cutB 32 s).length : Int) - 1 = many
  case neg =>
    have HR := Lib.hid (words_count hm)
    have hne : ((((cutB 32 s).length : Int) - 1) != many) = true := by rw [bne_iff_ne]; exact hm
    clear hm
    go_enter Tryz.func178, Tryz.ntmps178
    go_wp2_with fail
    refine (CC.out).mono ?_
    rintro e w' ⟨rfl, rfl⟩
    go_wp2_with fail
    go_ret3
    exact ⟨_, _, _, rfl, wordsRes_no HR.out, Below.refl _ _⟩
  obtain ⟨hl1, hl2⟩ := cut_len_le 32 s
  have CS := Lib.hid (split_byte s 32 w he hs)
  have HP : Hid (∀ t ∈ cutB 32 s, t.size ≤ 9223372036854775807) := Lib.hid (fun t ht => by rcases pieces_le ht with h | h <;> omega)
  have hS := strs_lit w (cutB 32 s) (by unfold maxLen; omega)
  have hb1 := (Below.refl w.heap.size w).alloc (Nat.le_refl _) (.cells ((cutB 32 s).map Value.string).toArray 9)
  obtain ⟨q, Q, hqQ⟩ : ∃ q Q, cutB 32 s = q :: Q := by
    cases h : cutB 32 s with
    | nil => rw [h] at hl2; simp at hl2
    | cons q Q => exact ⟨q, Q, rfl⟩
  have HQ := Lib.hid hqQ
  rw [hqQ] at CC CS HP hS hb1 hm hl1
  rw [List.length_cons] at CC CS hm hl1 hS
  clear hqQ hl2
  obtain ⟨n, hn⟩ : ∃ n, n = Q.length := ⟨_, rfl⟩
  have HN := Lib.hid hn
  rw [← hn] at CC CS hm hl1 hS
  obtain rfl : many = (n : Int) := by omega
  have hnb : (n : Int) ≤ 1000000 := by omega
  rw [show ((n + 1 : Nat) : Int) - 1 = (n : Int) from by omega] at CC
  have hmk := fun W => Go.run_make_row' (P := Tryz.prog) 34 3 (.int .i64 0) 8 Tryz.underlying34 infoInt rfl .i64 .i64 n (by omega) (by omega) W
  clear hn hm he hs hl1
  go_enter Tryz.func178, Tryz.ntmps178
  go_wp2_with fail
  refine (CC.out).mono ?_
  rintro e w' ⟨rfl, rfl⟩
  go_wp2_with fail
  refine (CS.out).mono ?_
  rintro e w' ⟨rfl, rfl⟩
  generalize w.alloc (.cells ((q :: Q).map Value.string).toArray 9) = w1 at *
  clear CS CC
  have hW := Whole.new w1 3 (madeCells #[.int .i64 0] n)
  have hb2 := (Below.refl w1.heap.size w1).alloc (Nat.le_refl _) (.cells (madeCells #[.int .i64 0] n) 3)
  have hg := hS.at (k := 0) (by simp)
  obtain ⟨g0, o0, hg0, hc0⟩ := hg
  cases hg0
  have hz1 := hb1.size
  rw [show madeCells #[.int .i64 0] n = (numsTo Q 0).toArray from by
    apply Array.ext
    · rw [size_madeCells]; simp [numsTo, numsB, HN.out]
    · intro i h1 h2
      simp [madeCells, numsTo, numsB, Nat.mod_one]] at hmk hW hb2
  have HE : Hid (Strs w1 (.slice (some ⟨w.heap.size, 0, none⟩) (n + 1) (n + 1)) (q :: Q)) := Lib.hid hS
  change w1.cell? ⟨w.heap.size, 0, none⟩ = some (.string q) at hc0
  clear hS
  have FIN : Hid (∀ wr, okTo Q n → Whole wr w1.heap.size 3 (numsTo Q n).toArray → WordsRes s (n : Int) wr q (.slice (some ⟨w1.heap.size, 0, none⟩) n n) true) := Lib.hid (fun wr h1 h2 => by
    have hN := HN.out
    rw [hN] at h1
    obtain ⟨e1, e2, e3⟩ := words_yes HQ.out h1
    rw [← hN] at e1
    refine ⟨e1.symm, fun _ => ⟨e2.symm, ?_⟩, fun h => by cases h⟩
    have hr := h2.row (numsTo_len Q n (by omega) |>.trans hN.symm) (by unfold maxLen; omega)
    have hl : (numsB Q).length = n := by unfold numsB; simp; omega
    rw [e3]
    unfold Ints
    rw [hl]
    have e4 : numsTo Q n = (numsB Q).map (Value.int .i64) := by
      have := numsTo_all Q
      rw [← hN] at this
      exact this
    rw [e4] at hr
    exact hr)
  have hzs := Whole.lt hW
  rcases Nat.eq_zero_or_pos n with h0 | h0
  · subst h0
    change (∀ W, (Instr.makeSlice 34 (.int .i64 0) (.int .i64 0)).run Tryz.prog W = _) at hmk
    have HW := Lib.hid hW
    have hc1 : (w1.alloc (.cells (numsTo Q 0).toArray 3)).cell? ⟨w.heap.size, 0, none⟩ = some (.string q) := by rw [hb2.cell (p := ⟨w.heap.size, 0, none⟩) (block_lt hc0)]; exact hc0
    clear hW hc0
    go_wp2_with fail
    refine wp_loop_rounds 1 ?_
    rw [rounds_succ]
    go_wp2_with fail
    go_ret3
    exact ⟨_, _, _, rfl, FIN.out _ (okTo_zero Q) HW.out, hb1.trans (hb2.mono hz1)⟩
  · have hn1 : ¬ n + 1 = 1 := by omega
    have HW0 := Lib.hid hW
    have HC : Hid (∀ wr, Below w1.heap.size w1 wr → wr.cell? ⟨w.heap.size, 0, none⟩ = some (.string q)) := Lib.hid (fun wr hb => by rw [hb.cell (p := ⟨w.heap.size, 0, none⟩) (block_lt hc0)]; exact hc0)
    clear hW hc0
    go_wp2_with fail
    go_loopw [24] (fun i wr => ∃ k : Nat, k ≤ n ∧ i = .int .i64 k ∧ okTo Q k ∧ Whole wr w1.heap.size 3 (numsTo Q k).toArray ∧ Below w1.heap.size w1 wr) (fun i _ => n - (intOf i).toNat)
    case atStart => exact ⟨0, by omega, rfl, okTo_zero Q, HW0.out, hb2⟩
    case round =>
      obtain ⟨k, hk, rfl, hok, hw, hb⟩ := hrel
      have HOK := Lib.hid hok
      have HW := Lib.hid hw
      have hzr := hb.size
      have hwl := hw.lt
      clear hok hw
      by_cases hlt : k < n
      · have hki : (k : Int) < (n : Int) := by omega
        have hkq : k < Q.length := by have := HN.out; omega
        obtain ⟨g1, o1, hg1, hc1⟩ := (HE.out.below hb).at (k := k + 1) (by rw [List.length_cons]; omega)
        cases hg1
        change wr.cell? ⟨w.heap.size, 0 + (k + 1), none⟩ = some (.string Q[k]) at hc1
        rw [show 0 + (k + 1) = 1 + k from by omega] at hc1
        have hz := HW.out.cell k
        rw [numsTo_at Q k hkq] at hz
        have hf := HW.out.frozen k
        have hts := HP.out Q[k] (List.mem_cons_of_mem _ (List.getElem_mem hkq))
        have CN := Lib.hid (number_any Q[k] wr (by unfold maxLen; omega))
        have HSET := Lib.hid (numsTo_set Q k hkq)
        cases hd : okN Q[k].data.toList
        · have HR := Lib.hid (words_no_at (many := (n : Int)) HQ.out hkq hd)
          rw [hd] at CN
          clear hd
          generalize numV Q[k].data.toList = x at *
          generalize Q[k] = t at *
          go_wp2_with fail
          refine (CN.out).mono ?_
          rintro e w' ⟨rfl, rfl⟩
          go_wp2_with fail
          go_ret3
          exact ⟨_, _, _, rfl, wordsRes_no HR.out, hb1.trans (hb.mono hz1)⟩
        · have HOK' := Lib.hid (okTo_succ HOK.out hkq hd)
          rw [hd] at CN
          clear hd
          generalize numV Q[k].data.toList = x at *
          generalize Q[k] = t at *
          go_wp2_with fail
          refine (CN.out).mono ?_
          rintro e w' ⟨rfl, rfl⟩
          go_wp2_with fail
          go_roundw
          case rel => exact ⟨k + 1, by omega, by go_num, HOK'.out, by rw [← HSET.out]; exact HW.out.put _ _, below_put hb (Nat.le_refl _) _ _⟩
          case measure => simp [intOf]; omega
      · obtain rfl : k = n := by omega
        have hc2 := HC.out _ hb
        go_wp2_with fail
        go_ret3
        exact ⟨_, _, _, rfl, FIN.out _ HOK.out HW.out, hb1.trans (hb.mono hz1)⟩
end Go.Proofs.YtflalehpdngklaaGreatDoor

namespace Go.Proofs.YtflalehpdngklaaGreatDoor
set_option maxRecDepth 100000
open Go.RowKit

theorem words_is (s : ByteArray) (many : Int) (w : World) (he : Env w) (hs : s.size ≤ 100000) (h : wordsOK s many = true) :
    Calls Tryz.prog 178 #[.string s, .int .i64 many] w fun e w' => ∃ v, e = .returned (.tuple #[.string (headB s), v, .bool true]) ∧ Ints w' v (numsOf s) ∧ Below w.heap.size w w' := by
  refine (words_any s many w he hs).mono ?_
  rintro e w' ⟨p, v, b, rfl, ⟨h1, h2, _⟩, hb⟩
  rw [h] at h1
  subst h1
  obtain ⟨rfl, hI⟩ := h2 rfl
  exact ⟨v, rfl, hI, hb⟩
theorem words_isnt (s : ByteArray) (many : Int) (w : World) (he : Env w) (hs : s.size ≤ 100000) (h : wordsOK s many = false) :
    Calls Tryz.prog 178 #[.string s, .int .i64 many] w fun e w' => e = .returned (.tuple #[.string ⟨#[]⟩, .slice none 0 0, .bool false]) ∧ Below w.heap.size w w' := by
  refine (words_any s many w he hs).mono ?_
  rintro e w' ⟨p, v, b, rfl, ⟨h1, _, h2⟩, hb⟩
  rw [h] at h1
  subst h1
  obtain ⟨rfl, rfl⟩ := h2 rfl
  exact ⟨rfl, hb⟩
end Go.Proofs.YtflalehpdngklaaGreatDoor

namespace Go.Proofs.YtflalehpdngklaaGreatDoor
set_option maxRecDepth 100000
open Go.RowKit

theorem dec_clear (u : Nat) : ∀ x ∈ Lib.decDigits u, x ≠ 32 := by
  intro x hx e
  have := (dec_all u).1 x hx
  subst e
  exact absurd this (by decide)
theorem itoa_clear (n : Int) : ∀ x ∈ Lib.itoa n, x ≠ 32 := by
  intro x hx
  unfold Lib.itoa at hx
  split at hx
  · rcases List.mem_cons.1 hx with rfl | hx
    · decide
    · exact dec_clear _ x hx
  · exact dec_clear _ x hx
theorem joinTo_cons (s : List UInt8) (a : Int) (l : List Int) : joinTo s (a :: l) = s ++ 32 :: joinTo (Lib.itoa a) l := by
  unfold joinTo; rw [List.flatMap_cons]; simp
theorem cut_join : ∀ (l : List Int) (s : List UInt8), (∀ x ∈ s, x ≠ 32) → cutL 32 (joinTo s l) = s :: l.map Lib.itoa
  | [], s, h => by rw [joinTo_nil, cutL_none h]; rfl
  | a :: l, s, h => by rw [joinTo_cons, cutL_app _ h, cut_join l _ (itoa_clear a)]; rfl
def inR (n : Int) : Bool := decide (0 ≤ n) && decide (n ≤ 2147483647)
theorem okN_itoa (n : Int) : okN (Lib.itoa n) = inR n ∧ (inR n = true → ((numV (Lib.itoa n) : Nat) : Int) = n) := by
  unfold Lib.itoa inR
  by_cases h : n < 0
  · rw [if_pos h]
    have h0 : decide (0 ≤ n) = false := by simp; omega
    rw [h0]
    refine ⟨?_, fun h => by simp at h⟩
    exact okN_digit (k := 0) (by simp) (show isD 45 = false from by decide)
  · rw [if_neg h]
    have h0 : decide (0 ≤ n) = true := by simp; omega
    rw [h0, Bool.true_and]
    by_cases h1 : n ≤ 2147483647
    · obtain ⟨e1, e2⟩ := numV_dec (u := n.toNat) (by omega)
      rw [e1, e2]
      exact ⟨by simp [h1], fun _ => by omega⟩
    · have h1' : decide (n ≤ 2147483647) = false := by simp; omega
      rw [h1']
      refine ⟨?_, fun h => by cases h⟩
      obtain ⟨_, e, _, _⟩ := dec_all n.toNat
      unfold okN
      rw [e]
      have : decide (n.toNat ≤ 2147483647) = false := by simp; omega
      rw [this]; simp
theorem cutB_join (s : ByteArray) (l : List Int) (h : ∀ x ∈ s.data.toList, x ≠ 32) : cutB 32 (joinB s l) = s :: l.map fun n => ⟨(Lib.itoa n).toArray⟩ := by
  unfold cutB joinB
  have e : (⟨(joinTo s.data.toList l).toArray⟩ : ByteArray).data.toList = joinTo s.data.toList l := by simp
  rw [e, cut_join _ _ h, List.map_cons, List.map_map]
  congr 1
def allR (l : List Int) : Bool := l.all inR
theorem words_join (s : ByteArray) (l : List Int) (h : ∀ x ∈ s.data.toList, x ≠ 32) : wordsOK (joinB s l) (l.length : Int) = allR l ∧ headB (joinB s l) = s ∧ (allR l = true → numsOf (joinB s l) = l) := by
  unfold wordsOK headB numsOf
  rw [cutB_join s l h, List.tail_cons]
  refine ⟨?_, rfl, fun ha => ?_⟩
  · have e1 : decide ((((s :: l.map fun n => (⟨(Lib.itoa n).toArray⟩ : ByteArray)).length : Nat) : Int) = (l.length : Int) + 1) = true := by simp
    rw [e1, Bool.true_and]
    unfold allR
    rw [List.all_map]
    congr 1
    funext n
    exact (okN_itoa n).1
  · unfold numsB
    rw [List.map_map]
    calc _ = l.map id := List.map_congr_left (fun n hn => (okN_itoa n).2 (List.all_eq_true.1 ha n hn))
      _ = l := List.map_id _
end Go.Proofs.YtflalehpdngklaaGreatDoor

namespace Go.Proofs.YtflalehpdngklaaGreatDoor
set_option maxRecDepth 100000
open Go.RowKit

theorem nums_two {s : ByteArray} (h : wordsOK s 2 = true) : ∃ a b : Int, numsOf s = [a, b] ∧ (0 ≤ a ∧ a ≤ 2147483647) ∧ (0 ≤ b ∧ b ≤ 2147483647) := by
  unfold wordsOK at h
  simp only [Bool.and_eq_true, decide_eq_true_eq] at h
  have hl : (cutB 32 s).tail.length = 2 := by rw [List.length_tail]; omega
  unfold numsOf numsB
  match hq : (cutB 32 s).tail, hl with
  | [p, q], _ =>
    have h1 := numV_le p.data.toList
    have h2 := numV_le q.data.toList
    exact ⟨((numV p.data.toList : Nat) : Int), ((numV q.data.toList : Nat) : Int), rfl, ⟨by omega, by omega⟩, ⟨by omega, by omega⟩⟩
/-- A line's first word: a write's, a read's. -/
def isW (s : ByteArray) : Bool := decide ((headB s).data.toList = [119])
def isRd (s : ByteArray) : Bool := decide ((headB s).data.toList = [114])
/-- The operation of a line, and whether there is one. -/
def parseR (s : ByteArray) : Bool × OpV :=
  if wordsOK s 2 = true then
    match numsOf s with
    | [a, b] => if (isW s || isRd s) && mayO ⟨isW s, a, b⟩ then (true, ⟨isW s, a, b⟩) else (false, opZ)
    | _ => (false, opZ)
  else (false, opZ)
theorem parseR_no {s : ByteArray} (h : wordsOK s 2 = false) : parseR s = (false, opZ) := by unfold parseR; simp [h]
theorem parseR_at {s : ByteArray} (h : wordsOK s 2 = true) {a b : Int} (hn : numsOf s = [a, b]) : parseR s = if (isW s || isRd s) && mayO ⟨isW s, a, b⟩ then (true, ⟨isW s, a, b⟩) else (false, opZ) := by unfold parseR; simp [h, hn]
set_option maxHeartbeats 2000000 in
theorem parse_no (s : ByteArray) (w : World) (he : Env w) (hs : s.size ≤ 100000) (h : wordsOK s 2 = false) :
    Calls Tryz.prog 167 #[.string s] w fun e w' => e = .returned (.tuple #[.agg #[.bool false, .int .i64 0, .int .i64 0], .bool false]) ∧ Below w.heap.size w w' := by
  have hb0 := box_below w (.cells #[.bool false, .int .i64 0, .int .i64 0] 102)
  have CW := Lib.hid (words_isnt s 2 _ (he.below hb0) hs h)
  clear he hs h
  go_enter Tryz.func167, Tryz.ntmps167
  go_wp2_with fail
  refine (CW.out).mono ?_
  rintro e w1 ⟨rfl, hb1⟩
  obtain ⟨⟨c0, c1, c2⟩, f0, f1, f2⟩ := op_cells (by simpa using hb1)
  have hb2 := hb0.trans (hb1.mono (by simp))
  go_wp2_with fail
  obtain ⟨d0, d1, d2⟩ := put_three (.bool false) (.int .i64 0) (.int .i64 0) c0 c1 c2
  have hb3 := below_three (.bool false) (.int .i64 0) (.int .i64 0) hb2 (Nat.le_refl _)
  generalize World.setCell _ _ _ = w5 at *
  refine bodyPost_ret (v := .tuple #[.agg #[.bool false, .int .i64 0, .int .i64 0], .bool false]) (by simp [results, Tryz.results167, go_sem, d0, d1, d2]) rfl ⟨rfl, hb3⟩
set_option maxHeartbeats 2000000 in
theorem parse_words (s : ByteArray) (w : World) (he : Env w) (hs : s.size ≤ 100000) (h : wordsOK s 2 = true) :
    Calls Tryz.prog 167 #[.string s] w fun e w' => e = .returned (.tuple #[.agg #[.bool (parseR s).2.wr, .int .i64 (parseR s).2.key, .int .i64 (parseR s).2.val], .bool (parseR s).1]) ∧ Below w.heap.size w w' := by
  have hb0 := box_below w (.cells #[.bool false, .int .i64 0, .int .i64 0] 102)
  have CW := Lib.hid (words_is s 2 _ (he.below hb0) hs h)
  obtain ⟨a, b, hab, ⟨ha0, ha1⟩, hb0', hb1'⟩ := nums_two h
  have HR := Lib.hid (parseR_at h hab)
  rw [hab] at CW
  have HW : Hid (isW s = decide ((headB s).data.toList = [119])) := Lib.hid rfl
  have HRd : Hid (isRd s = decide ((headB s).data.toList = [114])) := Lib.hid rfl
  generalize isW s = iw at *
  generalize isRd s = ir at *
  generalize headB s = p at *
  generalize parseR s = R at *
  clear he hs h hab
  go_enter Tryz.func167, Tryz.ntmps167
  go_wp2_with fail
  refine (CW.out).mono ?_
  rintro e w1 ⟨v, rfl, hI, hb1⟩
  obtain ⟨⟨c0, c1, c2⟩, f0, f1, f2⟩ := op_cells (by simpa using hb1)
  have hb2 := hb0.trans (hb1.mono (by simp))
  obtain ⟨ao, cap, rfl, _⟩ := hI.form
  obtain ⟨g, o, hg, k0⟩ := hI.at (k := 0) (by simp)
  subst hg
  obtain ⟨g', o', hg', k1⟩ := hI.at (k := 1) (by simp)
  cases hg'
  change w1.cell? ⟨g, o + 0, none⟩ = some (.int .i64 a) at k0
  rw [Nat.add_zero] at k0
  change w1.cell? ⟨g, o + 1, none⟩ = some (.int .i64 b) at k1
  have hz1 := hb2.size
  have q0 : ∀ O, (w1.alloc O).cell? ⟨g, o, none⟩ = some (.int .i64 a) := fun O => (World.cell?_alloc_lt w1 O _ (block_lt k0)).trans k0
  have q1 : ∀ O, (w1.alloc O).cell? ⟨g, o + 1, none⟩ = some (.int .i64 b) := fun O => (World.cell?_alloc_lt w1 O _ (block_lt k1)).trans k1
  have key : ∀ (wr : Bool), (p.toList == [119]) = wr → (p.toList = [114] ∨ p.toList = [119]) → Hid (R = if mayO ⟨wr, a, b⟩ then (true, ⟨wr, a, b⟩) else (false, opZ)) := by
    intro wr h1 h2
    refine Lib.hid ?_
    rw [HR.out]
    have e1 : iw = wr := by
      rw [HW.out, ← h1, ← ByteArray.toList_eq, Bool.eq_iff_iff]; simp
    have e2 : (iw || ir) = true := by
      rw [HW.out, HRd.out, ← ByteArray.toList_eq]
      rcases h2 with h2 | h2 <;> simp [h2]
    rw [e2, e1, Bool.true_and]
  have hlt := block_lt c0
  change w.heap.size < w1.heap.size at hlt
  by_cases hr : p.toList = [114]
  · have HK := key false (by rw [hr]; rfl) (.inl hr)
    clear key HR HW HRd CW
    go_wp2_with fail
    go_region
    go_wp2_with fail
    refine (right_any false a b _).mono ?_
    rintro e w3 ⟨rfl, hb3⟩
    have hb4 : Below w1.heap.size w1 w3 := ((box_below w1 _).drew).trans (hb3.mono (by simp))
    have c0' := (hb4.cell (p := ⟨w.heap.size, 0, none⟩) hlt).trans c0
    have c1' := (hb4.cell (p := ⟨w.heap.size, 1, none⟩) hlt).trans c1
    have c2' := (hb4.cell (p := ⟨w.heap.size, 2, none⟩) hlt).trans c2
    have f0' := (hb4.frozen (p := ⟨w.heap.size, 0, none⟩) hlt).trans f0
    have f1' := (hb4.frozen (p := ⟨w.heap.size, 1, none⟩) hlt).trans f1
    have f2' := (hb4.frozen (p := ⟨w.heap.size, 2, none⟩) hlt).trans f2
    have n0 := hb3.cell (p := ⟨w1.heap.size, 0, none⟩) (by simp)
    have n1 := hb3.cell (p := ⟨w1.heap.size, 1, none⟩) (by simp)
    have n2 := hb3.cell (p := ⟨w1.heap.size, 2, none⟩) (by simp)
    simp at n0 n1 n2
    have hb5 := hb2.trans (hb4.mono hz1)
    clear hb3 hb4 c0 c1 c2 f0 f1 f2
    cases hm : mayO ⟨false, a, b⟩
    · rw [hm] at HK
      clear hm
      go_wp2_with fail
      obtain ⟨d0, d1, d2⟩ := put_three (.bool false) (.int .i64 0) (.int .i64 0) c0' c1' c2'
      have hb6 := below_three (.bool false) (.int .i64 0) (.int .i64 0) hb5 (Nat.le_refl _)
      generalize World.setCell _ _ _ = w5 at *
      refine bodyPost_ret (v := .tuple #[.agg #[.bool false, .int .i64 0, .int .i64 0], .bool false]) (by simp [results, Tryz.results167, go_sem, d0, d1, d2]) rfl ⟨?_, hb6⟩
      rw [HK.out]; rfl
    · rw [hm] at HK
      clear hm
      go_wp2_with fail
      obtain ⟨d0, d1, d2⟩ := put_three (.bool false) (.int .i64 a) (.int .i64 b) c0' c1' c2'
      have hb6 := below_three (.bool false) (.int .i64 a) (.int .i64 b) hb5 (Nat.le_refl _)
      generalize World.setCell _ _ _ = w5 at *
      refine bodyPost_ret (v := .tuple #[.agg #[.bool false, .int .i64 a, .int .i64 b], .bool true]) (by simp [results, Tryz.results167, go_sem, d0, d1, d2]) rfl ⟨?_, hb6⟩
      rw [HK.out]; rfl
  by_cases hw : p.toList = [119]
  · have HK := key true (by rw [hw]; rfl) (.inr hw)
    clear key HR HW HRd CW hr
    go_wp2_with fail
    go_region
    go_wp2_with fail
    refine (right_any true a b _).mono ?_
    rintro e w3 ⟨rfl, hb3⟩
    have hb4 : Below w1.heap.size w1 w3 := ((box_below w1 _).drew).trans (hb3.mono (by simp))
    have c0' := (hb4.cell (p := ⟨w.heap.size, 0, none⟩) hlt).trans c0
    have c1' := (hb4.cell (p := ⟨w.heap.size, 1, none⟩) hlt).trans c1
    have c2' := (hb4.cell (p := ⟨w.heap.size, 2, none⟩) hlt).trans c2
    have f0' := (hb4.frozen (p := ⟨w.heap.size, 0, none⟩) hlt).trans f0
    have f1' := (hb4.frozen (p := ⟨w.heap.size, 1, none⟩) hlt).trans f1
    have f2' := (hb4.frozen (p := ⟨w.heap.size, 2, none⟩) hlt).trans f2
    have n0 := hb3.cell (p := ⟨w1.heap.size, 0, none⟩) (by simp)
    have n1 := hb3.cell (p := ⟨w1.heap.size, 1, none⟩) (by simp)
    have n2 := hb3.cell (p := ⟨w1.heap.size, 2, none⟩) (by simp)
    simp at n0 n1 n2
    have hb5 := hb2.trans (hb4.mono hz1)
    clear hb3 hb4 c0 c1 c2 f0 f1 f2
    cases hm : mayO ⟨true, a, b⟩
    · rw [hm] at HK
      clear hm
      go_wp2_with fail
      obtain ⟨d0, d1, d2⟩ := put_three (.bool false) (.int .i64 0) (.int .i64 0) c0' c1' c2'
      have hb6 := below_three (.bool false) (.int .i64 0) (.int .i64 0) hb5 (Nat.le_refl _)
      generalize World.setCell _ _ _ = w5 at *
      refine bodyPost_ret (v := .tuple #[.agg #[.bool false, .int .i64 0, .int .i64 0], .bool false]) (by simp [results, Tryz.results167, go_sem, d0, d1, d2]) rfl ⟨?_, hb6⟩
      rw [HK.out]; rfl
    · rw [hm] at HK
      clear hm
      go_wp2_with fail
      obtain ⟨d0, d1, d2⟩ := put_three (.bool true) (.int .i64 a) (.int .i64 b) c0' c1' c2'
      have hb6 := below_three (.bool true) (.int .i64 a) (.int .i64 b) hb5 (Nat.le_refl _)
      generalize World.setCell _ _ _ = w5 at *
      refine bodyPost_ret (v := .tuple #[.agg #[.bool true, .int .i64 a, .int .i64 b], .bool true]) (by simp [results, Tryz.results167, go_sem, d0, d1, d2]) rfl ⟨?_, hb6⟩
      rw [HK.out]; rfl
  · have HK : Hid (R = (false, opZ)) := Lib.hid (by
      rw [HR.out]
      have e1 : iw = false := by rw [HW.out, ← ByteArray.toList_eq]; simp [hw]
      have e2 : ir = false := by rw [HRd.out, ← ByteArray.toList_eq]; simp [hr]
      rw [e1, e2]; rfl)
    have b1 : (p.toList == [114]) = false := by simp [hr]
    have b2 : (p.toList == [119]) = false := by simp [hw]
    clear key HR HW HRd CW
    go_wp2_with fail
    obtain ⟨d0, d1, d2⟩ := put_three (.bool false) (.int .i64 0) (.int .i64 0) c0 c1 c2
    have hb6 := below_three (.bool false) (.int .i64 0) (.int .i64 0) hb2 (Nat.le_refl _)
    generalize World.setCell _ _ _ = w5 at *
    refine bodyPost_ret (v := .tuple #[.agg #[.bool false, .int .i64 0, .int .i64 0], .bool false]) (by simp [results, Tryz.results167, go_sem, d0, d1, d2]) rfl ⟨?_, hb6⟩
    rw [HK.out]; rfl
theorem parse_any (s : ByteArray) (w : World) (he : Env w) (hs : s.size ≤ 100000) :
    Calls Tryz.prog 167 #[.string s] w fun e w' => e = .returned (.tuple #[.agg #[.bool (parseR s).2.wr, .int .i64 (parseR s).2.key, .int .i64 (parseR s).2.val], .bool (parseR s).1]) ∧ Below w.heap.size w w' := by
  cases h : wordsOK s 2
  · rw [parseR_no h]; exact parse_no s w he hs h
  · exact parse_words s w he hs h
end Go.Proofs.YtflalehpdngklaaGreatDoor
