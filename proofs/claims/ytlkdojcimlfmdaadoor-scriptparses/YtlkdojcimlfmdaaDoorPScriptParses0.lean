/- Walks and plain facts that the proof of the statement ScriptParses uses, joined: Law Slc SetM SetA OpZ Bld JoinZ TabN TokM TokA TokB TokC SetN SetB SetC SetD SetE TokD TokE TabT Blk TokF TokG TokH SetF SetG TokI TokJ TokK TokL OpA. Conditions: each theorem's own. -/
import Derived.Test.YtlkdojcimlfmdaaDoorRows
import Derived.Test.YtlkdojcimlfmdaaDoorProg
import Derived.Test.YtlkdojcimlfmdaaDoorShelf
import Derived.WalkKit
import Derived.ProofKit
import Derived.OpenShut
import Derived.Deep.DeepHandedRow
import Derived.Lib.LaidTab
import Derived.Lib.Hide
import Derived.WalkSpells
import Derived.WalkSmall
import Derived.Laws.AppendOwnNone
import Derived.Laws.Bits64b
import Derived.WalkLawsBesides
import Derived.Lib.Builder
import Derived.Lib.AppendStr
import Derived.Lib.ItoaNum
import Derived.Lib.ItoaLen
import Derived.Laws.IdiomStrings
import Derived.Laws.Concat
import Derived.IntWalk
import Derived.Stop.LaidErr
import Derived.Lib.SplitLaws
import Derived.Laws.Wrap64
import Derived.Deep.QuietTactic
import Derived.BigQuiet
import Derived.Deep.OwnRows
namespace Go.Proofs.YtlkdojcimlfmdaaDoor
set_option maxRecDepth 100000
open Go.ChangeShapes Go.WideShapes Go.ChangeAt Go.RowKit

theorem own : ownKnob Tryd.prog.godebug = none := by kernel_rfl
theorem laidOut : laidOutB Tryd.prog = true := by kernel_rfl

theorem trodAll_stays {H : Type} {enc : TypeId × Value → H} {W W' : World} (hb : Below W.heap.size W W') :
    ∀ (ts : List TypeId) (vs : List Value) (ds : List (DataW H)) (ps : List MemPlace), (∀ t ∈ ts, Tryd.prog.readableRec t = true ∧ t < Tryd.prog.types.size) →
      DataW.TrodAll enc Tryd.prog W 0 (fun _ => true) true ts vs ds ps → (∀ x ∈ ps, x.block < W.heap.size) →
      DataW.TrodAll enc Tryd.prog W' 0 (fun b => decide (b < W.heap.size)) true ts vs ds ps
  | [], vs, ds, ps, _, h, _ => by
    obtain ⟨rfl, rfl, rfl⟩ := trodAll_nil h
    exact trodAll_mk0
  | t :: ts, vs, ds, ps, hr, h, hlt => by
    obtain ⟨v, vs', d, ds', p, q, rfl, rfl, rfl, hd, hrest⟩ := trodAll_cons h
    have h1 := hr t List.mem_cons_self
    exact trodAll_cons_mk (Below.trod laidOut h1.1 h1.2 hd hb fun x hx => hlt x (List.mem_append_left _ hx))
      (trodAll_stays hb ts vs' ds' q (fun u hu => hr u (List.mem_cons_of_mem _ hu)) hrest fun x hx => hlt x (List.mem_append_right _ hx))

/-- FROM THE CONTRACT TO WHAT THE ROW ASKS: a law that answers true, with nothing below the old heap changed. -/
theorem law_post {H : Type} {enc : TypeId × Value → H} {s : ChangeSpec} {f : Func} {W W' : World} {args : Array Value} {ds gs : List (DataW H)} {before : List MemPlace}
    (hW : DataW.Whole enc Tryd.prog f.params.toList s.vars false W args.toList ds gs before) (hv : s.vars = [])
    (hr : ∀ t ∈ f.params.toList, Tryd.prog.readableRec t = true ∧ t < Tryd.prog.types.size) (hb : Below W.heap.size W W')
    (hres : f.resultTypes = #[4]) (hfn : (s.fn H (ds ++ [])).results = [.lit (.bool true)]) (hfa : (s.fn H (ds ++ [])).args = ds) (hfv : (s.fn H (ds ++ [])).vars = []) :
    s.post enc Tryd.prog f false true false false W args (.bool true) W' := by
  have hW' := hW
  obtain ⟨p, q, hA, hV, hpq, hfz, hnd⟩ := hW
  rw [hv] at hV
  obtain ⟨rfl, rfl⟩ := trodVars_none hV
  have hlt : ∀ x ∈ p, x.block < W.heap.size := fun x hx => by
    have := hW'.lt x (by rw [hpq]; exact List.mem_append_left _ hx)
    simpa using this
  refine ⟨ds, [], before, [], p, [], hW', ?_, ?_, ?_, hb.frame _, fun h => by cases h⟩
  · rw [hfn, hres]
    exact trodAll_cons_mk (shut_bool Tryd.underlying4 _) trodAll_mk0
  · rw [hfa]
    exact trodAll_stays hb _ _ _ _ hr hA hlt
  · rw [hfv, hv]; exact rfl
end Go.Proofs.YtlkdojcimlfmdaaDoor

namespace Go.Proofs.YtlkdojcimlfmdaaDoor
set_option maxRecDepth 100000
open Go.RowKit

/-- The slice v has n elements of 'size' cells each, which are cs. -/
def Row (w : World) (v : Value) (n size : Nat) (cs : List Value) : Prop :=
  cs.length = n * size ∧ ∃ ao cap, v = .slice ao n cap ∧ (n ≤ cap ∧ cap ≤ maxLen) ∧ (ao = none → n = 0 ∧ cap = 0) ∧ (0 < n → ∃ b off, ao = some ⟨b, off, none⟩ ∧ ∀ i, i < n * size → w.cell? ⟨b, off + i, none⟩ = cs[i]?)
/-- The slice v holds these ints. -/
def Ints (w : World) (v : Value) (xs : List Int) : Prop := Row w v xs.length 1 (xs.map (Value.int .i64))

theorem block_lt {w : World} {a : Addr} {v : Value} (h : w.cell? a = some v) : a.block < w.heap.size := by
  by_cases h0 : a.block < w.heap.size
  · exact h0
  · simp [World.cell?, Array.getElem?_eq_none (Nat.le_of_not_lt h0)] at h
theorem Row.below {w w' : World} {v : Value} {n size : Nat} {cs : List Value} (h : Row w v n size cs) (hb : Below w.heap.size w w') : Row w' v n size cs := by
  obtain ⟨hl, ao, cap, rfl, hm, hno, hc⟩ := h
  refine ⟨hl, ao, cap, rfl, hm, hno, fun hn => ?_⟩
  obtain ⟨b, off, rfl, hcell⟩ := hc hn
  refine ⟨b, off, rfl, fun i hi => ?_⟩
  have h1 := hcell i hi
  have h2 : cs[i]? = some cs[i] := List.getElem?_eq_getElem (by omega)
  rw [h2] at h1
  have hlt := block_lt h1
  rw [hb.cell (p := ⟨b, off + i, none⟩) hlt, h1, h2]
theorem Ints.below {w w' : World} {v : Value} {xs : List Int} (h : Ints w v xs) (hb : Below w.heap.size w w') : Ints w' v xs := Row.below h hb
theorem Row.drewN {w : World} {v : Value} {n size : Nat} {cs : List Value} (h : Row w v n size cs) (k : Nat) : Row (w.drewN k) v n size cs := h.below (below_drewN (Below.refl _ _) k)
theorem Row.of_owns {w : World} {base : Nat} {e : TypeId} {size : Nat} {v : Value} {n : Nat} {cs : List Value} (h : w.ownsRow base e size v n cs) : Row w v n size cs := by
  obtain ⟨hl, h⟩ := h
  refine ⟨hl, ?_⟩
  rcases h with ⟨rfl, rfl⟩ | ⟨g, cap, cur, rfl, hb, hh, hn, hm, hs, ht⟩
  · exact ⟨none, 0, rfl, by simp, fun _ => ⟨rfl, rfl⟩, fun h => by omega⟩
  · refine ⟨some ⟨g, 0, none⟩, cap, rfl, by omega, fun h => (by cases h), fun _ => ⟨g, 0, rfl, fun i hi => ?_⟩⟩
    have hown : w.ownsRow base e size (.slice (some ⟨g, 0, none⟩) n cap) n cs := ⟨hl, .inr ⟨g, cap, cur, rfl, hb, hh, hn, hm, hs, ht⟩⟩
    have := hown.cellAt i hi
    simpa using this
theorem Ints.of_owns {w : World} {base : Nat} {e : TypeId} {v : Value} {n : Nat} {xs : List Int} (h : w.ownsRow base e 1 v n (xs.map (Value.int .i64))) : Ints w v xs := by
  have hr := Row.of_owns h
  have hn : n = xs.length := by have := h.1; simp at this; omega
  subst hn; exact hr
theorem Ints.form {w : World} {v : Value} {xs : List Int} (h : Ints w v xs) : ∃ ao cap, v = .slice ao xs.length cap ∧ xs.length ≤ 9223372036854775807 := by
  obtain ⟨_, ao, cap, rfl, hm, _, _⟩ := h
  exact ⟨ao, cap, rfl, Nat.le_trans hm.1 hm.2⟩
theorem Ints.at {w : World} {ao : Option Addr} {n cap : Nat} {xs : List Int} (h : Ints w (.slice ao n cap) xs) {k : Nat} (hk : k < xs.length) :
    ∃ b off, ao = some ⟨b, off, none⟩ ∧ w.cell? ⟨b, off + k, none⟩ = some (.int .i64 xs[k]) := by
  obtain ⟨_, ao', cap', he, hm, _, hc⟩ := h
  obtain ⟨rfl, _, _⟩ : ao = ao' ∧ n = xs.length ∧ cap = cap' := by simpa using he
  obtain ⟨b, off, rfl, hcell⟩ := hc (by omega)
  refine ⟨b, off, rfl, ?_⟩
  rw [hcell k (by omega)]
  simp [List.getElem?_eq_getElem hk]
theorem owns_below {w w' : World} {base : Nat} {e : TypeId} {size : Nat} {v : Value} {n : Nat} {cs : List Value} (h : w.ownsRow base e size v n cs) (hb : Below w.heap.size w w') : w'.ownsRow base e size v n cs :=
  h.kept (row := none) ⟨hb.os, hb.tape, hb.output, hb.size, fun k hk _ => hb.block k hk⟩ (by cases v.ownBlock <;> simp)
/-- 'append(own, x...)', x any slice whose cells are known, nil included. -/
theorem wpList_append_row {P : Program} {w : World} {ops : Array Oper} {rest : List Oper} {o : Oper} {a : Act} {Q : Exit → Act → World → Prop} (hgd : o.guard = none) (s x : Operand) (t : TypeId)
    (ho : o.op = .call { callee := .builtin .append, args := #[s, x], argTypes := #[t, t] })
    (base : Nat) (e : TypeId) (i : TypeInfo) (z : Value) (size bytes : Nat) (ht : P.underlying t = some (.slice e)) (hi : P.info? e = some i) (hz : i.zero = some z)
    (hsize : i.size = size) (hby : i.bytes = bytes) (hzs : z.cells.size = size) (hsz : 0 < size)
    (v : Value) (n : Nat) (xs : List Value) (hs : a.eval s = v) (hown : w.ownsRow base e size v n xs)
    (sv : Value) (m : Nat) (news : List Value) (hx : a.eval x = sv) (hsrc : Row w sv m size news) (h1 : ∀ u ∈ news, u.oneCell' = true)
    (h63 : n + m ≤ maxLen) (hbytes : (n + m) * bytes ≤ 140737488355328) (hbase : base ≤ w.heap.size)
    (h : ∀ v' w', w'.ownsRow base e size v' (n + m) (xs ++ news) → w.grownBy w' v.ownBlock → wpList P ops Q rest (a.put o.dst v') w') : wpList P ops Q (o :: rest) a w := by
  obtain ⟨hl, ao, cap, rfl, _, hno, hc⟩ := hsrc
  cases ao with
  | none =>
    obtain ⟨rfl, rfl⟩ := hno rfl
    have hnews : news = [] := List.eq_nil_of_length_eq_zero (by simpa using hl)
    subst hnews
    exact wpList_append_own_none hgd s x t ho base e i size ht hi v n xs hs hown hx (by simpa using h v w (by simpa using hown) (World.grownBy.refl _ _))
  | some ad =>
    refine wpList_append_own w hgd s x t ho base e i z size bytes ht hi hz hsize hby hzs hsz v n xs hs hown ad m cap news hx hl ?_ h1 h63 hbytes hbase (fun v' w' h2 h3 _ => h v' w' h2 h3)
    intro j u hu
    have hj : j < news.length := (List.getElem?_eq_some_iff.1 hu).1
    have hm : 0 < m := by
      rcases Nat.eq_zero_or_pos m with h0 | h0
      · subst h0; rw [Nat.zero_mul] at hl; omega
      · exact h0
    obtain ⟨b, off, he, hcell⟩ := hc hm
    obtain rfl := Option.some.inj he
    rw [Addr.add_lit, hcell j (by omega), hu]
end Go.Proofs.YtlkdojcimlfmdaaDoor

namespace Go.Proofs.YtlkdojcimlfmdaaDoor
set_option maxRecDepth 100000
open Go.RowKit

theorem ret_i {k : IntKind} {a b : Int} (h : a = b) : Ending.returned (.int k a) = .returned (.int k b) := by rw [h]
theorem ret_b {a b : Bool} (h : a = b) : Ending.returned (.bool a) = .returned (.bool b) := by rw [h]

end Go.Proofs.YtlkdojcimlfmdaaDoor

namespace Go.Proofs.YtlkdojcimlfmdaaDoor
set_option maxRecDepth 100000
open Go.RowKit

def IntOk (n : Int) : Prop := -9223372036854775808 ≤ n ∧ n ≤ 9223372036854775807
structure OpV where
  wr : Bool
  key : Int
  val : Int
def OpV.v (o : OpV) : Value := .agg #[.bool o.wr, .int .i64 o.key, .int .i64 o.val]
def OpV.ok (o : OpV) : Prop := IntOk o.key ∧ IntOk o.val
def opZ : OpV := ⟨false, 0, 0⟩
/-- May there be such an operation? -/
def mayO (o : OpV) : Bool := (decide (0 ≤ o.key) && decide (o.key < 64)) && (decide (0 ≤ o.val) && decide (o.val ≤ 2147483647)) && (!o.wr || o.val != 0)
theorem mayO_iff (o : OpV) : mayO o = true ↔ (0 ≤ o.key ∧ o.key < 64) ∧ (0 ≤ o.val ∧ o.val ≤ 2147483647) ∧ (o.wr = true → o.val ≠ 0) := by
  obtain ⟨wr, key, val⟩ := o
  unfold mayO
  cases wr <;> simp [and_assoc]
theorem box_below (w : World) (o : Obj) : Below w.heap.size w (w.alloc o) := (Below.refl _ _).alloc (Nat.le_refl _) _
set_option maxHeartbeats 1000000 in
theorem right_any (wr : Bool) (key val : Int) (w : World) :
    Calls Tryd.prog 42 #[.agg #[.bool wr, .int .i64 key, .int .i64 val]] w fun e w' => e = .returned (.bool (mayO ⟨wr, key, val⟩)) ∧ Below w.heap.size w w' := by
  have hi := mayO_iff ⟨wr, key, val⟩
  by_cases h : mayO ⟨wr, key, val⟩ = true
  · obtain ⟨⟨h1, h2⟩, ⟨h3, h4⟩, h5⟩ := hi.1 h
    have HM := Lib.hid h
    have c1 : ¬ key < 0 := by simpa using h1
    have c2 : ¬ (64 : Int) ≤ key := by simp at h2; omega
    have c3 : ¬ val < 0 := by simpa using h3
    have c4 : ¬ (2147483647 : Int) < val := by simp at h4; omega
    simp only at h1 h2 h3 h4 h5
    clear h hi
    cases wr
    · clear h5
      go_enter Tryd.func42, Tryd.ntmps42
      go_wp2_with fail
      go_ret
      exact ⟨ret_b HM.out.symm, box_below _ _⟩
    · have c5 : (val != 0) = true := by rw [bne_iff_ne]; exact h5 rfl
      clear h5
      go_enter Tryd.func42, Tryd.ntmps42
      go_wp2_with fail
      go_ret
      exact ⟨ret_b HM.out.symm, box_below _ _⟩
  · have HM : Hid (mayO ⟨wr, key, val⟩ = false) := Lib.hid (by simpa using h)
    have hn : ¬ ((0 ≤ key ∧ key < 64) ∧ (0 ≤ val ∧ val ≤ 2147483647) ∧ (wr = true → val ≠ 0)) := fun k => h (hi.2 k)
    clear h hi
    by_cases c1 : key < 0
    · go_enter Tryd.func42, Tryd.ntmps42
      clear hn
      go_wp2_with fail
      go_ret
      exact ⟨ret_b HM.out.symm, box_below _ _⟩
    by_cases c2 : (64 : Int) ≤ key
    · clear hn
      go_enter Tryd.func42, Tryd.ntmps42
      go_wp2_with fail
      go_ret
      exact ⟨ret_b HM.out.symm, box_below _ _⟩
    by_cases c3 : val < 0
    · clear hn
      go_enter Tryd.func42, Tryd.ntmps42
      go_wp2_with fail
      go_ret
      exact ⟨ret_b HM.out.symm, box_below _ _⟩
    by_cases c4 : (2147483647 : Int) < val
    · clear hn
      go_enter Tryd.func42, Tryd.ntmps42
      go_wp2_with fail
      go_ret
      exact ⟨ret_b HM.out.symm, box_below _ _⟩
    cases wr
    · exfalso; apply hn; exact ⟨⟨by omega, by omega⟩, ⟨by omega, by omega⟩, fun h => by cases h⟩
    · have hv : val = 0 := by
        by_cases h : val = 0
        · exact h
        · exfalso; apply hn; exact ⟨⟨by omega, by omega⟩, ⟨by omega, by omega⟩, fun _ => h⟩
      subst hv
      clear hn
      go_enter Tryd.func42, Tryd.ntmps42
      go_wp2_with fail
      go_ret
      exact ⟨ret_b HM.out.symm, box_below _ _⟩
/-- Behind a region: what calls one behind the other leave alone. -/
theorem below_then {w0 w1 w2 : World} (h : Below w0.heap.size w0 w1) (k : Below w1.heap.size w1 w2) : Below w0.heap.size w0 w2 := h.trans (k.mono h.size)
theorem opBlock (w : World) (x y z : Value) (t : TypeId) : (w.alloc (.cells #[x, y, z] t)).cell? ⟨w.heap.size, 0, none⟩ = some x ∧ (w.alloc (.cells #[x, y, z] t)).cell? ⟨w.heap.size, 1, none⟩ = some y ∧ (w.alloc (.cells #[x, y, z] t)).cell? ⟨w.heap.size, 2, none⟩ = some z := by
  refine ⟨?_, ?_, ?_⟩ <;> simp
theorem ints_lit (w : World) (xs : List Int) (cs : Array Value) (n : Nat) (hc : cs.toList = xs.map (Value.int .i64)) (hn : n = xs.length) (hm : n ≤ maxLen) :
    Ints (w.alloc (.cells cs 3)) (.slice (some ⟨w.heap.size, 0, none⟩) n n) xs := by
  have hs : cs.size = n * 1 := by
    have := congrArg List.length hc
    simp at this; omega
  have h := World.ownsRow_lit (base := 0) (e := 3) (size := 1) w cs n (Nat.zero_le _) hm hs
  rw [hc] at h
  exact Ints.of_owns h
/-- The cells of operations in a row. -/
def opV (l : List OpV) : List Value := l.flatMap fun o => [.bool o.wr, .int .i64 o.key, .int .i64 o.val]
theorem opV_len (l : List OpV) : (opV l).length = l.length * 3 := by
  induction l with
  | nil => rfl
  | cons a l ih => unfold opV at *; rw [List.flatMap_cons, List.length_append, ih]; simp; omega
theorem opV_at : ∀ (l : List OpV) (k : Nat) (hk : k < l.length), (opV l)[k * 3]? = some (.bool l[k].wr) ∧ (opV l)[k * 3 + 1]? = some (.int .i64 l[k].key) ∧ (opV l)[k * 3 + 2]? = some (.int .i64 l[k].val)
  | a :: l, 0, _ => ⟨rfl, rfl, rfl⟩
  | a :: l, k + 1, hk => by
    obtain ⟨h0, h1, h2⟩ := opV_at l k (by simpa using hk)
    have e : ∀ j, (opV (a :: l))[(k + 1) * 3 + j]? = (opV l)[k * 3 + j]? := fun j => by
      unfold opV
      rw [List.flatMap_cons, show (k + 1) * 3 + j = 3 + (k * 3 + j) from by omega]
      rw [List.getElem?_append_right (by simp)]
      simp
    exact ⟨(e 0).trans h0, (e 1).trans h1, (e 2).trans h2⟩
/-- The slice v holds these operations. -/
def Ops (w : World) (v : Value) (l : List OpV) : Prop := Row w v l.length 3 (opV l)
theorem Ops.below {w w' : World} {v : Value} {l : List OpV} (h : Ops w v l) (hb : Below w.heap.size w w') : Ops w' v l := Row.below h hb
theorem Ops.form {w : World} {v : Value} {l : List OpV} (h : Ops w v l) : ∃ ao cap, v = .slice ao l.length cap ∧ l.length ≤ 9223372036854775807 := by
  obtain ⟨_, ao, cap, rfl, hm, _, _⟩ := h
  exact ⟨ao, cap, rfl, Nat.le_trans hm.1 hm.2⟩
theorem Ops.at {w : World} {ao : Option Addr} {n cap : Nat} {l : List OpV} (h : Ops w (.slice ao n cap) l) {k : Nat} (hk : k < l.length) :
    ∃ b off, ao = some ⟨b, off, none⟩ ∧ w.cell? ⟨b, off + k * 3, none⟩ = some (.bool l[k].wr) ∧ w.cell? ⟨b, off + k * 3 + 1, none⟩ = some (.int .i64 l[k].key) ∧ w.cell? ⟨b, off + k * 3 + 2, none⟩ = some (.int .i64 l[k].val) := by
  obtain ⟨_, ao', cap', he, hm, _, hc⟩ := h
  obtain ⟨rfl, _, _⟩ : ao = ao' ∧ n = l.length ∧ cap = cap' := by simpa using he
  obtain ⟨b, off, rfl, hcell⟩ := hc (by omega)
  obtain ⟨h0, h1, h2⟩ := opV_at l k hk
  refine ⟨b, off, rfl, ?_, ?_, ?_⟩
  · rw [hcell (k * 3) (by omega), h0]
  · rw [Nat.add_assoc, hcell (k * 3 + 1) (by omega), h1]
  · rw [Nat.add_assoc, hcell (k * 3 + 2) (by omega), h2]
def allM (l : List OpV) : Bool := l.all mayO
theorem allM_succ (l : List OpV) (k : Nat) (hk : k < l.length) : allM (l.take (k + 1)) = (allM (l.take k) && mayO l[k]) := by
  unfold allM; rw [List.take_succ_eq_append_getElem hk, List.all_append]; simp
theorem allM_no (l : List OpV) (k : Nat) (hk : k < l.length) (h : mayO l[k] = false) : allM l = false := by
  unfold allM; exact List.all_eq_false.2 ⟨l[k], List.getElem_mem hk, by simp [h]⟩
/-- Three cells of one block are written anew. -/
theorem put_three {w1 : World} {g : Nat} {x0 x1 x2 : Value} (v0 v1 v2 : Value) (c0 : w1.cell? ⟨g, 0, none⟩ = some x0) (c1 : w1.cell? ⟨g, 1, none⟩ = some x1) (c2 : w1.cell? ⟨g, 2, none⟩ = some x2) :
    (((w1.setCell ⟨g, 0, none⟩ v0).setCell ⟨g, 1, none⟩ v1).setCell ⟨g, 2, none⟩ v2).cell? ⟨g, 0, none⟩ = some v0 ∧
    (((w1.setCell ⟨g, 0, none⟩ v0).setCell ⟨g, 1, none⟩ v1).setCell ⟨g, 2, none⟩ v2).cell? ⟨g, 1, none⟩ = some v1 ∧
    (((w1.setCell ⟨g, 0, none⟩ v0).setCell ⟨g, 1, none⟩ v1).setCell ⟨g, 2, none⟩ v2).cell? ⟨g, 2, none⟩ = some v2 := by
  have n01 : (⟨g, 0, none⟩ : Addr) ≠ ⟨g, 1, none⟩ := by simp
  have n02 : (⟨g, 0, none⟩ : Addr) ≠ ⟨g, 2, none⟩ := by simp
  have n12 : (⟨g, 1, none⟩ : Addr) ≠ ⟨g, 2, none⟩ := by simp
  refine ⟨?_, ?_, ?_⟩
  · rw [World.cell?_setCell_other _ _ _ _ n02.symm, World.cell?_setCell_other _ _ _ _ n01.symm]
    exact World.cell?_setCell_same _ _ _ c0
  · rw [World.cell?_setCell_other _ _ _ _ n12.symm]
    exact World.cell?_setCell_same _ _ _ ((World.cell?_setCell_other _ _ _ _ n01).trans c1)
  · exact World.cell?_setCell_same _ _ _ ((World.cell?_setCell_other _ _ _ _ n12).trans ((World.cell?_setCell_other _ _ _ _ n02).trans c2))
theorem below_three {B : Nat} {w w1 : World} {g : Nat} (v0 v1 v2 : Value) (hb : Below B w w1) (hg : B ≤ g) :
    Below B w (((w1.setCell ⟨g, 0, none⟩ v0).setCell ⟨g, 1, none⟩ v1).setCell ⟨g, 2, none⟩ v2) :=
  ((hb.setCell (p := ⟨g, 0, none⟩) hg v0).setCell (p := ⟨g, 1, none⟩) hg v1).setCell (p := ⟨g, 2, none⟩) hg v2
/-- What a block of an operation that the call made holds, behind calls that leave it alone. -/
theorem op_cells {w w1 : World} {x y z : Value} {t : TypeId} (hb : Below (w.heap.size + 1) (w.alloc (.cells #[x, y, z] t)) w1) :
    (w1.cell? ⟨w.heap.size, 0, none⟩ = some x ∧ w1.cell? ⟨w.heap.size, 1, none⟩ = some y ∧ w1.cell? ⟨w.heap.size, 2, none⟩ = some z) ∧
    (w1.frozen? ⟨w.heap.size, 0, none⟩ = false ∧ w1.frozen? ⟨w.heap.size, 1, none⟩ = false ∧ w1.frozen? ⟨w.heap.size, 2, none⟩ = false) := by
  have c0 := hb.cell (p := ⟨w.heap.size, 0, none⟩) (by simp)
  have c1 := hb.cell (p := ⟨w.heap.size, 1, none⟩) (by simp)
  have c2 := hb.cell (p := ⟨w.heap.size, 2, none⟩) (by simp)
  have f0 := hb.frozen (p := ⟨w.heap.size, 0, none⟩) (by simp)
  have f1 := hb.frozen (p := ⟨w.heap.size, 1, none⟩) (by simp)
  have f2 := hb.frozen (p := ⟨w.heap.size, 2, none⟩) (by simp)
  simp at c0 c1 c2 f0 f1 f2
  exact ⟨⟨c0, c1, c2⟩, f0, f1, f2⟩
end Go.Proofs.YtlkdojcimlfmdaaDoor

namespace Go.Proofs.YtlkdojcimlfmdaaDoor
set_option maxRecDepth 100000
open Go.RowKit

theorem bldSize : (Tryd.prog.info? 67).map (·.size) = some 2 := by kernel_rfl
theorem bldLies : liesAt Tryd.prog Tryd.prog.depth 67 (2 / Tryd.prog.cellsOf 67) 0 67 1 = true := by kernel_rfl
theorem infoU8 : (Tryd.prog.info? 5).map (fun i => (i.zero, i.size, i.bytes)) = some (some (.int .u8 0), 1, 1) := by kernel_rfl
/-- A builder of the call's own, from block B on, in block b, that holds these bytes. -/
def Bld (B b : Nat) (l : List UInt8) (w : World) : Prop := Lib.IsBuilder 67 5 B b (Lib.byteCells l) w ∧ B ≤ w.heap.size
set_option maxRecDepth 100000 in
set_option maxHeartbeats 1000000 in
theorem copy_used (b : Nat) (w : World) (h : w.cell? ⟨b, 0, none⟩ = some (.pointer (some ⟨b, 0, none⟩))) :
    Calls Tryd.prog 58 #[.pointer (some ⟨b, 0, none⟩)] w fun e w' => e = .returned (.tuple #[]) ∧ w = w' := by
  obtain ⟨j, hj, _⟩ := Option.map_eq_some_iff.1 bldSize
  have hq := Lib.run_neq_ptr_same (P := Tryd.prog) w ⟨b, 0, none⟩ Tryd.underlying64 hj
  go_enter Tryd.func58, Tryd.ntmps58
  go_wp2
  go_end0
  exact ⟨rfl, rfl⟩
set_option maxRecDepth 100000 in
set_option maxHeartbeats 1000000 in
theorem copy_fresh (b : Nat) (w : World) (h : w.cell? ⟨b, 0, none⟩ = some (.pointer none)) (hs : w.shape? b = some (67, 2)) (hf : w.frozen? ⟨b, 0, none⟩ = false) :
    Calls Tryd.prog 58 #[.pointer (some ⟨b, 0, none⟩)] w fun e w' => e = .returned (.tuple #[]) ∧ w' = w.setCell ⟨b, 0, none⟩ (.pointer (some ⟨b, 0, none⟩)) := by
  obtain ⟨j, hj, hjs⟩ := Option.map_eq_some_iff.1 bldSize
  have HTO := Lib.hid (Lib.run_to_unsafe (P := Tryd.prog) w ⟨b, 0, none⟩ Tryd.underlying64 Tryd.underlying116 hj (by rw [hjs]; decide) hs (Nat.zero_lt_succ 1))
  have HFROM := Lib.hid (Lib.run_from_unsafe (P := Tryd.prog) w ⟨b, 0, none⟩ Tryd.underlying116 Tryd.underlying64 hj hs bldLies)
  clear hjs
  go_enter Tryd.func58, Tryd.ntmps58
  go_wp2
  rw [HTO.out]
  simp only [Result.andThen]
  rw [Oper.upon_value]
  go_wp2
  rw [run_callFunc_extern Tryd.func74 (by kernel_rfl) (by kernel_rfl) (by kernel_rfl) (e := Extern.AbiNoEscape.same) (by kernel_rfl), Lib.run_noEscape]
  simp only [Result.andThen]
  rw [Oper.upon_value]
  go_wp2
  rw [HFROM.out]
  simp only [Result.andThen]
  rw [Oper.upon_value]
  go_wp2
  go_end0
  exact ⟨rfl, rfl⟩
theorem copy_any (B b : Nat) (l : List UInt8) (w : World) (h : Bld B b l w) :
    Calls Tryd.prog 58 #[.pointer (some ⟨b, 0, none⟩)] w fun e w' => e = .returned (.tuple #[]) ∧ Lib.BuilderAt 67 5 B b (.pointer (some ⟨b, 0, none⟩)) (Lib.byteCells l) w' ∧ Below B w w' := by
  rcases h.1 with h | h
  · refine (copy_fresh b w h.cell0 h.shape h.frozen0).mono ?_
    rintro e w' ⟨rfl, rfl⟩
    exact ⟨rfl, h.used _, (Below.refl B w).setCell (p := ⟨b, 0, none⟩) h.1 _⟩
  · refine (copy_used b w h.cell0).mono ?_
    rintro e w' ⟨rfl, rfl⟩
    exact ⟨rfl, h, Below.refl B _⟩
theorem own_slice {w : World} {B e n : Nat} {v : Value} {xs : List Value} (h : w.ownsRow B e 1 v n xs) : ∃ ao k cap, v = .slice ao k cap := by
  rcases h.2 with ⟨h, _⟩ | ⟨g, cap, cur, h, _⟩
  · exact ⟨_, _, _, h⟩
  · exact ⟨_, _, _, h⟩
theorem strCells_bytes (s : ByteArray) : Lib.strCells s = Lib.byteCells s.data.toList := rfl
set_option maxRecDepth 100000 in
set_option maxHeartbeats 1000000 in
theorem write_any (B b : Nat) (l : List UInt8) (s : ByteArray) (w : World) (h : Bld B b l w) (hlen : l.length + s.size ≤ 140737488355328) :
    Calls Tryd.prog 34 #[.pointer (some ⟨b, 0, none⟩), .string s] w fun e w' => e = .returned (.tuple #[.int .i64 s.size, .nilIface]) ∧ Bld B b (l ++ s.data.toList) w' ∧ Below B w w' := by
  obtain ⟨i0, hi, hz0, hz1, hz2⟩ := info_parts infoU8
  have hBw := h.2
  have hll : (Lib.byteCells l).length = l.length := Lib.byteCells_length l
  have C := Lib.hid (copy_any B b l w h)
  clear h
  go_enter Tryd.func34, Tryd.ntmps34
  go_wp2_with fail
  refine (C.out).mono ?_
  rintro e w1 ⟨rfl, h1, hb1⟩
  obtain ⟨hB, v, hbk, hown, hne⟩ := h1
  have hsz := hb1.size
  have c0 : w1.cell? ⟨b, 0, none⟩ = some (.pointer (some ⟨b, 0, none⟩)) := by rw [Lib.cell_of_heap hbk]; rfl
  have c1 : w1.cell? ⟨b, 1, none⟩ = some v := by rw [Lib.cell_of_heap hbk]; rfl
  have hlt : b < w1.heap.size := by
    rcases Nat.lt_or_ge b w1.heap.size with h' | h'
    · exact h'
    · simp [Array.getElem?_eq_none h'] at hbk
  rw [hll] at hown
  have HBK := Lib.hid hbk
  clear hbk hll
  go_wp2_with (at_builtin; refine Lib.wpList_append_own_string _ rfl _ _ 65 9 rfl B 5 i0 Tryd.underlying65 Tryd.underlying9 hi hz0 hz1 hz2 _ _ _ rfl hown s rfl ?c3 ?c4 ?c5 ?_)
  case c3 => unfold maxLen; omega
  case c4 => omega
  case c5 => omega
  intro v' w2 hown' hgrow _
  have hb2 : w2.heap[b]? = some (.cells #[.pointer (some ⟨b, 0, none⟩), v] 67 (0, 0)) := by
    rw [hgrow.block b hlt (fun e => hne e.symm)]
    exact HBK.out
  have d0 : w2.cell? ⟨b, 0, none⟩ = some (.pointer (some ⟨b, 0, none⟩)) := by rw [Lib.cell_of_heap hb2]; rfl
  have d1 : w2.cell? ⟨b, 1, none⟩ = some v := by rw [Lib.cell_of_heap hb2]; rfl
  have f1 : w2.frozen? ⟨b, 1, none⟩ = false := Lib.frozen_of_heap hb2 1
  have HB2 := Lib.hid hb2
  clear hb2 c0 c1
  obtain ⟨ao, k, cap, rfl⟩ := own_slice hown'
  go_wp2
  go_ret2
  refine ⟨rfl, ⟨.inr ?_, ?_⟩, ?_⟩
  · refine Lib.BuilderAt.put hB HB2.out (bs' := Lib.byteCells (l ++ s.data.toList)) ?_ (by decide)
    rw [Lib.byteCells_append, ← strCells_bytes]
    simpa [Lib.strCells_length, Lib.byteCells_length] using hown'
  · have := hgrow.size; simp [World.setCell]; omega
  · exact (hb1.grown hgrow (by omega) (fun k hk => (hown.lt k hk).1)).setCell (p := ⟨b, 1, none⟩) hB _
theorem bld_new (w : World) : Bld w.heap.size w.heap.size [] (w.alloc (.cells #[.pointer none, .slice none 0 0] 67)) := ⟨Lib.fresh_isBuilder _ _ w, by simp⟩
theorem bld_string (B b : Nat) (l : List UInt8) (w : World) (h : Bld B b l w) :
    Calls Tryd.prog 35 #[.pointer (some ⟨b, 0, none⟩)] w fun e w' => e = .returned (.string ⟨l.toArray⟩) ∧ Below B w w' :=
  Tryd.Builder_String_any B b l w h.1 h.2
/-- A builder stands where nothing has turned but what lies behind. -/
theorem Bld.grown {B b : Nat} {l : List UInt8} {w w' : World} (h : Bld B b l w) (hb : Below w.heap.size w w') : Bld B b l w' := by
  obtain ⟨h1, h2⟩ := h
  have key : ∀ p, Lib.BuilderAt 67 5 B b p (Lib.byteCells l) w → Lib.BuilderAt 67 5 B b p (Lib.byteCells l) w' := by
    rintro p ⟨hB, v, hbk, hown, hne⟩
    have hlt : b < w.heap.size := by
      rcases Nat.lt_or_ge b w.heap.size with h' | h'
      · exact h'
      · simp [Array.getElem?_eq_none h'] at hbk
    refine ⟨hB, v, by rw [hb.block b hlt]; exact hbk, ?_, hne⟩
    exact hown.kept (row := none) ⟨hb.os, hb.tape, hb.output, hb.size, fun k hk _ => hb.block k hk⟩ (by cases v.ownBlock <;> simp)
  exact ⟨h1.elim (fun h => .inl (key _ h)) (fun h => .inr (key _ h)), Nat.le_trans h2 hb.size⟩
end Go.Proofs.YtlkdojcimlfmdaaDoor

namespace Go.Proofs.YtlkdojcimlfmdaaDoor
set_option maxRecDepth 100000
open Go.RowKit

theorem gTen : Tryd.prog.globalNamed "internal/strconv.uint64pow10" = some 1 := by kernel_rfl
/-- The library's table of tens is as a start leaves it. -/
def Ten (w : World) : Prop := Lib.TabIs Tryd.prog w "internal/strconv.uint64pow10" .u64 Lib.pow10Tab
theorem Ten.pos {w : World} (h : Ten w) : 1 < w.heap.size := by
  have := Lib.TabIs.cell h gTen 0 (by decide)
  exact block_lt this
theorem Ten.below {w w' : World} (h : Ten w) (hb : Below w.heap.size w w') : Ten w' := var?_below hb gTen h.pos h
theorem below_sort_grow (w : World) (k : Nat) (os : Array Obj) : Below w.heap.size w (Sort.grow (w.drewN k) os) :=
  ⟨rfl, rfl, rfl, by simp [Sort.grow, World.drewN], fun i hi => by
    have : (Sort.grow (w.drewN k) os).heap = w.heap ++ os := rfl
    rw [this, Array.getElem?_append_left hi]⟩
theorem itoa_ten (n : Int) (w : World) (he : Ten w) (hn : IntOk n) :
    Calls Tryd.prog 66 #[.int .i64 n] w fun e w' => e = .returned (.string ⟨(Lib.itoa n).toArray⟩) ∧ Below w.heap.size w w' := by
  refine (Tryd.strconv_Itoa n hn.1 hn.2 w he).mono fun e w' ⟨h, k, os, hw⟩ => ⟨h, ?_⟩
  subst hw
  exact below_sort_grow w k os
/-- A word, and numbers behind it, a blank ahead of each. -/
def joinTo (s : List UInt8) (l : List Int) : List UInt8 := s ++ l.flatMap fun n => 32 :: Lib.itoa n
theorem joinTo_nil (s : List UInt8) : joinTo s [] = s := by simp [joinTo]
theorem joinTo_succ (s : List UInt8) (l : List Int) (k : Nat) (hk : k < l.length) : joinTo s (l.take (k + 1)) = (joinTo s (l.take k) ++ [32]) ++ Lib.itoa l[k] := by
  unfold joinTo
  rw [List.take_succ_eq_append_getElem hk, List.flatMap_append]
  simp
theorem joinTo_len (s : List UInt8) : ∀ (l : List Int), (∀ n ∈ l, IntOk n) → (joinTo s l).length ≤ s.length + 22 * l.length := by
  intro l
  induction l with
  | nil => intro _; simp [joinTo]
  | cons a l ih =>
    intro h
    have h1 := ih (fun n hn => h n (List.mem_cons_of_mem _ hn))
    have ha := h a List.mem_cons_self
    have h2 := Lib.itoa_length_le a ha.1 ha.2
    unfold joinTo at *
    rw [List.flatMap_cons]
    simp only [List.length_append, List.length_cons] at *
    omega
def joinB (s : ByteArray) (l : List Int) : ByteArray := ⟨(joinTo s.data.toList l).toArray⟩
set_option maxHeartbeats 2000000 in
theorem join_ten (s : ByteArray) (va : Value) (l : List Int) (w : World) (he : Ten w) (hI : Ints w va l) (hl : ∀ n ∈ l, IntOk n) (hlen : s.size + 22 * l.length ≤ 1000000000) :
    Calls Tryd.prog 43 #[.string s, va] w fun e w' => e = .returned (.string (joinB s l)) ∧ Below w.heap.size w w' := by
  obtain ⟨ao, cap, rfl, hal⟩ := hI.form
  have hsl := Lib.size_eq s
  have HLEN : Hid (∀ k, k ≤ l.length → (joinTo s.data.toList (l.take k)).length ≤ s.size + 22 * k) := Lib.hid (fun k hk => by
    have := joinTo_len s.data.toList (l.take k) (fun n hn => hl n (List.mem_of_mem_take hn))
    rw [← hsl, List.length_take, Nat.min_eq_left hk] at this
    exact this)
  have HL := Lib.hid hl
  have HENV := Lib.hid he
  have hB0 := bld_new w
  have hb0 := (Below.refl w.heap.size w).alloc (Nat.le_refl _) (.cells #[.pointer none, .slice none 0 0] 67)
  have CW := Lib.hid (write_any w.heap.size w.heap.size [] s _ hB0 (by simp; omega))
  clear hl he hsl
  go_enter Tryd.func43, Tryd.ntmps43
  go_wp2_with fail
  refine (CW.out).mono ?_
  rintro e w1 ⟨rfl, hB1, hb1⟩
  have hbb := hb0.trans (hb1.mono (Nat.le_refl _))
  rw [List.nil_append] at hB1
  clear hB0 hb0 hb1 CW
  go_wp2_with fail
  go_loopw [12] (fun i wr => ∃ k : Nat, k ≤ l.length ∧ i = .int .i64 k ∧ Bld w.heap.size w.heap.size (joinTo s.data.toList (l.take k)) wr ∧ Below w.heap.size w wr) (fun i _ => l.length - (intOf i).toNat)
  case atStart => exact ⟨0, by omega, rfl, by rw [List.take_zero, joinTo_nil]; exact hB1, hbb⟩
  case round =>
    obtain ⟨k, hk, rfl, hB, hb⟩ := hrel
    have hszr := hb.size
    by_cases hlt : k < l.length
    · have hki : (k : Int) < (l.length : Int) := by omega
      obtain ⟨b, off, hao, hc⟩ := (hI.below hb).at hlt
      cases hao
      have hxi := HL.out l[k] (List.getElem_mem hlt)
      have HS := Lib.hid (joinTo_succ s.data.toList l k hlt)
      have hlk := HLEN.out k hk
      generalize joinTo s.data.toList (l.take k) = A at *
      generalize l[k] = x at *
      have CW1 := Lib.hid (write_any w.heap.size w.heap.size A ⟨#[32]⟩ wr hB (by have : (⟨#[32]⟩ : ByteArray).size = 1 := rfl; omega))
      have HX := Lib.hid hxi
      clear hxi hB
      go_wp2_with fail
      refine (CW1.out).mono ?_
      rintro e w2 ⟨rfl, hB2, hb2⟩
      have hb2' := hb.trans hb2
      clear CW1
      go_wp2_with fail
      refine (itoa_ten x w2 (HENV.out.below hb2') HX.out).mono ?_
      rintro e w3 ⟨rfl, hb3⟩
      have hB3 := hB2.grown hb3
      have hb3' := hb2'.trans (hb3.mono hb2'.size)
      have htl := Lib.itoa_length_le x HX.out.1 HX.out.2
      have hts : (⟨(Lib.itoa x).toArray⟩ : ByteArray).size = (Lib.itoa x).length := by simp [ByteArray.size]
      have CW2 := Lib.hid (write_any w.heap.size w.heap.size _ ⟨(Lib.itoa x).toArray⟩ w3 hB3 (by rw [hts]; simp; omega))
      obtain ⟨t, ht⟩ : ∃ t : ByteArray, t = ⟨(Lib.itoa x).toArray⟩ := ⟨_, rfl⟩
      have HT := Lib.hid ht
      rw [← ht] at CW2
      rw [← ht]
      clear ht hts htl hB2 hB3 hb2' hb2 hb3
      go_wp2_with fail
      refine (CW2.out).mono ?_
      rintro e w4 ⟨rfl, hB4, hb4⟩
      have hb4' := hb3'.trans hb4
      go_wp2_with fail
      go_roundw
      case rel => exact ⟨k + 1, by omega, by go_num, by rw [HS.out]; have h := HT.out; subst h; simpa using hB4, hb4'⟩
      case measure => simp [intOf]; omega
    · obtain rfl : k = l.length := by omega
      have CS := Lib.hid (bld_string w.heap.size w.heap.size _ wr hB)
      have HJ : Hid (joinB s l = ⟨(joinTo s.data.toList (l.take l.length)).toArray⟩) := Lib.hid (by rw [List.take_length]; rfl)
      clear hB
      go_wp2_with fail
      refine (CS.out).mono ?_
      rintro e w' ⟨rfl, hbs⟩
      rw [← HJ.out]
      go_wp2_with fail
      go_ret
      exact ⟨rfl, hb.trans hbs⟩
/-- An operation in words. -/
def textB (wr : Bool) (key val : Int) : ByteArray := joinB (if wr then ⟨#[119]⟩ else ⟨#[114]⟩) [key, val]
set_option maxHeartbeats 1000000 in
theorem text_ten (wr : Bool) (key val : Int) (w : World) (he : Ten w) (hk : IntOk key) (hv : IntOk val) :
    Calls Tryd.prog 44 #[.agg #[.bool wr, .int .i64 key, .int .i64 val]] w fun e w' => e = .returned (.string (textB wr key val)) ∧ Below w.heap.size w w' := by
  have hb1 := box_below w (.cells #[.bool wr, .int .i64 key, .int .i64 val] 26)
  have hb2 := hb1.trans ((box_below (w.alloc (.cells #[.bool wr, .int .i64 key, .int .i64 val] 26)) (.cells #[.int .i64 key, .int .i64 val] 3)).mono (by simp))
  have hI := ints_lit (w.alloc (.cells #[.bool wr, .int .i64 key, .int .i64 val] 26)) [key, val] #[.int .i64 key, .int .i64 val] 2 rfl rfl (by decide)
  rw [show (w.alloc (.cells #[.bool wr, .int .i64 key, .int .i64 val] 26)).heap.size = w.heap.size + 1 from by simp] at hI
  have CJ := fun s => join_ten s _ [key, val] _ (he.below hb2) hI (by intro n hn; simp at hn; rcases hn with rfl | rfl <;> assumption)
  have HJ := Lib.hid CJ
  clear CJ he hk hv hb1 hI
  cases wr
  all_goals
    go_enter Tryd.func44, Tryd.ntmps44
    go_wp2_with fail
    refine (HJ.out _ (by show 1 + 22 * 2 ≤ 1000000000; omega)).mono ?_
    rintro e w' ⟨rfl, hb⟩
    go_wp2_with fail
    go_ret
    exact ⟨rfl, hb2.trans (hb.mono hb2.size)⟩
end Go.Proofs.YtlkdojcimlfmdaaDoor

namespace Go.Proofs.YtlkdojcimlfmdaaDoor
set_option maxRecDepth 100000
open Go.ChangeShapes Go.WideShapes Go.ChangeAt Go.RowKit

theorem gTenType : (Tryd.prog.globals[1]?).map (·.type) = some 150 := by kernel_rfl
theorem cellsTen : Tryd.prog.cellsOf 150 = 20 := by kernel_rfl
theorem cellsU64 : Tryd.prog.cellsOf 99 = 1 := by kernel_rfl
/-- A datum's cells, two steps deep. -/
def leafV : DataW Unit → List Value
  | .lit (.int k n) => [.int k n]
  | .lit (.bool b) => [.bool b]
  | _ => []
def leafVV : DataW Unit → List Value
  | .agg ds => ds.flatMap fun d => match d with
    | .agg es => es.flatMap leafV
    | d => leafV d
  | d => leafV d
def setG (h : Array Obj) (g : Nat) (d : DataW Unit) : Array Obj := h.modify g fun
  | .cells _ t frozen => .cells (leafVV d).toArray t frozen
  | o => o
end Go.Proofs.YtlkdojcimlfmdaaDoor

namespace Go.Proofs.YtlkdojcimlfmdaaDoor
set_option maxRecDepth 100000

/-- The pieces of a text between a byte. -/
def cutL (c : UInt8) : List UInt8 → List (List UInt8)
  | [] => [[]]
  | b :: l => if b = c then [] :: cutL c l else (b :: (cutL c l).headD []) :: (cutL c l).tail
theorem cutL_ne (c : UInt8) (l : List UInt8) : cutL c l ≠ [] := by
  cases l with
  | nil => simp [cutL]
  | cons b l => unfold cutL; split <;> simp
theorem cutL_length (c : UInt8) : ∀ l : List UInt8, (cutL c l).length = l.count c + 1
  | [] => rfl
  | b :: l => by
    have ih := cutL_length c l
    unfold cutL
    split
    · rename_i h; subst h; simp [ih]
    · rename_i h
      have : (b :: l).count c = l.count c := List.count_cons_of_ne (by simpa using h)
      rw [this]; simp [ih]
theorem cutL_none {c : UInt8} : ∀ {l : List UInt8}, (∀ x ∈ l, x ≠ c) → cutL c l = [l]
  | [], _ => rfl
  | b :: l, h => by
    have hb := h b List.mem_cons_self
    have ih := cutL_none (l := l) (fun x hx => h x (List.mem_cons_of_mem _ hx))
    unfold cutL
    rw [if_neg hb, ih]; rfl
theorem cutL_app {c : UInt8} (r : List UInt8) : ∀ {a : List UInt8}, (∀ x ∈ a, x ≠ c) → cutL c (a ++ c :: r) = a :: cutL c r
  | [], _ => by simp [cutL]
  | b :: a, h => by
    have hb := h b List.mem_cons_self
    have ih := cutL_app r (a := a) (fun x hx => h x (List.mem_cons_of_mem _ hx))
    rw [List.cons_append, cutL, if_neg hb, ih]; rfl
/-- No byte of what stands from one place to another one is the one that is cut at. -/
def Clear (c : UInt8) (l : List UInt8) (a i : Nat) : Prop := ∀ x ∈ (l.drop a).take (i - a), x ≠ c
theorem clear_nil (c : UInt8) (l : List UInt8) (a : Nat) : Clear c l a a := by intro x hx; simp at hx
theorem clear_next {c : UInt8} {l : List UInt8} {a i : Nat} (h : Clear c l a i) (ha : a ≤ i) (hi : i < l.length) (hne : l[i] ≠ c) : Clear c l a (i + 1) := by
  intro x hx
  have e : i + 1 - a = (i - a) + 1 := by omega
  have hlt : i - a < (l.drop a).length := by rw [List.length_drop]; omega
  rw [e, List.take_succ_eq_append_getElem hlt, List.mem_append] at hx
  rcases hx with hx | hx
  · exact h x hx
  · rw [List.mem_singleton] at hx
    subst hx
    rw [List.getElem_drop]
    have : a + (i - a) = i := by omega
    simpa only [this] using hne
theorem cut_hit {c : UInt8} {l : List UInt8} {a i : Nat} (h : Clear c l a i) (ha : a ≤ i) (hi : i < l.length) (he : l[i] = c) :
    cutL c (l.drop a) = (l.drop a).take (i - a) :: cutL c (l.drop (i + 1)) := by
  have e : l.drop a = (l.drop a).take (i - a) ++ c :: l.drop (i + 1) := by
    have h1 : (l.drop a).drop (i - a) = l.drop i := by rw [List.drop_drop]; congr 1; omega
    have h2 : l.drop i = c :: l.drop (i + 1) := by rw [List.drop_eq_getElem_cons hi, he]
    rw [← h2, ← h1, List.take_append_drop]
  calc cutL c (l.drop a) = cutL c ((l.drop a).take (i - a) ++ c :: l.drop (i + 1)) := by rw [← e]
    _ = _ := cutL_app _ h
theorem cut_end {c : UInt8} {l : List UInt8} {a : Nat} (h : Clear c l a l.length) : cutL c (l.drop a) = [l.drop a] := by
  apply cutL_none
  intro x hx
  apply h x
  rw [List.take_of_length_le (by rw [List.length_drop]; omega)]
  exact hx

theorem index_app (c : UInt8) (r : List UInt8) : ∀ (a : List UInt8), (∀ x ∈ a, x ≠ c) → Lib.index (a ++ c :: r) [c] = (a.length : Int)
  | [], _ => by rw [List.nil_append, Lib.index]; simp [List.isPrefixOf]
  | b :: a, h => by
    have hb := h b List.mem_cons_self
    have ih := index_app c r a (fun x hx => h x (List.mem_cons_of_mem _ hx))
    have hp : ([c] : List UInt8).isPrefixOf (b :: (a ++ c :: r)) = false := by simp [List.isPrefixOf, Ne.symm hb]
    rw [List.cons_append, Lib.index, hp, ih]
    have : ((a.length : Int) == -1) = false := by rw [beq_eq_false_iff_ne]; omega
    simp [this]
theorem first_of (c : UInt8) : ∀ (l : List UInt8), (∀ x ∈ l, x ≠ c) ∨ ∃ a r, l = a ++ c :: r ∧ ∀ x ∈ a, x ≠ c
  | [] => .inl (by simp)
  | b :: l => by
    by_cases hb : b = c
    · exact .inr ⟨[], l, by rw [hb]; rfl, by simp⟩
    · rcases first_of c l with h | ⟨a, r, rfl, h⟩
      · refine .inl fun x hx => ?_
        rcases List.mem_cons.1 hx with rfl | hx
        · exact hb
        · exact h x hx
      · refine .inr ⟨b :: a, r, rfl, fun x hx => ?_⟩
        rcases List.mem_cons.1 hx with rfl | hx
        · exact hb
        · exact h x hx
theorem splitK_cut (c : UInt8) : ∀ (k : Nat) (l : List UInt8), l.count c = k → Lib.splitK [c] 0 k l = cutL c l
  | 0, l, h => by
    have hn : ∀ x ∈ l, x ≠ c := by
      intro x hx e
      subst e
      exact absurd (List.count_pos_iff.2 hx) (by omega)
    rw [Lib.splitK, cutL_none hn]
  | k + 1, l, h => by
    rcases first_of c l with hn | ⟨a, r, rfl, ha⟩
    · exfalso
      have : l.count c = 0 := List.count_eq_zero.2 (fun hm => hn c hm rfl)
      omega
    · have hix := index_app c r a ha
      have hm : (Lib.index (a ++ c :: r) [c] == -1) = false := by rw [hix, beq_eq_false_iff_ne]; omega
      have hc : r.count c = k := by
        have : a.count c = 0 := List.count_eq_zero.2 (fun hm => ha c hm rfl)
        rw [List.count_append, List.count_cons_self, this] at h
        omega
      rw [Lib.splitK, hm, hix, cutL_app r ha]
      simp only [Bool.false_eq_true, if_false, Int.toNat_natCast, Nat.add_zero, List.length_cons, List.length_nil]
      have e1 : (a ++ c :: r).take a.length = a := by simp
      have e2 : (a ++ c :: r).drop (a.length + (0 + 1)) = r := by
        rw [show a ++ c :: r = (a ++ [c]) ++ r from by simp]
        rw [List.drop_append_of_le_length (by simp)]
        simp
      rw [e1, e2, splitK_cut c k r hc]
/-- The pieces as texts. -/
def cutB (c : UInt8) (s : ByteArray) : List ByteArray := (cutL c s.data.toList).map fun l => ⟨l.toArray⟩
theorem byteArray_ext {a b : ByteArray} (h : a.data.toList = b.data.toList) : a = b := by
  obtain ⟨⟨a⟩⟩ := a; obtain ⟨⟨b⟩⟩ := b; simp at h; rw [h]
theorem splitB_cut (c : UInt8) (s : ByteArray) : Lib.splitB ⟨#[c]⟩ 0 (Lib.countB s ⟨#[c]⟩) s = cutB c s := by
  have h := Lib.splitB_data ⟨#[c]⟩ 0 (Lib.countB s ⟨#[c]⟩) s
  have hc : Lib.countB s ⟨#[c]⟩ = s.data.toList.count c := Lib.count_one c _
  rw [hc] at h ⊢
  rw [show (⟨#[c]⟩ : ByteArray).data.toList = [c] from rfl, splitK_cut c _ _ rfl] at h
  unfold cutB
  rw [← h, List.map_map]
  symm
  calc _ = (Lib.splitB ⟨#[c]⟩ 0 (s.data.toList.count c) s).map id := List.map_congr_left (fun a _ => byteArray_ext (by simp))
    _ = _ := List.map_id _
theorem countB_cut (c : UInt8) (s : ByteArray) : Lib.countB s ⟨#[c]⟩ = s.data.toList.count c := Lib.count_one c _
theorem cutB_length (c : UInt8) (s : ByteArray) : (cutB c s).length = s.data.toList.count c + 1 := by
  unfold cutB; rw [List.length_map, cutL_length]

/-- Is a byte a digit? -/
def isD (b : UInt8) : Bool := decide (48 ≤ b.toNat) && decide (b.toNat ≤ 57)
/-- What digits say. -/
def valL (l : List UInt8) : Nat := l.foldl (fun n b => n * 10 + (b.toNat - 48)) 0
/-- Is a word one number at least ahead of which there stands a nought? -/
def nought (l : List UInt8) : Bool := decide (1 < l.length) && (l.headD 0 == 48)
/-- Is a word a number? -/
def okN (l : List UInt8) : Bool := decide (0 < l.length) && l.all isD && !nought l && decide (valL l ≤ 2147483647)
def numV (l : List UInt8) : Nat := if okN l = true then valL l else 0
theorem valL_snoc (l : List UInt8) (b : UInt8) : valL (l ++ [b]) = valL l * 10 + (b.toNat - 48) := by unfold valL; rw [List.foldl_append]; rfl
theorem valL_mono (r : List UInt8) : ∀ l : List UInt8, valL l ≤ valL (l ++ r) := by
  induction r with
  | nil => intro l; simp
  | cons b r ih =>
    intro l
    have h1 := ih (l ++ [b])
    rw [List.append_assoc, List.singleton_append] at h1
    have h2 := valL_snoc l b
    omega
theorem valL_take_le (l : List UInt8) (k : Nat) : valL (l.take k) ≤ valL l := by
  have := valL_mono (l.drop k) (l.take k)
  rwa [List.take_append_drop] at this
theorem valL_take_succ (l : List UInt8) (k : Nat) (hk : k < l.length) : valL (l.take (k + 1)) = valL (l.take k) * 10 + (l[k].toNat - 48) := by
  rw [List.take_succ_eq_append_getElem hk, valL_snoc]
theorem okN_empty {l : List UInt8} (h : l.length = 0) : okN l = false := by
  unfold okN; simp [h]
theorem okN_nought {l : List UInt8} (h : nought l = true) : okN l = false := by
  unfold okN; simp [h]
theorem okN_digit {l : List UInt8} {k : Nat} (hk : k < l.length) (h : isD l[k] = false) : okN l = false := by
  unfold okN
  have : l.all isD = false := by
    rw [List.all_eq_false]
    exact ⟨l[k], List.getElem_mem hk, by simp [h]⟩
  simp [this]
theorem okN_big {l : List UInt8} {k : Nat} (h : 2147483647 < valL (l.take k)) : okN l = false := by
  unfold okN
  have := valL_take_le l k
  have : decide (valL l ≤ 2147483647) = false := by simp; omega
  simp [this]
theorem numV_no {l : List UInt8} (h : okN l = false) : numV l = 0 := by unfold numV; simp [h]
/-- All bytes ahead of a place are digits. -/
def digTo (l : List UInt8) (k : Nat) : Prop := ∀ b ∈ l.take k, isD b = true
theorem digTo_zero (l : List UInt8) : digTo l 0 := by intro b hb; simp at hb
theorem digTo_succ {l : List UInt8} {k : Nat} (h : digTo l k) (hk : k < l.length) (hd : isD l[k] = true) : digTo l (k + 1) := by
  intro b hb
  rw [List.take_succ_eq_append_getElem hk, List.mem_append] at hb
  rcases hb with hb | hb
  · exact h b hb
  · rw [List.mem_singleton] at hb; subst hb; exact hd
theorem okN_yes {l : List UInt8} (h0 : 0 < l.length) (hn : nought l = false) (hd : digTo l l.length) (hv : valL (l.take l.length) ≤ 2147483647) : okN l = true ∧ numV l = valL (l.take l.length) := by
  rw [List.take_length] at hv
  have h1 : okN l = true := by
    unfold okN
    have : l.all isD = true := by
      rw [List.all_eq_true]
      intro b hb
      exact hd b (by rw [List.take_length]; exact hb)
    simp [h0, hn, this, hv]
  exact ⟨h1, by unfold numV; rw [if_pos h1, List.take_length]⟩
theorem numV_le (l : List UInt8) : numV l ≤ 2147483647 := by
  unfold numV
  split
  · rename_i h; unfold okN at h; simp at h; exact h.2
  · omega

/-! ### Numerals -/
theorem isD_ofNat {d : Nat} (h : d < 10) : isD (UInt8.ofNat (48 + d)) = true ∧ (UInt8.ofNat (48 + d)).toNat = 48 + d := by
  have e : (UInt8.ofNat (48 + d)).toNat = 48 + d := by rw [UInt8.toNat_ofNat']; omega
  refine ⟨?_, e⟩
  unfold isD; rw [e]; simp; omega
theorem dec_small {u : Nat} (h : u < 10) : Lib.decDigits u = [UInt8.ofNat (48 + u)] := by rw [Lib.decDigits, dif_pos h]
theorem dec_big {u : Nat} (h : ¬ u < 10) : Lib.decDigits u = Lib.decDigits (u / 10) ++ [UInt8.ofNat (48 + u % 10)] := by rw [Lib.decDigits, dif_neg h]
theorem dec_all (u : Nat) : (∀ b ∈ Lib.decDigits u, isD b = true) ∧ valL (Lib.decDigits u) = u ∧ 0 < (Lib.decDigits u).length ∧ (0 < u → (Lib.decDigits u).headD 0 ≠ 48) := by
  induction u using Nat.strongRecOn with
  | _ u ih =>
    by_cases h : u < 10
    · obtain ⟨h1, h2⟩ := isD_ofNat h
      rw [dec_small h]
      refine ⟨?_, ?_, by simp, ?_⟩
      · intro b hb; rw [List.mem_singleton] at hb; subst hb; exact h1
      · unfold valL; simp only [List.foldl_cons, List.foldl_nil, h2]; omega
      · intro h0 he
        have : (UInt8.ofNat (48 + u)).toNat = 48 := by rw [show UInt8.ofNat (48 + u) = 48 from he]; rfl
        omega
    · obtain ⟨i1, i2, i3, i4⟩ := ih (u / 10) (by omega)
      obtain ⟨h1, h2⟩ := isD_ofNat (Nat.mod_lt u (by decide : 0 < 10))
      rw [dec_big h]
      refine ⟨?_, ?_, by simp, ?_⟩
      · intro b hb
        rw [List.mem_append] at hb
        rcases hb with hb | hb
        · exact i1 b hb
        · rw [List.mem_singleton] at hb; subst hb; exact h1
      · rw [valL_snoc, i2, h2]; omega
      · intro _
        have := i4 (by omega)
        cases hd : Lib.decDigits (u / 10) with
        | nil => rw [hd] at i3; simp at i3
        | cons a r => rw [hd] at this; simpa using this
theorem dec_nought (u : Nat) : nought (Lib.decDigits u) = false := by
  unfold nought
  by_cases h : u < 10
  · rw [dec_small h]; rfl
  · have h4 := (dec_all u).2.2.2 (by omega)
    have : ((Lib.decDigits u).headD 0 == 48) = false := by simpa using h4
    rw [this]; simp
/-- A word of digits, no nought ahead, is its number's numeral. -/
theorem dec_val : ∀ (n : Nat) (l : List UInt8), l.length = n → 0 < n → (∀ b ∈ l, isD b = true) → nought l = false → Lib.decDigits (valL l) = l ∧ (1 < n → 0 < valL l) := by
  intro n
  induction n with
  | zero => intro l _ h; omega
  | succ n ih =>
    intro l hl _ hd hn
    have hne : l ≠ [] := by intro e; subst e; simp at hl
    obtain ⟨m, d, rfl⟩ : ∃ m d, l = m ++ [d] := ⟨l.dropLast, l.getLast hne, (List.dropLast_concat_getLast hne).symm⟩
    have hml : m.length = n := by simp at hl; omega
    have hdd := hd d (by simp)
    have hd' : 48 ≤ d.toNat ∧ d.toNat ≤ 57 := by unfold isD at hdd; simp at hdd; exact hdd
    have hde : UInt8.ofNat (48 + (d.toNat - 48)) = d := by
      rw [show 48 + (d.toNat - 48) = d.toNat from by omega]; simp
    by_cases h0 : n = 0
    · subst h0
      have hm : m = [] := List.eq_nil_of_length_eq_zero hml
      subst hm
      have hv : valL [d] = d.toNat - 48 := by simp [valL]
      rw [List.nil_append, hv, dec_small (by omega), hde]
      exact ⟨rfl, by omega⟩
    · obtain ⟨a, r, rfl⟩ : ∃ a r, m = a :: r := by
        cases m with
        | nil => simp at hml; omega
        | cons a r => exact ⟨a, r, rfl⟩
      have ha : a ≠ 48 := by
        intro e; subst e
        unfold nought at hn
        simp at hn
      have hn' : nought (a :: r) = false := by
        unfold nought
        have : ((a :: r).headD 0 == 48) = false := by simpa using ha
        rw [this]; simp
      obtain ⟨i1, i2⟩ := ih (a :: r) hml (by omega) (fun b hb => hd b (List.mem_append_left _ hb)) hn'
      have hpos : 0 < valL (a :: r) := by
        by_cases h1 : 1 < n
        · exact i2 h1
        · have hr : r = [] := List.eq_nil_of_length_eq_zero (by simp at hml; omega)
          subst hr
          have hda := hd a (by simp)
          have : 48 ≤ a.toNat := by unfold isD at hda; simp at hda; exact hda.1
          have : a.toNat ≠ 48 := by intro e; exact ha (UInt8.toNat_inj.1 (by simpa using e))
          simp [valL]; omega
      rw [valL_snoc]
      refine ⟨?_, by omega⟩
      rw [dec_big (by omega)]
      rw [show (valL (a :: r) * 10 + (d.toNat - 48)) / 10 = valL (a :: r) by omega, show (valL (a :: r) * 10 + (d.toNat - 48)) % 10 = d.toNat - 48 by omega, i1, hde]
theorem dec_val' {l : List UInt8} (h0 : 0 < l.length) (hd : ∀ b ∈ l, isD b = true) (hn : nought l = false) : Lib.decDigits (valL l) = l := (dec_val l.length l rfl h0 hd hn).1
theorem dec_val_ne {l : List UInt8} (hn : nought l = true) : Lib.decDigits (valL l) ≠ l := by
  intro e
  have := dec_nought (valL l)
  rw [e, hn] at this; cases this
theorem pow_nDigits (u : Nat) : 0 < u → 10 ^ (Lib.nDigits u - 1) ≤ u := by
  induction u using Nat.strongRecOn with
  | _ u ih =>
    intro h0
    by_cases h : u < 10
    · rw [Lib.nDigits_small h]; simp; omega
    · have := ih (u / 10) (by omega) (by omega)
      have hp := Lib.nDigits_pos (u / 10)
      rw [Lib.nDigits_big h]
      obtain ⟨k, hk⟩ : ∃ k, Lib.nDigits (u / 10) = k + 1 := ⟨Lib.nDigits (u / 10) - 1, by omega⟩
      rw [hk] at this ⊢
      simp only [Nat.add_sub_cancel] at this ⊢
      rw [Nat.pow_succ]; omega
theorem dec_length (u : Nat) : (Lib.decDigits u).length = Lib.nDigits u := by rw [Lib.decDigits_eq]; simp
/-- A longer word of digits, no nought ahead, says more than ten digits can. -/
theorem val_long {l : List UInt8} (h : 10 < l.length) (hd : ∀ b ∈ l, isD b = true) (hn : nought l = false) : 2147483647 < valL l := by
  obtain ⟨h1, h2⟩ := dec_val l.length l rfl (by omega) hd hn
  have h3 := pow_nDigits (valL l) (h2 (by omega))
  rw [← dec_length, h1] at h3
  have h4 : 10 ^ 10 ≤ 10 ^ (l.length - 1) := Nat.pow_le_pow_right (by decide) (by omega)
  have h5 : (10 : Nat) ^ 10 = 10000000000 := by decide
  omega
theorem okN_dec {l : List UInt8} (h : okN l = true) : Lib.decDigits (numV l) = l := by
  have h' := h
  unfold okN at h'
  simp only [Bool.and_eq_true, decide_eq_true_eq, Bool.not_eq_true', List.all_eq_true] at h'
  obtain ⟨⟨⟨h0, hd⟩, hn⟩, _⟩ := h'
  unfold numV; rw [if_pos h]; exact dec_val' h0 hd hn
/-- What the reference asks of a word of digits: its numeral is itself, and it is no more than the greatest. -/
theorem okN_ref {l : List UInt8} (h0 : 0 < l.length) (hd : ∀ b ∈ l, isD b = true) : okN l = (decide (Lib.decDigits (valL l) = l) && decide (valL l ≤ 2147483647)) := by
  have ha : l.all isD = true := List.all_eq_true.2 hd
  unfold okN
  cases hn : nought l with
  | true => have := dec_val_ne hn; simp [this]
  | false => have := dec_val' h0 hd hn; simp [this, ha, h0]
end Go.Proofs.YtlkdojcimlfmdaaDoor

namespace Go.Proofs.YtlkdojcimlfmdaaDoor
set_option maxRecDepth 100000
open Go.RowKit

theorem ret_nb {a a' : Int} {b b' : Bool} (h : a = a') (k : b = b') : Ending.returned (.tuple #[.int .i64 a, .bool b]) = .returned (.tuple #[.int .i64 a', .bool b']) := by rw [h, k]
theorem at_data {s : ByteArray} {k : Nat} (h : k < s.size) : k < s.data.toList.length ∧ ∀ h', s.data.toList[k]'h' = s[k] := by
  have e : s.data.toList.length = s.size := (Lib.size_eq s).symm
  exact ⟨by omega, fun _ => rfl⟩
theorem empty_of {s : ByteArray} (h : s.size = 0) : s.toList = [] ∧ s.toList.isEmpty = true := by
  have : s.data.toList = [] := List.eq_nil_of_length_eq_zero (by rw [← Lib.size_eq]; exact h)
  rw [ByteArray.toList_eq, this]; exact ⟨rfl, rfl⟩
theorem some_of {s : ByteArray} (h : 0 < s.size) : (¬ s.toList = []) ∧ s.toList.isEmpty = false := by
  have : s.data.toList ≠ [] := by
    intro e
    have := Lib.size_eq s
    rw [e, List.length_nil] at this; omega
  rw [ByteArray.toList_eq]
  exact ⟨this, by cases h : s.data.toList with | nil => exact absurd h this | cons a l => rfl⟩
theorem headD_at : ∀ (l : List UInt8) (h : 0 < l.length), l.headD 0 = l[0]
  | _ :: _, _ => rfl
theorem nought_of {s : ByteArray} (h : 1 < s.size) : nought s.data.toList = ((s[0].toNat : Int) == 48) := by
  have hl := Lib.size_eq s
  obtain ⟨h0, e⟩ := at_data (s := s) (k := 0) (by omega)
  unfold nought
  have : s.data.toList.headD 0 = s[0] := by
    rw [← e h0]; exact headD_at _ h0
  rw [this, ← hl]
  have h1 : decide (1 < s.size) = true := by simp; omega
  rw [h1, Bool.true_and, Bool.eq_iff_iff, beq_iff_eq, beq_iff_eq]
  constructor
  · intro h; rw [h]; rfl
  · intro h; exact UInt8.toNat_inj.1 (by simpa using (by omega : s[0].toNat = 48))
theorem nought_one {s : ByteArray} (h : s.size = 1) : nought s.data.toList = false := by
  unfold nought; rw [← Lib.size_eq s, h]; rfl
/-- The loop of Number, behind its first look. -/
def NumAt (l : List UInt8) (k : Nat) (v : Nat) : Prop := digTo l k ∧ v = valL (l.take k) ∧ v ≤ 2147483647
theorem NumAt.start (l : List UInt8) : NumAt l 0 0 := ⟨digTo_zero l, rfl, by omega⟩
theorem isD_iff (b : UInt8) : isD b = true ↔ 48 ≤ b.toNat ∧ b.toNat ≤ 57 := by unfold isD; simp
theorem NumAt.next {s : ByteArray} {k v : Nat} (h : NumAt s.data.toList k v) (hk : k < s.size) (h0 : 48 ≤ s[k].toNat) (h1 : s[k].toNat ≤ 57) (h2 : v * 10 + (s[k].toNat - 48) ≤ 2147483647) :
    NumAt s.data.toList (k + 1) (v * 10 + (s[k].toNat - 48)) := by
  obtain ⟨hl, e⟩ := at_data hk
  obtain ⟨hd, rfl, _⟩ := h
  exact ⟨digTo_succ hd hl (by rw [e hl]; exact (isD_iff _).2 ⟨h0, h1⟩), by rw [valL_take_succ _ _ hl, e hl], h2⟩
theorem NumAt.no {s : ByteArray} {k v : Nat} (h : NumAt s.data.toList k v) (hk : k < s.size) (hn : s[k].toNat < 48 ∨ 57 < s[k].toNat ∨ 2147483647 < v * 10 + (s[k].toNat - 48)) : okN s.data.toList = false := by
  obtain ⟨hl, e⟩ := at_data hk
  obtain ⟨hd, rfl, _⟩ := h
  have hx : isD s[k] = false → okN s.data.toList = false := fun h => okN_digit hl (by rw [e hl]; exact h)
  rcases hn with hn | hn | hn
  · exact hx (by cases h : isD s[k]; rfl; have := (isD_iff _).1 h; omega)
  · exact hx (by cases h : isD s[k]; rfl; have := (isD_iff _).1 h; omega)
  · exact okN_big (k := k + 1) (by rw [valL_take_succ _ _ hl, e hl]; exact hn)
theorem NumAt.yes {s : ByteArray} {k v : Nat} (h : NumAt s.data.toList k v) (hk : k = s.size) (h0 : 0 < s.size) (hn : nought s.data.toList = false) : okN s.data.toList = true ∧ numV s.data.toList = v := by
  have hl := Lib.size_eq s
  subst hk
  obtain ⟨hd, rfl, hv⟩ := h
  rw [hl] at hd hv h0 ⊢
  exact okN_yes h0 hn hd hv
theorem num_step (v c : Nat) (h : 48 ≤ c) : ((v : Int) * 10 + ((c : Int) - 48)) = ((v * 10 + (c - 48) : Nat) : Int) := by omega
set_option maxHeartbeats 1000000 in
theorem number_any (s : ByteArray) (w : World) (hs : s.size ≤ maxLen) :
    Calls Tryd.prog 91 #[.string s] w fun e w' => e = .returned (.tuple #[.int .i64 ((numV s.data.toList : Nat) : Int), .bool (okN s.data.toList)]) ∧ w = w' := by
  unfold maxLen at hs
  by_cases h0 : s.size = 0
  · obtain ⟨h1, h2⟩ := empty_of h0
    have hk := okN_empty (l := s.data.toList) (by rw [← Lib.size_eq]; exact h0)
    have H := Lib.hid (show (0 : Int) = ((numV s.data.toList : Nat) : Int) ∧ false = okN s.data.toList from ⟨by rw [numV_no hk]; rfl, hk.symm⟩)
    clear hk h0
    go_enter Tryd.func91, Tryd.ntmps91
    go_wp2_with fail
    go_ret2
    exact ⟨ret_nb H.out.1 H.out.2, rfl⟩
  have hpos : 0 < s.size := by omega
  obtain ⟨h1, h2⟩ := some_of hpos
  clear h0
  by_cases hno : nought s.data.toList = true
  · have hk := okN_nought hno
    have H := Lib.hid (show (0 : Int) = ((numV s.data.toList : Nat) : Int) ∧ false = okN s.data.toList from ⟨by rw [numV_no hk]; rfl, hk.symm⟩)
    have hl : 1 < s.size := by
      by_cases h : s.size = 1
      · rw [nought_one h] at hno; cases hno
      · omega
    have hl' : (1 : Int) < (s.size : Int) := by omega
    have h48 := nought_of hl
    rw [hno] at h48
    have h48' : ((s[0].toNat : Int) == 48) = true := h48.symm
    clear hk hno h48
    go_enter Tryd.func91, Tryd.ntmps91
    go_wp2_with fail
    go_ret2
    exact ⟨ret_nb H.out.1 H.out.2, rfl⟩
  have hno' : nought s.data.toList = false := by simpa using hno
  have HNO := Lib.hid hno'
  clear hno hno'
  have HS : Hid (NumAt s.data.toList 0 0) := Lib.hid (NumAt.start _)
  rcases Nat.lt_or_ge 1 s.size with hl | hl
  case' inl =>
    have hl' : (1 : Int) < (s.size : Int) := by omega
    have h48 := nought_of hl
    rw [HNO.out] at h48
    have h48' : ((s[0].toNat : Int) == 48) = false := h48.symm
    clear h48
  case' inr =>
    have hl' : ¬ (1 : Int) < (s.size : Int) := by omega
  all_goals
    go_enter Tryd.func91, Tryd.ntmps91
    go_wp2_with fail
    go_loop [4, 21] (fun n i => ∃ k v : Nat, k ≤ s.size ∧ i = .int .i64 k ∧ n = .int .i64 v ∧ NumAt s.data.toList k v) (fun _ i => s.size - (intOf i).toNat)
    case atStart => exact ⟨0, 0, by omega, rfl, rfl, HS.out⟩
    case round =>
      obtain ⟨k, v, hk, rfl, rfl, hat⟩ := hrel
      have hv : (v : Int) ≤ 2147483647 := by have := hat.2.2; omega
      have hv0 : (0 : Int) ≤ (v : Int) := by omega
      have HAT := Lib.hid hat
      clear hat h1 h2
      by_cases hlt : k < s.size
      · have hki : (k : Int) < (s.size : Int) := by omega
        have hb : s[k].toNat < 256 := UInt8.toNat_lt _
        by_cases hbad : s[k].toNat < 48 ∨ 57 < s[k].toNat ∨ 2147483647 < v * 10 + (s[k].toNat - 48)
        · have hk0 := HAT.out.no hlt hbad
          have H := Lib.hid (show (0 : Int) = ((numV s.data.toList : Nat) : Int) ∧ false = okN s.data.toList from ⟨by rw [numV_no hk0]; rfl, hk0.symm⟩)
          clear hk0
          by_cases c1 : (s[k].toNat : Int) - 48 < 0
          · go_wp2_with fail
            go_ret2
            exact ⟨ret_nb H.out.1 H.out.2, rfl⟩
          · by_cases c2 : 9 < (s[k].toNat : Int) - 48
            · go_wp2_with fail
              go_ret2
              exact ⟨ret_nb H.out.1 H.out.2, rfl⟩
            · have c3 : (2147483647 - ((s[k].toNat : Int) - 48)) / 10 < (v : Int) := by omega
              go_wp2_with fail
              go_ret2
              exact ⟨ret_nb H.out.1 H.out.2, rfl⟩
        · have b1 : 48 ≤ s[k].toNat := by omega
          have b2 : s[k].toNat ≤ 57 := by omega
          have b3 : v * 10 + (s[k].toNat - 48) ≤ 2147483647 := by omega
          have HN := Lib.hid (HAT.out.next hlt b1 b2 b3)
          have HE := Lib.hid (num_step v s[k].toNat b1)
          have c1 : ¬ (s[k].toNat : Int) - 48 < 0 := by omega
          have c2 : ¬ 9 < (s[k].toNat : Int) - 48 := by omega
          have c3 : ¬ (2147483647 - ((s[k].toNat : Int) - 48)) / 10 < (v : Int) := by omega
          have c4 : (v : Int) * 10 + ((s[k].toNat : Int) - 48) ≤ 2147483647 := by omega
          clear hbad b3
          go_wp2_with fail
          go_round
          case rel => exact ⟨k + 1, _, by omega, by go_num, by rw [HE.out], HN.out⟩
          case measure => simp [intOf]; omega
      · obtain ⟨e1, e2⟩ := HAT.out.yes (by omega) hpos HNO.out
        have H := Lib.hid (show ((v : Nat) : Int) = ((numV s.data.toList : Nat) : Int) ∧ true = okN s.data.toList from ⟨by rw [e2], e1.symm⟩)
        clear e1 e2
        go_wp2_with fail
        go_ret2
        exact ⟨ret_nb H.out.1 H.out.2, rfl⟩
end Go.Proofs.YtlkdojcimlfmdaaDoor

namespace Go.Proofs.YtlkdojcimlfmdaaDoor
set_option maxRecDepth 100000
open Go.RowKit

theorem ret_s {a b : ByteArray} (h : a = b) : Ending.returned (.string a) = .returned (.string b) := by rw [h]
theorem itoa_pos {n : Int} (h0 : 0 ≤ n) (h : ¬ n < 10) : Lib.itoa n = Lib.itoa (n / 10) ++ [UInt8.ofNat (48 + (n % 10).toNat)] := by
  obtain ⟨u, rfl⟩ := Int.eq_ofNat_of_zero_le h0
  have e1 : ¬ (u : Int) < 0 := by omega
  have e2 : ¬ (u : Int) / 10 < 0 := by omega
  have e3 : ((u : Int) / 10).toNat = u / 10 := by omega
  have e4 : ((u : Int) % 10).toNat = u % 10 := by omega
  unfold Lib.itoa
  rw [if_neg e1, if_neg e2, e3, e4, Int.toNat_natCast, dec_big (by omega)]
theorem itoa_digit {n : Int} (h0 : 0 ≤ n) (h : n < 10) : Lib.itoa n = [UInt8.ofNat (48 + n.toNat)] := by
  unfold Lib.itoa
  rw [if_neg (by omega), dec_small (by omega)]
theorem itoa_neg {n : Int} (h0 : n < 0) (h : n ≤ -10) : Lib.itoa n = Lib.itoa (n.tdiv 10) ++ [UInt8.ofNat (48 + (-(n.tmod 10)).toNat)] := by
  obtain ⟨u, rfl⟩ : ∃ u : Nat, n = -(u : Int) := ⟨n.natAbs, by omega⟩
  have hu : 10 ≤ u := by omega
  have e0 : (-(u : Int)).tdiv 10 = -((u / 10 : Nat) : Int) := by rw [Int.neg_tdiv]; congr 1
  have e5 : (-(u : Int)).tmod 10 = -((u % 10 : Nat) : Int) := by rw [Int.neg_tmod]; congr 1
  have e1 : -((u / 10 : Nat) : Int) < 0 := by omega
  have e2 : (-((u / 10 : Nat) : Int)).natAbs = u / 10 := by omega
  have e3 : (-(u : Int)).natAbs = u := by omega
  have e4 : (- -((u % 10 : Nat) : Int)).toNat = u % 10 := by omega
  rw [e0, e5, e4]
  unfold Lib.itoa
  rw [if_pos h0, if_pos e1, e2, e3, dec_big (by omega)]
  rfl
theorem itoa_neg_digit {n : Int} (h0 : n < 0) (h : -10 < n) : Lib.itoa n = [45, UInt8.ofNat (48 + (-n).toNat)] := by
  unfold Lib.itoa
  rw [if_pos h0, dec_small (by omega)]
  have : (-n).toNat = n.natAbs := by omega
  rw [this]
theorem one_str (w : World) (d : Int) (c : UInt8) (h : d = (c.toNat : Int)) :
    (convert 65 9 (.slice (some ⟨w.heap.size, 0, none⟩) 1 1)).run Tryd.prog (w.alloc (.cells #[.int .u8 d] 5)) = .ok (.string ⟨#[c]⟩) (w.alloc (.cells #[.int .u8 d] 5)) := by
  subst h
  refine run_convert_bytes_back (P := Tryd.prog) (w.alloc (.cells #[.int .u8 (c.toNat : Int)] 5)) 65 9 5 ⟨w.heap.size, 0, none⟩ 1 [c] Tryd.underlying65 Tryd.underlying5 Tryd.underlying9 (fun j hj => ?_)
  obtain rfl : j = 0 := by simp at hj; omega
  simp [Addr.add]
theorem dig_at {d : Nat} (h : d < 10) : (48 : Int) + (d : Int) = ((UInt8.ofNat (48 + d)).toNat : Int) := by rw [(isD_ofNat h).2]; omega
theorem str_app (t : ByteArray) (l m : List UInt8) (c : UInt8) (h : t = ⟨l.toArray⟩) (k : m = l ++ [c]) : t ++ ⟨#[c]⟩ = ⟨m.toArray⟩ := by
  subst h; subst k
  exact ByteArray.mk_append_mk _ _
theorem itoa_short {n : Int} (h0 : -9223372036854775808 ≤ n) (h1 : n ≤ 9223372036854775807) {t : ByteArray} (ht : t = ⟨(Lib.itoa n).toArray⟩) : (t.size : Int) ≤ 100 := by
  have := Lib.itoa_length_le n h0 h1
  subst ht
  have e : (⟨(Lib.itoa n).toArray⟩ : ByteArray).size = (Lib.itoa n).length := by simp [ByteArray.size]
  rw [e]; omega
theorem dig_pos (n : Int) : ∃ c : UInt8, (48 + n % 10 = (c.toNat : Int)) ∧ c = UInt8.ofNat (48 + (n % 10).toNat) :=
  ⟨_, by rw [← dig_at (by omega)]; omega, rfl⟩
theorem tm_neg {n : Int} (h : n < 0) : n.tmod 10 = -((-n) % 10) ∧ n.tdiv 10 = -((-n) / 10) := by
  obtain ⟨u, rfl⟩ : ∃ u : Nat, n = -(u : Int) := ⟨n.natAbs, by omega⟩
  rw [Int.neg_tmod, Int.neg_tdiv, Int.neg_neg]
  exact ⟨rfl, rfl⟩
theorem dig_neg {n : Int} (h0 : n < 0) : ∃ c : UInt8, (wrap64 (48 - n.tmod 10) % 256 = (c.toNat : Int)) ∧ c = UInt8.ofNat (48 + (-(n.tmod 10)).toNat) := by
  obtain ⟨e, _⟩ := tm_neg h0
  have h : -10 < n.tmod 10 ∧ n.tmod 10 ≤ 0 := by omega
  refine ⟨_, ?_, rfl⟩
  rw [← dig_at (by omega)]
  unfold wrap64
  omega
set_option maxRecDepth 100000 in
set_option maxHeartbeats 1000000 in
theorem num_digit (n : Int) (w : World) (h0 : 0 ≤ n) (h10 : n < 10) :
    Calls Tryd.prog 92 #[.int .i64 n] w fun e w' => e = .returned (.string ⟨(Lib.itoa n).toArray⟩) ∧ Below w.heap.size w w' := by
  obtain ⟨c, hc, he⟩ := dig_pos n
  have hcv := one_str w (48 + n % 10) c hc
  have HE : Hid (Lib.itoa n = [c]) := Lib.hid (by rw [he, itoa_digit h0 h10]; congr 3; omega)
  have hn : ¬ n < 0 := by omega
  clear hc he
  go_enter Tryd.func92, Tryd.ntmps92
  go_wp2_with fail
  go_ret
  exact ⟨ret_s (by rw [HE.out]), (Below.refl _ _).alloc (Nat.le_refl _) _⟩
set_option maxRecDepth 100000 in
set_option maxHeartbeats 1000000 in
theorem num_nat (k : Nat) : ∀ (n : Int) (w : World), 0 ≤ n → Hid (n < 10 ^ k * 10) → n ≤ 9223372036854775807 →
    Calls Tryd.prog 92 #[.int .i64 n] w fun e w' => e = .returned (.string ⟨(Lib.itoa n).toArray⟩) ∧ Below w.heap.size w w' := by
  induction k with
  | zero =>
    intro n w h0 h1 h2
    exact num_digit n w h0 (by have := h1.out; omega)
  | succ k ih =>
    intro n w h0 h1 h2
    by_cases h10 : n < 10
    · exact num_digit n w h0 h10
    · obtain ⟨c, hc, he⟩ := dig_pos n
      have hcv := one_str w (48 + n % 10) c hc
      have HE := Lib.hid (itoa_pos h0 h10)
      rw [← he] at HE
      clear hc he
      have hn : ¬ n < 0 := by omega
      have HI := Lib.hid (ih (n / 10) (w.alloc (.cells #[.int .u8 (48 + n % 10)] 5)) (by omega) (Lib.hid (by have := h1.out; rw [Int.pow_succ] at this; omega)) (by omega))
      clear ih
      go_enter Tryd.func92, Tryd.ntmps92
      go_wp2_with fail
      refine (HI.out).mono ?_
      rintro e w1 ⟨rfl, hb⟩
      obtain ⟨t, ht⟩ : ∃ t : ByteArray, t = ⟨(Lib.itoa (n / 10)).toArray⟩ := ⟨_, rfl⟩
      rw [← ht]
      have hts := itoa_short (by omega) (by omega) ht
      have HT := Lib.hid ht
      clear ht hcv HI
      go_wp2_with fail
      go_ret
      exact ⟨ret_s (str_app t _ _ _ HT.out HE.out), ((Below.refl _ _).alloc (Nat.le_refl _) _).trans (hb.mono (by simp))⟩
set_option maxRecDepth 100000 in
set_option maxHeartbeats 1000000 in
theorem num_minus (n : Int) (w : World) (h0 : n < 0) (h10 : -10 < n) :
    Calls Tryd.prog 92 #[.int .i64 n] w fun e w' => e = .returned (.string ⟨(Lib.itoa n).toArray⟩) ∧ Below w.heap.size w w' := by
  obtain ⟨c, hc, he⟩ := dig_neg h0
  have hcv := one_str w (wrap64 (48 - n.tmod 10) % 256) c hc
  have HE : Hid (Lib.itoa n = [45] ++ [c]) := Lib.hid (by
    obtain ⟨e, _⟩ := tm_neg h0
    have e2 : (-n.tmod 10).toNat = (-n).toNat := by omega
    rw [he, itoa_neg_digit h0 h10, e2]; rfl)
  clear hc he
  go_enter Tryd.func92, Tryd.ntmps92
  go_wp2_with fail
  go_ret
  exact ⟨ret_s (str_app ⟨#[45]⟩ _ _ _ rfl HE.out), (Below.refl _ _).alloc (Nat.le_refl _) _⟩
set_option maxRecDepth 100000 in
set_option maxHeartbeats 1000000 in
theorem num_neg (k : Nat) : ∀ (n : Int) (w : World), n < 0 → Hid (-n < 10 ^ k * 10) → -9223372036854775808 ≤ n →
    Calls Tryd.prog 92 #[.int .i64 n] w fun e w' => e = .returned (.string ⟨(Lib.itoa n).toArray⟩) ∧ Below w.heap.size w w' := by
  induction k with
  | zero =>
    intro n w h0 h1 h2
    exact num_minus n w h0 (by have := h1.out; omega)
  | succ k ih =>
    intro n w h0 h1 h2
    by_cases h10 : -10 < n
    · exact num_minus n w h0 h10
    · obtain ⟨c, hc, he⟩ := dig_neg h0
      have htd := (tm_neg h0).2
      have hcv := one_str w (wrap64 (48 - n.tmod 10) % 256) c hc
      have HE := Lib.hid (itoa_neg h0 (by omega))
      rw [← he] at HE
      clear hc he
      have HI := Lib.hid (ih (n.tdiv 10) (w.alloc (.cells #[.int .u8 (wrap64 (48 - n.tmod 10) % 256)] 5)) (by omega) (Lib.hid (by have := h1.out; rw [Int.pow_succ] at this; omega)) (by omega))
      have HB := Lib.hid (show -9223372036854775808 ≤ n.tdiv 10 ∧ n.tdiv 10 ≤ 9223372036854775807 from by omega)
      clear ih htd
      go_enter Tryd.func92, Tryd.ntmps92
      go_wp2_with fail
      refine (HI.out).mono ?_
      rintro e w1 ⟨rfl, hb⟩
      obtain ⟨t, ht⟩ : ∃ t : ByteArray, t = ⟨(Lib.itoa (n.tdiv 10)).toArray⟩ := ⟨_, rfl⟩
      rw [← ht]
      have hts := itoa_short HB.out.1 HB.out.2 ht
      have HT := Lib.hid ht
      clear ht hcv HI
      go_wp2_with fail
      go_ret
      exact ⟨ret_s (str_app t _ _ _ HT.out HE.out), ((Below.refl _ _).alloc (Nat.le_refl _) _).trans (hb.mono (by simp))⟩
theorem rnum_any (n : Int) (w : World) (h0 : -9223372036854775808 ≤ n) (h1 : n ≤ 9223372036854775807) :
    Calls Tryd.prog 92 #[.int .i64 n] w fun e w' => e = .returned (.string ⟨(Lib.itoa n).toArray⟩) ∧ Below w.heap.size w w' := by
  by_cases h : 0 ≤ n
  · exact num_nat 19 n w h (Lib.hid (by omega)) h1
  · exact num_neg 19 n w (by omega) (Lib.hid (by omega)) h0
end Go.Proofs.YtlkdojcimlfmdaaDoor

namespace Go.Proofs.YtlkdojcimlfmdaaDoor
set_option maxRecDepth 100000
open Go.RowKit

/-- The loop of the reference's Number. -/
def RNumAt (l : List UInt8) (k : Nat) (v : Nat) : Prop := digTo l k ∧ v = valL (l.take k) ∧ v < 10 ^ k
theorem RNumAt.start (l : List UInt8) : RNumAt l 0 0 := ⟨digTo_zero l, rfl, by decide⟩
theorem RNumAt.next {s : ByteArray} {k v : Nat} (h : RNumAt s.data.toList k v) (hk : k < s.size) (h0 : 48 ≤ s[k].toNat) (h1 : s[k].toNat ≤ 57) :
    RNumAt s.data.toList (k + 1) (v * 10 + (s[k].toNat - 48)) := by
  obtain ⟨hl, e⟩ := at_data hk
  obtain ⟨hd, rfl, hv⟩ := h
  exact ⟨digTo_succ hd hl (by rw [e hl]; exact (isD_iff _).2 ⟨h0, h1⟩), by rw [valL_take_succ _ _ hl, e hl], by rw [Nat.pow_succ]; omega⟩
theorem RNumAt.no {s : ByteArray} {k : Nat} (hk : k < s.size) (hn : s[k].toNat < 48 ∨ 57 < s[k].toNat) : okN s.data.toList = false := by
  obtain ⟨hl, e⟩ := at_data hk
  refine okN_digit hl ?_
  rw [e hl]
  cases h : isD s[k]
  · rfl
  · have := (isD_iff _).1 h; omega
theorem RNumAt.fin {s : ByteArray} {k v : Nat} (h : RNumAt s.data.toList k v) (hk : k = s.size) (h0 : 0 < s.size) :
    v = valL s.data.toList ∧ okN s.data.toList = (decide (Lib.decDigits v = s.data.toList) && decide (v ≤ 2147483647)) := by
  have hl := Lib.size_eq s
  subst hk
  obtain ⟨hd, rfl, hv⟩ := h
  rw [hl] at hd h0 ⊢
  rw [List.take_length]
  exact ⟨rfl, okN_ref h0 (by intro b hb; exact hd b (by rw [List.take_length]; exact hb))⟩
theorem pow_ten (k : Nat) (hk : k ≤ 10) : 10 ^ k ≤ 10000000000 := Nat.le_trans (Nat.pow_le_pow_right (by decide) hk) (by decide)
theorem okN_long {s : ByteArray} (h : 10 < s.size) : okN s.data.toList = false := by
  rw [Lib.size_eq] at h
  cases hn : nought s.data.toList
  · cases ha : s.data.toList.all isD
    · unfold okN; simp [ha]
    · have := val_long h (List.all_eq_true.1 ha) hn
      unfold okN
      have : decide (valL s.data.toList ≤ 2147483647) = false := by simp; omega
      simp [this]
  · exact okN_nought hn
set_option maxHeartbeats 1000000 in
theorem rnumber_any (s : ByteArray) (w : World) (hs : s.size ≤ maxLen) :
    Calls Tryd.prog 73 #[.string s] w fun e w' => e = .returned (.tuple #[.int .i64 ((numV s.data.toList : Nat) : Int), .bool (okN s.data.toList)]) ∧ Below w.heap.size w w' := by
  unfold maxLen at hs
  have NO : okN s.data.toList = false → (0 : Int) = ((numV s.data.toList : Nat) : Int) ∧ false = okN s.data.toList := fun h => ⟨by rw [numV_no h]; rfl, h.symm⟩
  by_cases h0 : s.size < 1
  · have H := Lib.hid (NO (okN_empty (by rw [← Lib.size_eq]; omega)))
    have h0' : (s.size : Int) < 1 := by omega
    clear NO
    go_enter Tryd.func73, Tryd.ntmps73
    go_wp2_with fail
    go_ret2
    exact ⟨ret_nb H.out.1 H.out.2, Below.refl _ _⟩
  have h0' : ¬ (s.size : Int) < 1 := by omega
  by_cases h1 : 10 < s.size
  · have H := Lib.hid (NO (okN_long h1))
    have h1' : (10 : Int) < (s.size : Int) := by omega
    clear NO
    go_enter Tryd.func73, Tryd.ntmps73
    go_wp2_with fail
    go_ret2
    exact ⟨ret_nb H.out.1 H.out.2, Below.refl _ _⟩
  have h1' : ¬ (10 : Int) < (s.size : Int) := by omega
  have HS := Lib.hid (RNumAt.start s.data.toList)
  have HNO := Lib.hid NO
  clear NO
  go_enter Tryd.func73, Tryd.ntmps73
  go_wp2_with fail
  go_loop [4, 5] (fun n i => ∃ k v : Nat, k ≤ s.size ∧ i = .int .i64 k ∧ n = .int .i64 v ∧ RNumAt s.data.toList k v) (fun _ i => s.size - (intOf i).toNat)
  case atStart => exact ⟨0, 0, by omega, rfl, rfl, HS.out⟩
  case round =>
    obtain ⟨k, v, hk, rfl, rfl, hat⟩ := hrel
    have hv : (v : Int) ≤ 10000000000 := by have := hat.2.2; have := pow_ten k (by omega); omega
    have hv0 : (0 : Int) ≤ (v : Int) := by omega
    have HAT := Lib.hid hat
    clear hat
    by_cases hlt : k < s.size
    · have hki : (k : Int) < (s.size : Int) := by omega
      have hb : s[k].toNat < 256 := UInt8.toNat_lt _
      by_cases c1 : (s[k].toNat : Int) < 48
      · have H := Lib.hid (HNO.out (RNumAt.no hlt (by omega)))
        go_wp2_with fail
        go_ret2
        exact ⟨ret_nb H.out.1 H.out.2, Below.refl _ _⟩
      · by_cases c2 : 57 < (s[k].toNat : Int)
        · have H := Lib.hid (HNO.out (RNumAt.no hlt (by omega)))
          go_wp2_with fail
          go_ret2
          exact ⟨ret_nb H.out.1 H.out.2, Below.refl _ _⟩
        · have HN := Lib.hid (HAT.out.next hlt (by omega) (by omega))
          have HE := Lib.hid (num_step v s[k].toNat (by omega))
          go_wp2_with fail
          go_round
          case rel => exact ⟨k + 1, _, by omega, by go_num, by rw [HE.out], HN.out⟩
          case measure => simp [intOf]; omega
    · obtain ⟨e1, e2⟩ := HAT.out.fin (by omega) (by omega)
      have H1 := Lib.hid e1
      have H2 := Lib.hid e2
      clear e1 e2
      have HC := Lib.hid (rnum_any (v : Int) w (by omega) (by omega))
      go_wp2_with fail
      refine (HC.out).mono ?_
      rintro e w1 ⟨rfl, hbw⟩
      obtain ⟨t, ht⟩ : ∃ t : ByteArray, t = ⟨(Lib.itoa (v : Int)).toArray⟩ := ⟨_, rfl⟩
      rw [← ht]
      have HT : Hid (t.toList = s.toList ↔ Lib.decDigits v = s.data.toList) := Lib.hid (by
        rw [ByteArray.toList_eq, ByteArray.toList_eq, ht]
        have : Lib.itoa (v : Int) = Lib.decDigits v := by unfold Lib.itoa; rw [if_neg (by omega), Int.toNat_natCast]
        rw [this])
      clear ht HC
      by_cases c1 : t.toList = s.toList
      · by_cases c2 : 2147483647 < (v : Int)
        · have H := Lib.hid (HNO.out (by rw [H2.out]; have : decide (v ≤ 2147483647) = false := by simp; omega
                                         rw [this]; simp))
          go_wp2_with fail
          go_ret2
          exact ⟨ret_nb H.out.1 H.out.2, hbw⟩
        · have HK : okN s.data.toList = true := by rw [H2.out]; simp; exact ⟨HT.out.1 c1, by omega⟩
          have H := Lib.hid (show (v : Int) = ((numV s.data.toList : Nat) : Int) ∧ true = okN s.data.toList from ⟨by unfold numV; rw [if_pos HK, H1.out], HK.symm⟩)
          clear HK
          go_wp2_with fail
          go_ret2
          exact ⟨ret_nb H.out.1 H.out.2, hbw⟩
      · have H := Lib.hid (HNO.out (by rw [H2.out]; have : ¬ Lib.decDigits v = s.data.toList := fun h => c1 (HT.out.2 h)
                                       simp [this]))
        go_wp2_with fail
        go_ret2
        exact ⟨ret_nb H.out.1 H.out.2, hbw⟩
end Go.Proofs.YtlkdojcimlfmdaaDoor

namespace Go.Proofs.YtlkdojcimlfmdaaDoor
set_option maxRecDepth 100000

/-- The numbers of a set below k, rising. -/
def lstTo (s k : Nat) : List Nat := (List.range k).filter fun i => s.testBit i
def lst (s : Nat) : List Nat := lstTo s 64
/-- The least number of a set, 64 where it is empty. -/
def fst (s : Nat) : Nat := (lst s).headD 64

/-! ### The lowest bit, as the library finds it -/
/-- The library's table. -/
def deB : List Int := [0, 1, 56, 2, 57, 49, 28, 3, 61, 58, 42, 50, 38, 29, 17, 4, 62, 47, 59, 36, 45, 43, 51, 22, 53, 39, 33, 30, 24, 18, 12, 5, 63, 55, 48, 27, 60, 41, 37, 16, 46, 35, 44, 21, 52, 32, 23, 11, 54, 26, 40, 15, 34, 20, 31, 10, 25, 14, 19, 9, 13, 8, 7, 6]
/-! ### How many bits, as the library counts them -/
def f1 (b : Nat) : Nat := (b / 2 &&& 0x55) + (b &&& 0x55)
def f2 (b : Nat) : Nat := (b / 4 &&& 0x33) + (b &&& 0x33)
def f3 (b : Nat) : Nat := (b / 16 + b) &&& 0x0f
def mk (c : Nat) : Nat → Nat
  | 0 => 0
  | k + 1 => 256 * mk c k + c
/-! ### The library's steps, as the walk writes them -/
end Go.Proofs.YtlkdojcimlfmdaaDoor

namespace Go.Proofs.YtlkdojcimlfmdaaDoor
set_option maxRecDepth 100000
open Go.RowKit

/-- The library's table lies in memory. -/
def Tab (w : World) : Prop := ∀ i, i < 64 → w.cell? ⟨5, i, none⟩ = some (.int .u8 (deB.getD i 0))
theorem Tab.pos {w : World} (h : Tab w) : 5 < w.heap.size := by
  have := h 0 (by omega)
  by_cases h0 : 5 < w.heap.size
  · exact h0
  · simp [World.cell?, Array.getElem?_eq_none (Nat.le_of_not_lt h0)] at this
theorem Tab.below {w w' : World} {B : Nat} (h : Tab w) (hb : Below B w w') (hB : 5 < B) : Tab w' :=
  fun i hi => (hb.cell (p := ⟨5, i, none⟩) hB).trans (h i hi)

end Go.Proofs.YtlkdojcimlfmdaaDoor

namespace Go.Proofs.YtlkdojcimlfmdaaDoor
set_option maxRecDepth 100000
open Go.RowKit

theorem infoInt : (Tryd.prog.info? 3).map (fun i => (i.zero, i.size, i.bytes)) = some (some (.int .i64 0), 1, 8) := by kernel_rfl
theorem below_app {B : Nat} {W wr w1 : World} {o : Obj} {e : TypeId} {n size : Nat} {v : Value} {xs : List Value} (hb : Below B W wr) (hB : B ≤ W.heap.size) (hown : wr.ownsRow B e size v n xs)
    (hg : (wr.alloc o).grownBy w1 v.ownBlock) : Below B W w1 :=
  (hb.alloc (Nat.le_trans hB hb.size) o).grown hg (by have := hb.size; simp; omega) fun k hk => (hown.lt k hk).1

end Go.Proofs.YtlkdojcimlfmdaaDoor

namespace Go.Proofs.YtlkdojcimlfmdaaDoor
set_option maxRecDepth 100000
open Go.RowKit

/-- The slice v holds these texts. -/
def Strs (w : World) (v : Value) (xs : List ByteArray) : Prop := Row w v xs.length 1 (xs.map Value.string)
theorem Strs.below {w w' : World} {v : Value} {xs : List ByteArray} (h : Strs w v xs) (hb : Below w.heap.size w w') : Strs w' v xs := Row.below h hb
theorem Strs.of_owns {w : World} {base : Nat} {e : TypeId} {v : Value} {n : Nat} {xs : List ByteArray} (h : w.ownsRow base e 1 v n (xs.map Value.string)) : Strs w v xs := by
  have hr := Row.of_owns h
  have hn : n = xs.length := by have := h.1; simp at this; omega
  subst hn; exact hr
theorem Strs.form {w : World} {v : Value} {xs : List ByteArray} (h : Strs w v xs) : ∃ ao cap, v = .slice ao xs.length cap ∧ (xs.length ≤ cap ∧ cap ≤ 9223372036854775807) ∧ (ao = none → xs.length = 0 ∧ cap = 0) := by
  obtain ⟨_, ao, cap, rfl, hm, hno, _⟩ := h
  exact ⟨ao, cap, rfl, hm, hno⟩
theorem Strs.at {w : World} {ao : Option Addr} {n cap : Nat} {xs : List ByteArray} (h : Strs w (.slice ao n cap) xs) {k : Nat} (hk : k < xs.length) :
    ∃ b off, ao = some ⟨b, off, none⟩ ∧ w.cell? ⟨b, off + k, none⟩ = some (.string xs[k]) := by
  obtain ⟨_, ao', cap', he, hm, _, hc⟩ := h
  obtain ⟨rfl, _, _⟩ : ao = ao' ∧ n = xs.length ∧ cap = cap' := by simpa using he
  obtain ⟨b, off, rfl, hcell⟩ := hc (by omega)
  refine ⟨b, off, rfl, ?_⟩
  rw [hcell k (by omega)]
  simp [List.getElem?_eq_getElem hk]
theorem infoStr : (Tryd.prog.info? 9).map (fun i => (i.zero, i.size, i.bytes)) = some (some (.string ByteArray.empty), 1, 16) := by kernel_rfl
/-- The pieces ahead of a place, where the last one is yet to come. -/
def CutAt (c : UInt8) (s : ByteArray) (a i : Nat) (acc : List ByteArray) : Prop := a ≤ i ∧ acc.length ≤ a ∧ Clear c s.data.toList a i ∧ cutB c s = acc ++ (cutL c (s.data.toList.drop a)).map fun l => ⟨l.toArray⟩
theorem CutAt.start (c : UInt8) (s : ByteArray) : CutAt c s 0 0 [] := ⟨by omega, by simp, clear_nil _ _ _, by simp [cutB]⟩
theorem CutAt.skip {c : UInt8} {s : ByteArray} {a i : Nat} {acc : List ByteArray} (h : CutAt c s a i acc) (hi : i < s.size) (hc : s[i] ≠ c) : CutAt c s a (i + 1) acc := by
  obtain ⟨h1, h2, h3, h4⟩ := h
  obtain ⟨hl, e⟩ := at_data hi
  exact ⟨by omega, h2, clear_next h3 h1 hl (by rw [e hl]; exact hc), h4⟩
theorem ext_list (s : ByteArray) (a b : Nat) : s.extract a b = ⟨((s.data.toList.drop a).take (b - a)).toArray⟩ := by
  apply byteArray_ext
  simp [ByteArray.extract, ByteArray.copySlice, List.extract_eq_take_drop]
theorem CutAt.hit {c : UInt8} {s : ByteArray} {a i : Nat} {acc : List ByteArray} (h : CutAt c s a i acc) (hi : i < s.size) (hc : s[i] = c) : CutAt c s (i + 1) (i + 1) (acc ++ [s.extract a i]) := by
  obtain ⟨h1, h2, h3, h4⟩ := h
  obtain ⟨hl, e⟩ := at_data hi
  refine ⟨by omega, by simp; omega, clear_nil _ _ _, ?_⟩
  rw [h4, cut_hit h3 h1 hl (by rw [e hl]; exact hc), ext_list]
  simp
theorem CutAt.fin {c : UInt8} {s : ByteArray} {a i : Nat} {acc : List ByteArray} (h : CutAt c s a i acc) (hi : i = s.size) : acc ++ [s.extract a i] = cutB c s := by
  obtain ⟨h1, h2, h3, h4⟩ := h
  have hl := Lib.size_eq s
  subst hi
  rw [hl] at h3
  rw [h4, cut_end h3, ext_list, hl, List.take_of_length_le (by rw [List.length_drop]; omega)]
  simp
def CutIn (c : UInt8) (s : ByteArray) (a i : Nat) (acc : List ByteArray) : Prop := (i ≤ s.size ∧ CutAt c s a i acc) ∨ (i = s.size + 1 ∧ acc = cutB c s)
set_option maxHeartbeats 2000000 in
theorem cut_any (s : ByteArray) (c : UInt8) (w : World) (hs : s.size ≤ 100000) :
    Calls Tryd.prog 29 #[.string s, .int .u8 (c.toNat : Int)] w fun e w' => ∃ v, e = .returned v ∧ Strs w' v (cutB c s) ∧ Below w.heap.size w w' := by
  obtain ⟨i0, hi, hz0, hz1, hz2⟩ := info_parts infoStr
  have HS := Lib.hid (CutAt.start c s)
  have hcb : c.toNat < 256 := UInt8.toNat_lt _
  go_enter Tryd.func29, Tryd.ntmps29
  go_wp2_with fail
  go_loopw [5, 6, 7] (fun v f i wr => ∃ (a k : Nat) (acc : List ByteArray), i = .int .i64 k ∧ f = .int .i64 a ∧ CutIn c s a k acc ∧ wr.ownsRow w.heap.size 9 1 v acc.length (acc.map Value.string) ∧ Below w.heap.size w wr)
    (fun _ _ i _ => s.size + 1 - (intOf i).toNat)
  case atStart => exact ⟨0, 0, [], rfl, rfl, .inl ⟨by omega, HS.out⟩, World.ownsRow_lit _ _ _ (Nat.le_refl _) (by simp) (by simp), (Below.refl _ _).alloc (Nat.le_refl _) _⟩
  case round =>
    obtain ⟨a, k, acc, rfl, rfl, hin, hown, hb⟩ := hrel
    rcases hin with ⟨hk, hat⟩ | ⟨rfl, hacc⟩
    case' inr =>
      have HA := Lib.hid hacc
      clear hacc
      go_wp2_with fail
      go_ret
      exact ⟨_, rfl, by rw [← HA.out]; exact Strs.of_owns hown, hb⟩
    have hak : (a : Int) ≤ (k : Int) := by have := hat.1; omega
    have hks : (k : Int) ≤ (s.size : Int) := by omega
    have hal := hat.2.1
    have hsz := hb.size
    have HAT := Lib.hid hat
    clear hat
    have APP : ∀ x : ByteArray, (acc ++ [x]).map Value.string = acc.map Value.string ++ [Value.string x] := fun x => by simp
    have HAPP := Lib.hid APP
    clear APP
    rcases Nat.lt_or_ge k s.size with hlt | hge
    · have hki : (k : Int) < (s.size : Int) := by omega
      have hne : ((k : Int) == (s.size : Int)) = false := by rw [beq_eq_false_iff_ne]; omega
      by_cases he : s[k] = c
      · have hb1 : ((s[k].toNat : Int) == (c.toNat : Int)) = true := by rw [he]; simp
        have HN := Lib.hid (HAT.out.hit hlt he)
        clear he
        go_wp2_with (at_builtin; refine wpList_append_own _ rfl _ _ 53 rfl w.heap.size 9 i0 (.string ByteArray.empty) 1 16 Tryd.underlying53 hi hz0 hz1 hz2 rfl (by decide) _ _ _ rfl (hown.alloc _) ⟨_, 0, none⟩ 1 1 [.string (s.extract a k)] rfl rfl ?d1 ?d2 ?d3 ?d4 ?d5 ?_)
        case d1 => exact cell_one_new _ _ _
        case d2 => intro u hu; simp at hu; subst hu; rfl
        case d3 => unfold maxLen; omega
        case d4 => omega
        case d5 => simp; omega
        intro v6 w6 hown6 hg6 _
        have hb6 := below_app hb (Nat.le_refl _) hown hg6
        clear hown hb hg6
        go_wp2_with fail
        go_roundw
        case rel => exact ⟨k + 1, k + 1, _, by go_num, by go_num, .inl ⟨by omega, HN.out⟩, by rw [HAPP.out]; simpa using hown6, hb6⟩
        case measure => simp [intOf]; omega
      · have hb1 : ((s[k].toNat : Int) == (c.toNat : Int)) = false := by
          rw [beq_eq_false_iff_ne]
          intro h
          exact he (UInt8.toNat_inj.1 (by omega))
        have HN := Lib.hid (HAT.out.skip hlt he)
        clear he
        go_wp2_with fail
        go_roundw
        case rel => exact ⟨a, k + 1, _, by go_num, rfl, .inl ⟨by omega, HN.out⟩, hown, hb⟩
        case measure => simp [intOf]; omega
    · obtain rfl : k = s.size := by omega
      have HN := Lib.hid (HAT.out.fin rfl)
      clear hge
      go_wp2_with (at_builtin; refine wpList_append_own _ rfl _ _ 53 rfl w.heap.size 9 i0 (.string ByteArray.empty) 1 16 Tryd.underlying53 hi hz0 hz1 hz2 rfl (by decide) _ _ _ rfl (hown.alloc _) ⟨_, 0, none⟩ 1 1 [.string (s.extract a s.size)] rfl rfl ?d1 ?d2 ?d3 ?d4 ?d5 ?_)
      case d1 => exact cell_one_new _ _ _
      case d2 => intro u hu; simp at hu; subst hu; rfl
      case d3 => unfold maxLen; omega
      case d4 => omega
      case d5 => simp; omega
      intro v6 w6 hown6 hg6 _
      have hb6 := below_app hb (Nat.le_refl _) hown hg6
      clear hown hb hg6
      go_wp2_with fail
      go_roundw
      case rel => exact ⟨s.size + 1, s.size + 1, _, by go_num, by go_num, .inr ⟨rfl, HN.out⟩, by rw [HAPP.out]; simpa using hown6, hb6⟩
      case measure => simp [intOf]
end Go.Proofs.YtlkdojcimlfmdaaDoor

namespace Go.Proofs.YtlkdojcimlfmdaaDoor
set_option maxRecDepth 100000
open Go.RowKit

/-- The library's variables are as a start leaves them. -/
def Env (w : World) : Prop := Lib.TabIs Tryd.prog w "internal/strconv.uint64pow10" .u64 Lib.pow10Tab ∧ ∃ m, w.cell? ⟨0, 0, none⟩ = some (.int .i64 m)
theorem Env.pos {w : World} (h : Env w) : 1 < w.heap.size := by
  have := h.1.cell gTen 0 (by decide)
  exact block_lt this
theorem Env.below {w w' : World} (h : Env w) (hb : Below w.heap.size w w') : Env w' := by
  refine ⟨?_, ?_⟩
  · exact var?_below hb gTen h.pos h.1
  · obtain ⟨m, hm⟩ := h.2
    exact ⟨m, by rw [hb.cell (p := ⟨0, 0, none⟩) (block_lt hm)]; exact hm⟩
theorem count_byte (s : ByteArray) (c : UInt8) (w : World) :
    Calls Tryd.prog 89 #[.string s, .string ⟨#[c]⟩] w fun e w' => e = .returned (.int .i64 (((cutB c s).length : Int) - 1)) ∧ w = w' :=
  (Tryd.strings_Count_one s c w).mono fun e w' ⟨he, hw⟩ => ⟨by
    rw [he, cutB_length]
    show Ending.returned (Value.int .i64 ((s.data.toList.count c : Nat) : Int)) = _
    congr 2; omega, hw.symm⟩
theorem split_byte (s : ByteArray) (c : UInt8) (w : World) (he : Env w) (hs : s.size ≤ 100000) :
    Calls Tryd.prog 48 #[.string s, .string ⟨#[c]⟩] w fun e w' => e = .returned (.slice (some ⟨w.heap.size, 0, none⟩) (cutB c s).length (cutB c s).length) ∧ w' = w.alloc (.cells ((cutB c s).map Value.string).toArray 9) := by
  obtain ⟨_, m, hm⟩ := he
  refine (Tryd.strings_Split s ⟨#[c]⟩ m w (by omega) hm (Nat.le_refl 1)).mono fun e w' ⟨he, hw⟩ => ?_
  rw [countB_cut, ← cutB_length] at he
  rw [splitB_cut] at hw
  exact ⟨he, hw⟩
theorem cut_len_le (c : UInt8) (s : ByteArray) : (cutB c s).length ≤ s.size + 1 ∧ 1 ≤ (cutB c s).length := by
  rw [cutB_length]
  have : s.data.toList.count c ≤ s.data.toList.length := List.count_le_length
  have := Lib.size_eq s
  omega
theorem strs_lit (w : World) (xs : List ByteArray) (hm : xs.length ≤ maxLen) :
    Strs (w.alloc (.cells (xs.map Value.string).toArray 9)) (.slice (some ⟨w.heap.size, 0, none⟩) xs.length xs.length) xs := by
  have h := World.ownsRow_lit (base := 0) (e := 9) (size := 1) w (xs.map Value.string).toArray xs.length (Nat.zero_le _) hm (by simp)
  exact Strs.of_owns (by simpa using h)
/-- The lines of a text; and whether the last one is ended. -/
def linesB (s : ByteArray) : List ByteArray := (cutB 10 s).dropLast
def endedB (s : ByteArray) : Bool := ((cutB 10 s).getLastD ⟨#[]⟩).toList.isEmpty
theorem Strs.cut {w : World} {b n : Nat} {P : List ByteArray} (h : Strs w (.slice (some ⟨b, 0, none⟩) (n + 1) (n + 1)) P) : Strs w (.slice (some ⟨b, 0, none⟩) n n) P.dropLast := by
  obtain ⟨hl, ao, cap, he, hm, hno, hc⟩ := h
  obtain ⟨rfl, hpl, rfl⟩ : some ⟨b, 0, none⟩ = ao ∧ n + 1 = P.length ∧ n + 1 = cap := by simpa using he
  have hdl : P.dropLast.length = n := by rw [List.length_dropLast]; omega
  refine ⟨by simp, some ⟨b, 0, none⟩, n, by rw [hdl], by rw [hdl]; omega, (fun h => by cases h), fun hn => ?_⟩
  obtain ⟨b', off, he', hcell⟩ := hc (by omega)
  cases he'
  refine ⟨b, 0, rfl, fun i hi => ?_⟩
  rw [hdl] at hi
  rw [hcell i (by omega), List.map_dropLast, List.getElem?_dropLast, if_pos (by rw [List.length_map]; omega)]
theorem last_at {P : List ByteArray} {n : Nat} (h : P.length = n + 1) (hn : n < P.length) : P.getLastD ⟨#[]⟩ = P[n] := by
  rw [List.getLastD_eq_getLast?, List.getLast?_eq_getElem?, h]
  simp [List.getElem?_eq_getElem hn]
theorem ret_vb {v : Value} {b b' : Bool} (h : b = b') : Ending.returned (.tuple #[v, .bool b]) = .returned (.tuple #[v, .bool b']) := by rw [h]
set_option maxHeartbeats 2000000 in
theorem lines_any (s : ByteArray) (w : World) (he : Env w) (hs : s.size ≤ 100000) :
    Calls Tryd.prog 26 #[.string s] w fun e w' => ∃ v, e = .returned (.tuple #[v, .bool (endedB s)]) ∧ Strs w' v (linesB s) ∧ Below w.heap.size w w' := by
  have CS := Lib.hid (split_byte s 10 w he hs)
  obtain ⟨hl1, hl2⟩ := cut_len_le 10 s
  have hS := strs_lit w (cutB 10 s) (by unfold maxLen; omega)
  have hb := (Below.refl w.heap.size w).alloc (Nat.le_refl _) (.cells ((cutB 10 s).map Value.string).toArray 9)
  have HL : Hid (linesB s = (cutB 10 s).dropLast ∧ endedB s = ((cutB 10 s).getLastD ⟨#[]⟩).toList.isEmpty) := Lib.hid ⟨rfl, rfl⟩
  generalize cutB 10 s = P at *
  obtain ⟨n, hn⟩ : ∃ n, P.length = n + 1 := ⟨P.length - 1, by omega⟩
  have hnl : n < P.length := by omega
  rw [hn] at hS CS
  obtain ⟨b, off, hao, hc⟩ := hS.at (k := n) hnl
  cases hao
  rw [Nat.zero_add] at hc
  have HQ := Lib.hid (last_at hn hnl)
  have HS := Lib.hid hS.cut
  clear hS hl2
  generalize P[n] = q at *
  have hnb : (n : Int) ≤ 1000000 := by omega
  clear hn hnl hl1 he hs
  go_enter Tryd.func26, Tryd.ntmps26
  go_wp2_with fail
  refine (CS.out).mono ?_
  rintro e w' ⟨rfl, rfl⟩
  generalize w.alloc (.cells (P.map Value.string).toArray 9) = w1 at *
  clear CS
  go_wp2_with fail
  go_quiet (fail)
  go_wp2_with fail
  go_ret2
  exact ⟨_, ret_vb (by rw [HL.out.2, HQ.out]), by rw [HL.out.1]; exact Row.drewN HS.out _, below_drewN hb _⟩
end Go.Proofs.YtlkdojcimlfmdaaDoor

namespace Go.Proofs.YtlkdojcimlfmdaaDoor
set_option maxRecDepth 100000
open Go.ChangeShapes Go.WideShapes Go.ChangeAt Go.RowKit

def listT : List (String × DataW Unit) := [("math/bits.deBruijn32tab", Rows.laid_math_bits_deBruijn32tab), ("math/bits.deBruijn64tab", Rows.laid_math_bits_deBruijn64tab), ("internal/strconv.uint64pow10", Rows.laid_internal_strconv_uint64pow10), ("unicode/utf8.acceptRanges", Rows.laid_unicode_utf8_acceptRanges), ("unicode/utf8.first", Rows.laid_unicode_utf8_first)]
theorem env_of {W : World} (h : laidMet Tryd.prog listT W) (hs : W.ShapedOpen Tryd.prog) : Env W :=
  ⟨Lib.tabIs_of_head (rest := [("unicode/utf8.acceptRanges", Rows.laid_unicode_utf8_acceptRanges), ("unicode/utf8.first", Rows.laid_unicode_utf8_first)]) gTen gTenType Tryd.underlying150 Tryd.underlying99 cellsU64 cellsTen (laidMet.tail (laidMet.tail h)), Tryd.laysM146.s1_3 W hs⟩
/-- A world in which the variables hold what their initialisers lay. -/
noncomputable def laidWorldT (os : Os) : World :=
  { World.holding Tryd.prog os ⟨#[], #[], []⟩ with heap := setG (setG (setG (setG (setG (World.holding Tryd.prog os ⟨#[], #[], []⟩).heap 4 Rows.laid_math_bits_deBruijn32tab) 5 Rows.laid_math_bits_deBruijn64tab) 1 Rows.laid_internal_strconv_uint64pow10) 3 Rows.laid_unicode_utf8_acceptRanges) 2 Rows.laid_unicode_utf8_first }
theorem laidT (os : Os) : laidMet Tryd.prog listT (laidWorldT os) := laidMet_of_run' 8 (by kernel_rfl) (by kernel_rfl)
end Go.Proofs.YtlkdojcimlfmdaaDoor

namespace Go.Proofs.YtlkdojcimlfmdaaDoor
set_option maxRecDepth 100000
open Go.RowKit

/-- Block g holds these cells of this type, and all of them may be written. -/
def Whole (w : World) (g : Nat) (t : TypeId) (cs : Array Value) : Prop := w.heap[g]? = some (.cells cs t (0, 0))
theorem Whole.lt {w : World} {g : Nat} {t : TypeId} {cs : Array Value} (h : Whole w g t cs) : g < w.heap.size := by
  by_cases hg : g < w.heap.size
  · exact hg
  · unfold Whole at h; rw [Array.getElem?_eq_none (by omega)] at h; cases h
theorem Whole.cell {w : World} {g : Nat} {t : TypeId} {cs : Array Value} (h : Whole w g t cs) (i : Nat) : w.cell? ⟨g, i, none⟩ = cs[i]? := by
  unfold Whole at h
  simp [World.cell?, h]
theorem Whole.frozen {w : World} {g : Nat} {t : TypeId} {cs : Array Value} (h : Whole w g t cs) (i : Nat) : w.frozen? ⟨g, i, none⟩ = false := by
  unfold Whole at h
  simp [World.frozen?, h]
theorem Whole.new (w : World) (t : TypeId) (cs : Array Value) : Whole (w.alloc (.cells cs t)) w.heap.size t cs := heap_alloc_new w _
theorem Whole.below {w w' : World} {g : Nat} {t : TypeId} {cs : Array Value} (h : Whole w g t cs) (hb : Below w.heap.size w w') : Whole w' g t cs := (hb.block g h.lt).trans h
theorem Whole.put {w : World} {g : Nat} {t : TypeId} {cs : Array Value} (h : Whole w g t cs) (i : Nat) (v : Value) : Whole (w.setCell ⟨g, i, none⟩ v) g t (cs.setIfInBounds i v) := by
  unfold Whole at h ⊢
  simp [World.setCell, Array.getElem?_modify, h]
/-- A store into that block leaves all others as they were. -/
theorem below_put {B g : Nat} {w w' : World} (hb : Below B w w') (hg : B ≤ g) (i : Nat) (v : Value) : Below B w (w'.setCell ⟨g, i, none⟩ v) := hb.setCell (p := ⟨g, i, none⟩) hg _
theorem Whole.row {w : World} {g : Nat} {t : TypeId} {cs : List Value} {n : Nat} (h : Whole w g t cs.toArray) (hn : cs.length = n) (hm : n ≤ maxLen) : Row w (.slice (some ⟨g, 0, none⟩) n n) n 1 cs := by
  refine ⟨by omega, some ⟨g, 0, none⟩, n, rfl, ⟨by omega, hm⟩, (fun h => by cases h), fun _ => ⟨g, 0, rfl, fun i _ => ?_⟩⟩
  rw [h.cell]; simp
end Go.Proofs.YtlkdojcimlfmdaaDoor

namespace Go.Proofs.YtlkdojcimlfmdaaDoor
set_option maxRecDepth 100000
open Go.RowKit

/-- Are a line's pieces behind the first one just so many numbers? -/
def wordsOK (s : ByteArray) (many : Int) : Bool := decide (((cutB 32 s).length : Int) = many + 1) && (cutB 32 s).tail.all fun t => okN t.data.toList
def numsB (P : List ByteArray) : List Int := P.map fun t => ((numV t.data.toList : Nat) : Int)
def numsOf (s : ByteArray) : List Int := numsB (cutB 32 s).tail
def headB (s : ByteArray) : ByteArray := (cutB 32 s).headD ⟨#[]⟩
def WordsRes (s : ByteArray) (many : Int) (w : World) (p : ByteArray) (v : Value) (b : Bool) : Prop :=
  b = wordsOK s many ∧ (b = true → p = headB s ∧ Ints w v (numsOf s)) ∧ (b = false → p = ⟨#[]⟩ ∧ v = .slice none 0 0)
theorem wordsRes_no {s : ByteArray} {many : Int} {w : World} (h : wordsOK s many = false) : WordsRes s many w ⟨#[]⟩ (.slice none 0 0) false := ⟨h.symm, (fun h => by cases h), fun _ => ⟨rfl, rfl⟩⟩
/-- The numbers' cells while the loop goes: the first k are there, noughts behind. -/
def numsTo (Q : List ByteArray) (k : Nat) : List Value := ((numsB (Q.take k)).map (Value.int .i64)) ++ List.replicate (Q.length - k) (.int .i64 0)
theorem numsTo_len (Q : List ByteArray) (k : Nat) (hk : k ≤ Q.length) : (numsTo Q k).length = Q.length := by
  unfold numsTo numsB; simp; omega
theorem numsTo_set (Q : List ByteArray) (k : Nat) (hk : k < Q.length) : (numsTo Q k).toArray.setIfInBounds k (.int .i64 ((numV Q[k].data.toList : Nat) : Int)) = (numsTo Q (k + 1)).toArray := by
  have hl : ((numsB (Q.take k)).map (Value.int .i64)).length = k := by unfold numsB; simp; omega
  have e1 : Q.length - k = (Q.length - (k + 1)) + 1 := by omega
  have e2 : numsB (Q.take (k + 1)) = numsB (Q.take k) ++ [((numV Q[k].data.toList : Nat) : Int)] := by
    unfold numsB; rw [List.take_succ_eq_append_getElem hk, List.map_append]; rfl
  unfold numsTo
  rw [e1, e2, List.replicate_succ, List.map_append, List.setIfInBounds_toArray]
  congr 1
  rw [List.set_append_right _ _ (by omega), hl, Nat.sub_self, List.set_cons_zero]
  simp
theorem numsTo_all (Q : List ByteArray) : numsTo Q Q.length = (numsB Q).map (Value.int .i64) := by unfold numsTo; simp
theorem numsTo_at (Q : List ByteArray) (k : Nat) (hk : k < Q.length) : (numsTo Q k).toArray[k]? = some (.int .i64 0) := by
  have hl : ((numsB (Q.take k)).map (Value.int .i64)).length = k := by unfold numsB; simp; omega
  unfold numsTo
  rw [List.getElem?_toArray, List.getElem?_append_right (by omega), hl, Nat.sub_self, List.getElem?_replicate, if_pos (by omega)]
/-- All pieces ahead of a place are numbers. -/
def okTo (Q : List ByteArray) (k : Nat) : Prop := ∀ t ∈ Q.take k, okN t.data.toList = true
theorem okTo_zero (Q : List ByteArray) : okTo Q 0 := by intro t ht; simp at ht
theorem okTo_succ {Q : List ByteArray} {k : Nat} (h : okTo Q k) (hk : k < Q.length) (hd : okN Q[k].data.toList = true) : okTo Q (k + 1) := by
  intro b hb
  rw [List.take_succ_eq_append_getElem hk, List.mem_append] at hb
  rcases hb with hb | hb
  · exact h b hb
  · rw [List.mem_singleton] at hb; subst hb; exact hd
theorem words_no_at {s : ByteArray} {many : Int} {q : ByteArray} {Q : List ByteArray} (h : cutB 32 s = q :: Q) {k : Nat} (hk : k < Q.length) (hd : okN Q[k].data.toList = false) : wordsOK s many = false := by
  unfold wordsOK
  rw [h, List.tail_cons]
  have : Q.all (fun t => okN t.data.toList) = false := List.all_eq_false.2 ⟨Q[k], List.getElem_mem hk, by simp [hd]⟩
  rw [this]; simp
theorem words_yes {s : ByteArray} {q : ByteArray} {Q : List ByteArray} (h : cutB 32 s = q :: Q) (hd : okTo Q Q.length) : wordsOK s (Q.length : Int) = true ∧ headB s = q ∧ numsOf s = numsB Q := by
  unfold wordsOK headB numsOf
  rw [h, List.tail_cons]
  refine ⟨?_, rfl, rfl⟩
  have : Q.all (fun t => okN t.data.toList) = true := List.all_eq_true.2 (fun t ht => hd t (by rw [List.take_length]; exact ht))
  rw [this]; simp
theorem words_count {s : ByteArray} {many : Int} (h : ¬ ((cutB 32 s).length : Int) - 1 = many) : wordsOK s many = false := by
  unfold wordsOK
  have : decide (((cutB 32 s).length : Int) = many + 1) = false := by simp; omega
  rw [this]; simp
theorem pieces_le {s : ByteArray} {c : UInt8} {t : ByteArray} (h : t ∈ cutB c s) : t.size ≤ 100000000 ∨ 100000 < s.size := by
  by_cases hb : 100000 < s.size
  · exact .inr hb
  · left
    have key : ∀ (l p : List UInt8), p ∈ cutL c l → p.length ≤ l.length := by
      intro l
      induction l with
      | nil => intro p hp; simp [cutL] at hp; subst hp; simp
      | cons b l ih =>
        intro p hp
        unfold cutL at hp
        split at hp
        · rcases List.mem_cons.1 hp with rfl | hp
          · simp
          · have := ih p hp; simp; omega
        · rcases List.mem_cons.1 hp with rfl | hp
          · have := cutL_ne c l
            cases hc : cutL c l with
            | nil => exact absurd hc this
            | cons a r =>
              have := ih a (by rw [hc]; exact List.mem_cons_self)
              simp; omega
          · have := ih p (List.mem_of_mem_tail hp); simp; omega
    obtain ⟨p, hp, rfl⟩ := List.mem_map.1 h
    have := key _ _ hp
    have e : (⟨p.toArray⟩ : ByteArray).size = p.length := by simp [ByteArray.size]
    rw [e, Lib.size_eq] at *; omega
set_option maxHeartbeats 2000000 in
theorem words_any (s : ByteArray) (many : Int) (w : World) (he : Env w) (hs : s.size ≤ 100000) :
    Calls Tryd.prog 71 #[.string s, .int .i64 many] w fun e w' => ∃ p v b, e = .returned (.tuple #[.string p, v, .bool b]) ∧ WordsRes s many w' p v b ∧ Below w.heap.size w w' := by
  have CC := Lib.hid (count_byte s 32 w)
  by_cases hm : ((cutB 32 s).length : Int) - 1 = many
  case neg =>
    have HR := Lib.hid (words_count hm)
    have hne : ((((cutB 32 s).length : Int) - 1) != many) = true := by rw [bne_iff_ne]; exact hm
    clear hm
    go_enter Tryd.func71, Tryd.ntmps71
    go_wp2_with fail
    refine (CC.out).mono ?_
    rintro e w' ⟨rfl, rfl⟩
    go_wp2_with fail
    go_ret3
    exact ⟨_, _, _, rfl, wordsRes_no HR.out, Below.refl _ _⟩
  obtain ⟨hl1, hl2⟩ := cut_len_le 32 s
  have CS := Lib.hid (split_byte s 32 w he hs)
  have HP : Hid (∀ t ∈ cutB 32 s, t.size ≤ 9223372036854775807) := Lib.hid (fun t ht => by rcases pieces_le ht with h | h <;> omega)
  have hS := strs_lit w (cutB 32 s) (by unfold maxLen; omega)
  have hb1 := (Below.refl w.heap.size w).alloc (Nat.le_refl _) (.cells ((cutB 32 s).map Value.string).toArray 9)
  obtain ⟨q, Q, hqQ⟩ : ∃ q Q, cutB 32 s = q :: Q := by
    cases h : cutB 32 s with
    | nil => rw [h] at hl2; simp at hl2
    | cons q Q => exact ⟨q, Q, rfl⟩
  have HQ := Lib.hid hqQ
  rw [hqQ] at CC CS HP hS hb1 hm hl1
  rw [List.length_cons] at CC CS hm hl1 hS
  clear hqQ hl2
  obtain ⟨n, hn⟩ : ∃ n, n = Q.length := ⟨_, rfl⟩
  have HN := Lib.hid hn
  rw [← hn] at CC CS hm hl1 hS
  obtain rfl : many = (n : Int) := by omega
  have hnb : (n : Int) ≤ 1000000 := by omega
  rw [show ((n + 1 : Nat) : Int) - 1 = (n : Int) from by omega] at CC
  have hmk := fun W => Go.run_make_row' (P := Tryd.prog) 90 3 (.int .i64 0) 8 Tryd.underlying90 infoInt rfl .i64 .i64 n (by omega) (by omega) W
  clear hn hm he hs hl1
  go_enter Tryd.func71, Tryd.ntmps71
  go_wp2_with fail
  refine (CC.out).mono ?_
  rintro e w' ⟨rfl, rfl⟩
  go_wp2_with fail
  refine (CS.out).mono ?_
  rintro e w' ⟨rfl, rfl⟩
  generalize w.alloc (.cells ((q :: Q).map Value.string).toArray 9) = w1 at *
  clear CS CC
  have hW := Whole.new w1 3 (madeCells #[.int .i64 0] n)
  have hb2 := (Below.refl w1.heap.size w1).alloc (Nat.le_refl _) (.cells (madeCells #[.int .i64 0] n) 3)
  have hg := hS.at (k := 0) (by simp)
  obtain ⟨g0, o0, hg0, hc0⟩ := hg
  cases hg0
  have hz1 := hb1.size
  rw [show madeCells #[.int .i64 0] n = (numsTo Q 0).toArray from by
    apply Array.ext
    · rw [size_madeCells]; simp [numsTo, numsB, HN.out]
    · intro i h1 h2
      simp [madeCells, numsTo, numsB, Nat.mod_one]] at hmk hW hb2
  have HE : Hid (Strs w1 (.slice (some ⟨w.heap.size, 0, none⟩) (n + 1) (n + 1)) (q :: Q)) := Lib.hid hS
  change w1.cell? ⟨w.heap.size, 0, none⟩ = some (.string q) at hc0
  clear hS
  have FIN : Hid (∀ wr, okTo Q n → Whole wr w1.heap.size 3 (numsTo Q n).toArray → WordsRes s (n : Int) wr q (.slice (some ⟨w1.heap.size, 0, none⟩) n n) true) := Lib.hid (fun wr h1 h2 => by
    have hN := HN.out
    rw [hN] at h1
    obtain ⟨e1, e2, e3⟩ := words_yes HQ.out h1
    rw [← hN] at e1
    refine ⟨e1.symm, fun _ => ⟨e2.symm, ?_⟩, fun h => by cases h⟩
    have hr := h2.row (numsTo_len Q n (by omega) |>.trans hN.symm) (by unfold maxLen; omega)
    have hl : (numsB Q).length = n := by unfold numsB; simp; omega
    rw [e3]
    unfold Ints
    rw [hl]
    have e4 : numsTo Q n = (numsB Q).map (Value.int .i64) := by
      have := numsTo_all Q
      rw [← hN] at this
      exact this
    rw [e4] at hr
    exact hr)
  have hzs := Whole.lt hW
  rcases Nat.eq_zero_or_pos n with h0 | h0
  · subst h0
    change (∀ W, (Instr.makeSlice 90 (.int .i64 0) (.int .i64 0)).run Tryd.prog W = _) at hmk
    have HW := Lib.hid hW
    have hc1 : (w1.alloc (.cells (numsTo Q 0).toArray 3)).cell? ⟨w.heap.size, 0, none⟩ = some (.string q) := by rw [hb2.cell (p := ⟨w.heap.size, 0, none⟩) (block_lt hc0)]; exact hc0
    clear hW hc0
    go_wp2_with fail
    refine wp_loop_rounds 1 ?_
    rw [rounds_succ]
    go_wp2_with fail
    go_ret3
    exact ⟨_, _, _, rfl, FIN.out _ (okTo_zero Q) HW.out, hb1.trans (hb2.mono hz1)⟩
  · have hn1 : ¬ n + 1 = 1 := by omega
    have HW0 := Lib.hid hW
    have HC : Hid (∀ wr, Below w1.heap.size w1 wr → wr.cell? ⟨w.heap.size, 0, none⟩ = some (.string q)) := Lib.hid (fun wr hb => by rw [hb.cell (p := ⟨w.heap.size, 0, none⟩) (block_lt hc0)]; exact hc0)
    clear hW hc0
    go_wp2_with fail
    go_loopw [24] (fun i wr => ∃ k : Nat, k ≤ n ∧ i = .int .i64 k ∧ okTo Q k ∧ Whole wr w1.heap.size 3 (numsTo Q k).toArray ∧ Below w1.heap.size w1 wr) (fun i _ => n - (intOf i).toNat)
    case atStart => exact ⟨0, by omega, rfl, okTo_zero Q, HW0.out, hb2⟩
    case round =>
      obtain ⟨k, hk, rfl, hok, hw, hb⟩ := hrel
      have HOK := Lib.hid hok
      have HW := Lib.hid hw
      have hzr := hb.size
      have hwl := hw.lt
      clear hok hw
      by_cases hlt : k < n
      · have hki : (k : Int) < (n : Int) := by omega
        have hkq : k < Q.length := by have := HN.out; omega
        obtain ⟨g1, o1, hg1, hc1⟩ := (HE.out.below hb).at (k := k + 1) (by rw [List.length_cons]; omega)
        cases hg1
        change wr.cell? ⟨w.heap.size, 0 + (k + 1), none⟩ = some (.string Q[k]) at hc1
        rw [show 0 + (k + 1) = 1 + k from by omega] at hc1
        have hz := HW.out.cell k
        rw [numsTo_at Q k hkq] at hz
        have hf := HW.out.frozen k
        have hts := HP.out Q[k] (List.mem_cons_of_mem _ (List.getElem_mem hkq))
        have CN := Lib.hid (number_any Q[k] wr (by unfold maxLen; omega))
        have HSET := Lib.hid (numsTo_set Q k hkq)
        cases hd : okN Q[k].data.toList
        · have HR := Lib.hid (words_no_at (many := (n : Int)) HQ.out hkq hd)
          rw [hd] at CN
          clear hd
          generalize numV Q[k].data.toList = x at *
          generalize Q[k] = t at *
          go_wp2_with fail
          refine (CN.out).mono ?_
          rintro e w' ⟨rfl, rfl⟩
          go_wp2_with fail
          go_ret3
          exact ⟨_, _, _, rfl, wordsRes_no HR.out, hb1.trans (hb.mono hz1)⟩
        · have HOK' := Lib.hid (okTo_succ HOK.out hkq hd)
          rw [hd] at CN
          clear hd
          generalize numV Q[k].data.toList = x at *
          generalize Q[k] = t at *
          go_wp2_with fail
          refine (CN.out).mono ?_
          rintro e w' ⟨rfl, rfl⟩
          go_wp2_with fail
          go_roundw
          case rel => exact ⟨k + 1, by omega, by go_num, HOK'.out, by rw [← HSET.out]; exact HW.out.put _ _, below_put hb (Nat.le_refl _) _ _⟩
          case measure => simp [intOf]; omega
      · obtain rfl : k = n := by omega
        have hc2 := HC.out _ hb
        go_wp2_with fail
        go_ret3
        exact ⟨_, _, _, rfl, FIN.out _ HOK.out HW.out, hb1.trans (hb.mono hz1)⟩
end Go.Proofs.YtlkdojcimlfmdaaDoor

namespace Go.Proofs.YtlkdojcimlfmdaaDoor
set_option maxRecDepth 100000
open Go.RowKit

theorem numsB_succ (Q : List ByteArray) (k : Nat) (hk : k < Q.length) : (numsB (Q.take (k + 1))).map (Value.int .i64) = (numsB (Q.take k)).map (Value.int .i64) ++ [.int .i64 ((numV Q[k].data.toList : Nat) : Int)] := by
  unfold numsB
  rw [List.take_succ_eq_append_getElem hk, List.map_append, List.map_append]; rfl
theorem cons_at {α : Type} (q : α) (Q : List α) {j : Nat} (h1 : 1 ≤ j) (h : j < (q :: Q).length) : (q :: Q)[j] = Q[j - 1]'(by simp at h; omega) := by
  obtain ⟨k, rfl⟩ : ∃ k, j = k + 1 := ⟨j - 1, by omega⟩
  rfl
set_option maxHeartbeats 2000000 in
theorem rwords_any (s : ByteArray) (many : Int) (w : World) (hs : s.size ≤ 100000) (m0 : -9223372036854775808 ≤ many) (m1 : many ≤ 9223372036854775807) :
    Calls Tryd.prog 56 #[.string s, .int .i64 many] w fun e w' => ∃ p v b, e = .returned (.tuple #[.string p, v, .bool b]) ∧ WordsRes s many w' p v b ∧ Below w.heap.size w w' := by
  obtain ⟨i0, hi, hz0, hz1, hz2⟩ := info_parts infoInt
  have CC := Lib.hid (cut_any s 32 w hs)
  obtain ⟨hl1, hl2⟩ := cut_len_le 32 s
  by_cases hm : ((cutB 32 s).length : Int) - 1 = many
  case neg =>
    have HR := Lib.hid (words_count hm)
    have hne : (((cutB 32 s).length : Int) != wrap64 (many + 1)) = true := by rw [bne_iff_ne]; unfold wrap64; omega
    clear hm m0 m1
    go_enter Tryd.func56, Tryd.ntmps56
    go_wp2_with fail
    refine (CC.out).mono ?_
    rintro e w' ⟨v, rfl, hS, hb⟩
    obtain ⟨ao, cap, rfl, _, _⟩ := hS.form
    clear hS
    go_wp2_with fail
    go_ret3
    exact ⟨_, _, _, rfl, wordsRes_no HR.out, hb⟩
  have HP : Hid (∀ t ∈ cutB 32 s, t.size ≤ 9223372036854775807) := Lib.hid (fun t ht => by rcases pieces_le ht with h | h <;> omega)
  obtain ⟨q, Q, hqQ⟩ : ∃ q Q, cutB 32 s = q :: Q := by
    cases h : cutB 32 s with
    | nil => rw [h] at hl2; simp at hl2
    | cons q Q => exact ⟨q, Q, rfl⟩
  have HQ := Lib.hid hqQ
  rw [hqQ] at CC HP hm hl1
  rw [List.length_cons] at hm hl1
  clear hqQ hl2
  obtain ⟨n, hn⟩ : ∃ n, n = Q.length := ⟨_, rfl⟩
  have HN := Lib.hid hn
  rw [← hn] at hm hl1
  obtain rfl : many = (n : Int) := by omega
  have hnb : (n : Int) ≤ 1000000 := by omega
  have FIN : Hid (∀ wr v base, okTo Q n → wr.ownsRow base 3 1 v n ((numsB (Q.take n)).map (Value.int .i64)) → WordsRes s (n : Int) wr q v true) := Lib.hid (fun wr v base h1 h2 => by
    have hN := HN.out
    rw [hN] at h1 h2
    obtain ⟨e1, e2, e3⟩ := words_yes HQ.out h1
    rw [← hN] at e1
    rw [List.take_length] at h2
    exact ⟨e1.symm, fun _ => ⟨e2.symm, by rw [e3]; exact Ints.of_owns h2⟩, fun h => by cases h⟩)
  clear hn hm hs m0 m1
  go_enter Tryd.func56, Tryd.ntmps56
  go_wp2_with fail
  refine (CC.out).mono ?_
  rintro e w1 ⟨v, rfl, hS, hb1⟩
  obtain ⟨ao, cap, rfl, ⟨hc1, hc2⟩, _⟩ := hS.form
  obtain ⟨g0, o0, hg0, hc0⟩ := hS.at (k := 0) (by simp)
  subst hg0
  rw [List.length_cons] at hc1
  rw [List.length_cons, ← HN.out] at hS
  rw [List.length_cons, ← HN.out]
  rw [← HN.out] at hc1
  have hbz1 := hb1.size
  have HE := Lib.hid hS
  rw [Nat.add_zero] at hc0
  change w1.cell? ⟨g0, o0, none⟩ = some (.string q) at hc0
  have HC : Hid (∀ wr, Below w1.heap.size w1 wr → wr.cell? ⟨g0, o0, none⟩ = some (.string q)) := Lib.hid (fun wr hb => by rw [hb.cell (p := ⟨g0, o0, none⟩) (block_lt hc0)]; exact hc0)
  clear hS hc0 CC
  go_wp2_with fail
  go_loopw [8, 9] (fun v i wr => ∃ j : Nat, 1 ≤ j ∧ j ≤ n + 1 ∧ i = .int .i64 j ∧ okTo Q (j - 1) ∧ wr.ownsRow w1.heap.size 3 1 v (j - 1) ((numsB (Q.take (j - 1))).map (Value.int .i64)) ∧ Below w1.heap.size w1 wr) (fun _ i _ => n + 1 - (intOf i).toNat)
  case atStart => exact ⟨1, by omega, by omega, rfl, okTo_zero Q, World.ownsRow_lit _ _ _ (Nat.le_refl _) (by simp) (by simp), (Below.refl _ _).alloc (Nat.le_refl _) _⟩
  case round =>
    obtain ⟨j, hj1, hj, rfl, hok, hown, hb⟩ := hrel
    have HOK := Lib.hid hok
    have hzr := hb.size
    clear hok
    by_cases hlt : j < n + 1
    · have hki : (j : Int) < (n : Int) + 1 := by omega
      have hj0 : (0 : Int) ≤ (j : Int) := by omega
      have hkq : j - 1 < Q.length := by have := HN.out; omega
      obtain ⟨g1, o1, hg1, hcp⟩ := (HE.out.below hb).at (k := j) (by rw [List.length_cons]; have := HN.out; omega)
      cases hg1
      rw [cons_at q Q hj1] at hcp
      have hts := HP.out Q[j - 1] (List.mem_cons_of_mem _ (List.getElem_mem hkq))
      have CN := Lib.hid (rnumber_any Q[j - 1] wr (by unfold maxLen; omega))
      have HSET := Lib.hid (numsB_succ Q (j - 1) hkq)
      cases hd : okN Q[j - 1].data.toList
      · have HR := Lib.hid (words_no_at (many := (n : Int)) HQ.out hkq hd)
        rw [hd] at CN
        clear hd
        generalize numV Q[j - 1].data.toList = x at *
        generalize Q[j - 1] = t at *
        go_wp2_with fail
        refine (CN.out).mono ?_
        rintro e w' ⟨rfl, hbn⟩
        go_wp2_with fail
        go_ret3
        exact ⟨_, _, _, rfl, wordsRes_no HR.out, hb1.trans ((hb.trans (hbn.mono hzr)).mono hbz1)⟩
      · have HOK' := Lib.hid (okTo_succ HOK.out hkq hd)
        rw [show j - 1 + 1 = j from by omega] at HOK' HSET
        rw [hd] at CN
        clear hd
        generalize numV Q[j - 1].data.toList = x at *
        generalize Q[j - 1] = t at *
        go_wp2_with fail
        refine (CN.out).mono ?_
        rintro e w2 ⟨rfl, hbn⟩
        have hown2 := owns_below hown hbn
        have hb2 := hb.trans (hbn.mono hzr)
        have hbz2 := hb2.size
        clear hown hbn hb
        go_wp2_with (at_builtin; refine wpList_append_own _ rfl _ _ 90 rfl w1.heap.size 3 i0 (.int .i64 0) 1 8 Tryd.underlying90 hi hz0 hz1 hz2 rfl (by decide) _ _ _ rfl (hown2.alloc _) ⟨_, 0, none⟩ 1 1 [.int .i64 (x : Int)] rfl rfl ?d1 ?d2 ?d3 ?d4 ?d5 ?_)
        case d1 => exact cell_one_new _ _ _
        case d2 => intro u hu; simp at hu; subst hu; rfl
        case d3 => unfold maxLen; omega
        case d4 => omega
        case d5 => simp; omega
        intro v3 w3 hown3 hg3 _
        have hb3 := below_app hb2 (Nat.le_refl _) hown2 hg3
        clear hown2 hb2 hg3
        go_wp2_with fail
        go_roundw
        case rel => exact ⟨j + 1, by omega, by omega, by go_num, HOK'.out, by rw [show j + 1 - 1 = j from by omega, HSET.out]; exact hown3, hb3⟩
        case measure => simp [intOf]; omega
    · obtain rfl : j = n + 1 := by omega
      have hc3 := HC.out _ hb
      go_wp2_with fail
      go_ret3
      exact ⟨_, _, _, rfl, FIN.out _ _ _ HOK.out hown, hb1.trans (hb.mono hbz1)⟩
end Go.Proofs.YtlkdojcimlfmdaaDoor

namespace Go.Proofs.YtlkdojcimlfmdaaDoor
set_option maxRecDepth 100000
open Go.RowKit

theorem words_is (s : ByteArray) (many : Int) (w : World) (he : Env w) (hs : s.size ≤ 100000) (h : wordsOK s many = true) :
    Calls Tryd.prog 71 #[.string s, .int .i64 many] w fun e w' => ∃ v, e = .returned (.tuple #[.string (headB s), v, .bool true]) ∧ Ints w' v (numsOf s) ∧ Below w.heap.size w w' := by
  refine (words_any s many w he hs).mono ?_
  rintro e w' ⟨p, v, b, rfl, ⟨h1, h2, _⟩, hb⟩
  rw [h] at h1
  subst h1
  obtain ⟨rfl, hI⟩ := h2 rfl
  exact ⟨v, rfl, hI, hb⟩
theorem words_isnt (s : ByteArray) (many : Int) (w : World) (he : Env w) (hs : s.size ≤ 100000) (h : wordsOK s many = false) :
    Calls Tryd.prog 71 #[.string s, .int .i64 many] w fun e w' => e = .returned (.tuple #[.string ⟨#[]⟩, .slice none 0 0, .bool false]) ∧ Below w.heap.size w w' := by
  refine (words_any s many w he hs).mono ?_
  rintro e w' ⟨p, v, b, rfl, ⟨h1, _, h2⟩, hb⟩
  rw [h] at h1
  subst h1
  obtain ⟨rfl, rfl⟩ := h2 rfl
  exact ⟨rfl, hb⟩
theorem rwords_is (s : ByteArray) (many : Int) (w : World) (hs : s.size ≤ 100000) (m0 : -9223372036854775808 ≤ many) (m1 : many ≤ 9223372036854775807) (h : wordsOK s many = true) :
    Calls Tryd.prog 56 #[.string s, .int .i64 many] w fun e w' => ∃ v, e = .returned (.tuple #[.string (headB s), v, .bool true]) ∧ Ints w' v (numsOf s) ∧ Below w.heap.size w w' := by
  refine (rwords_any s many w hs m0 m1).mono ?_
  rintro e w' ⟨p, v, b, rfl, ⟨h1, h2, _⟩, hb⟩
  rw [h] at h1
  subst h1
  obtain ⟨rfl, hI⟩ := h2 rfl
  exact ⟨v, rfl, hI, hb⟩
theorem rwords_isnt (s : ByteArray) (many : Int) (w : World) (hs : s.size ≤ 100000) (m0 : -9223372036854775808 ≤ many) (m1 : many ≤ 9223372036854775807) (h : wordsOK s many = false) :
    Calls Tryd.prog 56 #[.string s, .int .i64 many] w fun e w' => e = .returned (.tuple #[.string ⟨#[]⟩, .slice none 0 0, .bool false]) ∧ Below w.heap.size w w' := by
  refine (rwords_any s many w hs m0 m1).mono ?_
  rintro e w' ⟨p, v, b, rfl, ⟨h1, _, h2⟩, hb⟩
  rw [h] at h1
  subst h1
  obtain ⟨rfl, rfl⟩ := h2 rfl
  exact ⟨rfl, hb⟩
end Go.Proofs.YtlkdojcimlfmdaaDoor
