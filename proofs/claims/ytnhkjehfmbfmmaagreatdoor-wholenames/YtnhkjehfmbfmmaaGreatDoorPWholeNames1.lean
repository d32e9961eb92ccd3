/- Walks and plain facts that the proof of the statement WholeNames uses, joined: TxnF TxnG TxnH TxnL HisA HisB HisC HisD HisE AxhD OrdD RelR AxhF ArgW OpQ HisT AppS HisU HisV LeaA OrdA OrdB OrdC OrdG OrdH OrdE. Conditions: each theorem's own. -/
import Derived.Deep.QuietTactic
import Derived.OneCell
import Derived.Lib.BufferWrite
import Derived.Laws.StructEq
import Derived.BigQuiet
import Derived.Deep.AppendLies
import Derived.Sort.Row
import Derived.Test.YtnhkjehfmbfmmaaGreatDoorPWholeNames0
namespace Go.Proofs.YtnhkjehfmbfmmaaGreatDoor
set_option maxHeartbeats 32000000
set_option maxRecDepth 100000
set_option linter.unusedSimpArgs false
set_option linter.unusedVariables false
open Lib (hid)
section
open Go.RowKit Go.Lib Go.Sort Go.Shelf
theorem flat_opV (l : List OpV) : flatK encO 3 l.toArray = (opV l).toArray := by
 apply Array.ext
 ·simp [opV_len]
 ·intro t h1 h2
  have ht : t < l.length * 3 := by simpa using h1
  have hk : t / 3 < l.length := by omega
  obtain ⟨e0, e1, e2⟩ := opV_at l (t / 3) hk
  have hx : l.toArray[t / 3]! = l[t / 3] := by simp [hk]
  have h3 : (flatK encO 3 l.toArray)[t]! = (encO l[t / 3])[t % 3]! := by rw [get_flatK _ _ _ t (by simpa using ht), hx]
  rw [← getElem!_pos _ t h1, h3]
  have hm3 : t % 3 = 0 ∨ t % 3 = 1 ∨ t % 3 = 2 := by omega
  have hr : ∀ x, (opV l)[t]? = some x → (opV l).toArray[t] = x := fun x hx => by
   have := List.getElem?_eq_some_iff.1 hx
   simpa using this.2
  rcases hm3 with h | h | h
  ·rw [hr _ (by rw [show t = t / 3 * 3 from by omega]; exact e0), h]; rfl
  ·rw [hr _ (by rw [show t = t / 3 * 3 + 1 from by omega]; exact e1), h]; rfl
  ·rw [hr _ (by rw [show t = t / 3 * 3 + 2 from by omega]; exact e2), h]; rfl
theorem holds_cells {w : World} {g : Nat} {cur : Array Value} {e : TypeId} {cs : List Value} (hb : w.heap[g]? = some (.cells cur e (0, 0))) (ht : cur.toList.take cs.length = cs) : Holds id w g 0 cs.toArray := by
 intro j hj
 have hj' : j < cs.length := by simpa using hj
 refine ⟨?_, by simp [World.frozen?, hb]⟩
 have h1 : (cur.toList.take cs.length)[j]? = cs[j]? := by rw [ht]
 rw [List.getElem?_take_of_lt hj'] at h1
 simp only [World.cell?, hb, Nat.zero_add]
 simp only [Option.isSome_none, Bool.false_eq_true, if_false]
 rw [← Array.getElem?_toList, h1]
 simp [hj']
theorem heap_grown {w : World} {os : Array Obj} {k : Nat} (h : k < w.heap.size) : (grow w os).heap[k]? = w.heap[k]? := by
 show (w.heap ++ os)[k]? = _
 rw [Array.getElem?_append_left h]
theorem take_put (cur : Array Value) (cs : List Value) (h : cs.length ≤ cur.size) : (putCells id 0 cs.toArray cur).toList.take cs.length = cs := by
 apply List.ext_getElem?
 intro j
 by_cases hj : j < cs.length
 ·rw [List.getElem?_take_of_lt hj, Array.getElem?_toList]
  simp [putCells, hj, show j < cur.size by omega]
 ·rw [List.getElem?_take_eq_none (by omega), List.getElem?_eq_none (by omega)]
theorem own_sorted {w : World} {base g cap n : Nat} {os : Array Obj} {l ts : List OpV} (hl : ts.length = l.length) (h : Own w base (.slice (some ⟨g, 0, none⟩) l.length cap) l) :
  Own (sortWorldK encO 3 w g 0 n ts.toArray os) base (.slice (some ⟨g, 0, none⟩) l.length cap) ts ∧ w.grownBy (sortWorldK encO 3 w g 0 n ts.toArray os) (some g) := by
 obtain ⟨h1, h2⟩ := h
 rcases h2 with ⟨h2, _⟩ | ⟨g', cap', cur, e1, e2, hb, e3, e4, e5, e6⟩
 ·cases h2
 cases e1
 have hg : g < w.heap.size := (Array.getElem?_eq_some_iff.1 hb).1
 have ew : sortWorldK encO 3 w g 0 n ts.toArray os = grow (putRow id (Sort.ahead w n) g 0 (opV ts).toArray) os := by
  unfold sortWorldK putRowK; rw [flat_opV]
 rw [ew]
 have hh : (grow (putRow id (Sort.ahead w n) g 0 (opV ts).toArray) os).heap[g]? = some (.cells (putCells id 0 (opV ts).toArray cur) 79 (0, 0)) := by
  rw [heap_grown (by simpa using hg)]
  simp [putRow, mapBlock, Sort.ahead, Array.getElem?_modify, hb, onCells]
 refine ⟨⟨by rw [opV_len], .inr ⟨g, cap, _, by rw [hl], e2, hh, by omega, e4, by simp [putCells, e5], ?_⟩⟩, rfl, rfl, rfl, by simp, fun k hk hne => ?_⟩
 ·have := take_put cur (opV ts) (by rw [opV_len]; have := opV_len l; omega)
  rwa [opV_len] at this
 ·rw [heap_grown (by simpa using hk)]
  have : g ≠ k := fun e => hne (by rw [e])
  simp [putRow, mapBlock, Sort.ahead, Array.getElem?_modify, this]
theorem own_holds {w : World} {base g cap : Nat} {l : List OpV} (h : Own w base (.slice (some ⟨g, 0, none⟩) l.length cap) l) : HoldsK encO 3 w g 0 l.toArray ∧ g < w.heap.size ∧ base ≤ g := by
 obtain ⟨h1, h2⟩ := h
 rcases h2 with ⟨h2, _⟩ | ⟨g', cap', cur, e1, e2, hb, e3, e4, e5, e6⟩
 ·cases h2
 cases e1
 refine ⟨?_, (Array.getElem?_eq_some_iff.1 hb).1, e2⟩
 show Holds id w g 0 _
 rw [flat_opV]
 exact holds_cells hb (by rw [opV_len]; exact e6)
theorem extract_all {α : Type} (d : Array α) : (d.extract 0 d.size).toList = d.toList := by simp
theorem sort_rise {f : Int → Option OpV} {wr : Bool} {acc : List OpV} {d' : Array OpV} (hm : ∀ o, o ∈ acc ↔ (f o.key = some o ∧ o.wr = wr)) (hnd : acc.Pairwise (fun a b => a.key ≠ b.key))
  (hp : PermIn 0 acc.toArray.size acc.toArray d') (hs : SortedIn (ltOf cmpO) 0 acc.toArray.size d') : d'.toList.length = acc.length ∧ Rise f wr d'.toList := by
 obtain ⟨hsz, _, hperm⟩ := hp
 have hp2 : d'.toList.Perm acc := by
  rw [← hsz] at hperm
  rw [extract_all] at hperm
  rw [show (acc.toArray.extract 0 d'.size).toList = acc from by rw [hsz]; simp] at hperm
  exact hperm
 have hlen : d'.toList.length = acc.length := hp2.length_eq
 refine ⟨hlen, ?_, fun o => hp2.mem_iff.trans (hm o)⟩
 have hnd' : d'.toList.Pairwise (fun a b => a.key ≠ b.key) := (hp2.pairwise_iff (fun {a b} h => Ne.symm h)).2 hnd
 rw [List.pairwise_iff_getElem] at hnd' ⊢
 intro i j hi hj hij
 have h1 := hnd' i j hi hj hij
 have hj' : j < d'.size := by simpa using hj
 have hi' : i < d'.size := by simpa using hi
 have h2 := hs i j (Nat.zero_le _) hij (by rw [← hsz]; exact hj')
 rw [cmp_lt, getElem!_pos d' i hi', getElem!_pos d' j hj'] at h2
 have h3 : ¬ d'[j].key < d'[i].key := by simpa using h2
 simp only [Array.getElem_toList] at h1 ⊢
 omega
def Got (f : Int → Option OpV) (wr : Bool) (left : Int → Bool) (acc : List OpV) : Prop :=
 acc.Pairwise (fun a b => a.key ≠ b.key) ∧ ∀ o, o ∈ acc ↔ (f o.key = some o ∧ o.wr = wr ∧ left o.key = false)
theorem Got.start (f : Int → Option OpV) (wr : Bool) : Got f wr (fun x => (f x).isSome) [] := by
 refine ⟨List.Pairwise.nil, fun o => ⟨fun h => (by cases h), fun ⟨h1, _, h3⟩ => ?_⟩⟩
 simp only [h1, Option.isSome_some] at h3; cases h3
theorem Got.yes {f : Int → Option OpV} {wr : Bool} {left : Int → Bool} {acc : List OpV} (h : Got f wr left acc) {u : OpV} (hl : left u.key = true) (hu : f u.key = some u) (hw : u.wr = wr) :
  Got f wr (fun y => left y && !decide (y = u.key)) (acc ++ [u]) := by
 obtain ⟨h1, h2⟩ := h
 refine ⟨List.pairwise_append.2 ⟨h1, by simp, fun a ha b hb => ?_⟩, fun o => ?_⟩
 ·simp at hb; subst hb
  have := (h2 a).1 ha
  intro e
  rw [e, hl] at this
  cases this.2.2
 ·rw [List.mem_append, h2 o]
  simp only [List.mem_singleton, Bool.and_eq_false_iff, Bool.not_eq_false', decide_eq_true_eq]
  constructor
  ·rintro (⟨e1, e2, e3⟩ | rfl)
   ·exact ⟨e1, e2, .inl e3⟩
   ·exact ⟨hu, hw, .inr rfl⟩
  ·rintro ⟨e1, e2, e3 | e3⟩
   ·exact .inl ⟨e1, e2, e3⟩
   ·rw [e3, hu] at e1; exact .inr (Option.some.inj e1).symm
theorem Got.no {f : Int → Option OpV} {wr : Bool} {left : Int → Bool} {acc : List OpV} (h : Got f wr left acc) {u : OpV} (hu : f u.key = some u) (hw : ¬ u.wr = wr) :
  Got f wr (fun y => left y && !decide (y = u.key)) acc := by
 obtain ⟨h1, h2⟩ := h
 refine ⟨h1, fun o => ?_⟩
 rw [h2 o]
 simp only [Bool.and_eq_false_iff, Bool.not_eq_false', decide_eq_true_eq]
 constructor
 ·rintro ⟨e1, e2, e3⟩; exact ⟨e1, e2, .inl e3⟩
 ·rintro ⟨e1, e2, e3 | e3⟩
  ·exact ⟨e1, e2, e3⟩
  ·rw [e3, hu] at e1
   cases e1; exact absurd e2 hw
end

section
open Go.RowKit Go.Lib Go.Sort Go.Shelf
theorem mapIO : Tryz.prog.underlying 218 = some (.map 3 79) := Tryz.underlying218
theorem zeroO (w : World) : (zeroValue 79).run Tryz.prog w = .ok (eO opZ) w := by kernel_rfl
theorem Own.split {w : World} {base : Nat} {v : Value} {l : List OpV} (h : Own w base v l) : (v = .slice none 0 0 ∧ l = []) ∨ ∃ g cap, v = .slice (some ⟨g, 0, none⟩) l.length cap ∧ base ≤ g := by
 obtain ⟨_, h2⟩ := h
 rcases h2 with ⟨e1, e2⟩ | ⟨g, cap, cur, e1, e2, _⟩
 ·exact .inl ⟨e1, List.eq_nil_of_length_eq_zero e2⟩
 ·exact .inr ⟨g, cap, e1, e2⟩
theorem below_own {w w1 w2 : World} {base : Nat} {v : Value} {l : List OpV} (hb : Below w.heap.size w w1) (hO : Own w1 base v l) (hbase : w.heap.size ≤ base) (hg : w1.grownBy w2 v.ownBlock) : Below w.heap.size w w2 :=
 hb.grown hg hb.size (fun j hj => by
  rcases hO.split with ⟨e, _⟩ | ⟨g, cap, e, hg'⟩
  ·rw [e] at hj; cases hj
  ·rw [e] at hj; have : g = j := (by simpa [Value.ownBlock] using hj); omega)
theorem own_ne {w1 : World} {base b : Nat} {v : Value} {l : List OpV} (hO : Own w1 base v l) (hb : b < base) : some b ≠ v.ownBlock := by
 rcases hO.split with ⟨e, _⟩ | ⟨g, cap, e, hg'⟩
 ·rw [e]; simp [Value.ownBlock]
 ·rw [e]; intro h; have : b = g := (by simpa [Value.ownBlock] using h); omega
theorem rising_any (b n c : Nat) (f : Int → Option OpV) (wt : Bool) (w : World) (hM : MapI eO Tryz.prog 3 w b n f c) (hf : ∀ x o, f x = some o → o.key = x ∧ InI x) (hc : c ≤ 100000) :
  Calls Tryz.prog 145 #[.map (some b), .bool wt] w fun e w' => ∃ v out, e = .returned v ∧ Own w' w.heap.size v out ∧ Rise f wt out ∧ out.length ≤ c ∧ Below w.heap.size w w' := by
 obtain ⟨i0, hi, hz0, hz1, hz2⟩ := info_parts infoOp
 have HF := hid hf
 have hbm := hM.lt
 clear hf
 go_enter Tryz.func145, Tryz.ntmps145
 go_wp2_with (first | (at_range; refine wpList_rangeI _ rfl _ 218 rfl 3 79 keyI mapIO _ _ _ _ rfl hM ?_; intro w0 hR0 hg0 hs0) | go_in)
 go_frame
 have hb0 := (Below.refl w.heap.size w).grown hg0 (Nat.le_refl _) (fun j hj => by cases hj)
 go_loopw [5] (fun v wr' => ∃ left cnt acc, RangeI eO Tryz.prog 3 wr' b w.heap.size n f left cnt ∧ Own wr' (w.heap.size + 1) v acc ∧ acc.length + cnt ≤ c ∧ Got f wt left acc ∧ Below w.heap.size w wr') (fun _ wr' => wr'.rangeLeft b w.heap.size)
 case atStart => exact ⟨_, _, [], hR0, Own.nil _ _, by simp, Got.start f wt, hb0⟩
 case round =>
  obtain ⟨left, cnt, acc, hR, hO, hl, hG, hb⟩ := hrel
  clear hM hR0 hg0 hb0
  go_wp2_with (first | (at_next; refine wpList_nextI _ rfl _ rfl 3 keyI eO_inj _ _ _ _ _ _ rfl hR ?_ ?_) | go_in)
  ·intro hc0 hl0
   have hmem : Hid (∀ o, o ∈ acc ↔ (f o.key = some o ∧ o.wr = wt)) := hid (fun o => (hG.2 o).trans ⟨fun ⟨h1, h2, _⟩ => ⟨h1, h2⟩, fun ⟨h1, h2⟩ => ⟨h1, h2, hl0 _ (HF.out _ _ h1).2⟩⟩)
   have hnd := hid hG.1
   clear hG hl0 hR
   rcases hO.split with ⟨rfl, rfl⟩ | ⟨g, cap, rfl, hbg⟩
   ·go_wp2_with fail
    refine (sort_none _ _ _ _).mono ?_
    rintro e w1 ⟨rfl, rfl⟩
    go_wp2_with fail
    go_ret
    exact ⟨_, [], rfl, Own.nil _ _, ⟨List.Pairwise.nil, hmem.out⟩, by simp, hb⟩
   ·have hH := hid (own_holds hO)
    have HO := hid hO
    clear hO
    go_wp2_with fail
    refine (sort_any g 0 cap acc.toArray wr hH.out.1 hH.out.2.1 (by simp; omega)).mono ?_
    rintro e w1 ⟨rfl, d', m, os, hp, hs, rfl⟩
    obtain ⟨hlen, hrise⟩ := sort_rise hmem.out hnd.out hp hs
    have hown := own_sorted (n := m) (os := os) hlen HO.out
    have hb1 := hb.grown hown.2 hb.size (fun j hj => by cases hj; omega)
    have hO1 := hid (hown.1.base (show w.heap.size ≤ w.heap.size + 1 by omega))
    clear hown hp hs
    generalize sortWorldK encO 3 wr g 0 m d'.toList.toArray os = w1 at *
    go_wp2_with fail
    go_ret
    exact ⟨_, _, rfl, hO1.out, hrise, by rw [hlen]; omega, hb1⟩
  ·intro x u w1 cnt1 hx hlx hfu hR1 hlt1 hg1 hs1 hen
   obtain ⟨hux, _⟩ := HF.out _ _ hfu
   subst hux
   have hb1 := hb.grown hg1 hb.size (fun j hj => by cases hj; omega)
   have hO1 : Own w1 (w.heap.size + 1) u5 acc := World.ownsRow.kept hO hg1 (.inr (own_ne hO (Nat.lt_succ_self _)).symm)
   have GY := hid (fun h => hG.yes hlx hfu h)
   have GN := hid (fun h => hG.no hfu h)
   have hle := hR.left_eq
   clear hO hR hG hlx hfu hb hx
   obtain ⟨uw, uk, uv⟩ := u
   change Sem.run _ _ _ = Result.ok (Value.tuple #[.int .i64 uk, .agg #[.bool uw, .int .i64 uk, .int .i64 uv]]) _ at hen
   simp only [eO, OpV.v]
   have hR2 := hR1.alloc (.cells #[.bool uw, .int .i64 uk, .int .i64 uv] 79)
   have hO2 := World.ownsRow.alloc hO1 (.cells #[.bool uw, .int .i64 uk, .int .i64 uv] 79)
   have hb2 := hb1.alloc hb1.size (.cells #[.bool uw, .int .i64 uk, .int .i64 uv] 79)
   by_cases hw : uw = wt
   ·subst hw
    have hw' : (uw == uw) = true := by simp
    have G := hid (GY.out rfl)
    have hx := opBlock w1 (.bool uw) (.int .i64 uk) (.int .i64 uv) 79
    have hws := hb1.size
    have hlit := opLit (w1.alloc (.cells #[.bool uw, .int .i64 uk, .int .i64 uv] 79)) 0 ⟨uw, uk, uv⟩ (Nat.zero_le _)
    rw [show (w1.alloc (.cells #[.bool uw, .int .i64 uk, .int .i64 uv] 79)).heap.size = w1.heap.size + 1 from by simp] at hlit
    clear GY GN hR1 hO1 hb1 hs1
    go_wp2_with (first | (at_builtin; go_loud (refine wpList_append_row rfl _ _ 81 rfl (w.heap.size + 1) 79 i0 (.agg #[.bool false, .int .i64 0, .int .i64 0]) 3 24 Tryz.underlying81 hi hz0 hz1 hz2 rfl (by decide) _ _ _ rfl (hO2.alloc _) _ 1 _ rfl (Row.of_owns hlit) ?d1 ?d2 ?d3 ?d4 ?_)) | go_in)
    case d1 => exact opV_one _
    case d2 => unfold maxLen; omega
    case d3 => omega
    case d4 => first | omega | (simp; omega)
    intro v6 w6 hown6 hg6
    clear hlit
    have hO3 : Own _ _ _ (acc ++ [⟨uw, uk, uv⟩]) := ⟨by rw [opV_len], by rw [opV_app]; simpa using hown6.2⟩
    have hg3 := hg6
    have hR3 := (hR2.alloc (.cells #[.bool uw, .int .i64 uk, .int .i64 uv] 79)).kept hg6 (own_ne hO2 (by omega)) (own_ne hO2 (by omega))
    have hb3 := below_own (hb2.alloc hb2.size (.cells #[.bool uw, .int .i64 uk, .int .i64 uv] 79)) (hO2.alloc (.cells #[.bool uw, .int .i64 uk, .int .i64 uv] 79)) (by omega) hg6
    clear hown6 hg6 hR2 hb2 hO2
    go_wp2_with fail
    go_roundw
    case rel => exact ⟨_, _, _, hR3, hO3, by simp; omega, G.out, hb3⟩
    case measure => rw [hR3.left_eq, hle]; exact hlt1
   ·have hw' : (uw == wt) = false := by simpa using hw
    have G := hid (GN.out hw)
    clear GY GN hw
    go_wp2_with fail
    go_roundw
    case rel => exact ⟨_, _, _, hR2, hO2, by omega, G.out, hb2⟩
    case measure => rw [hR2.left_eq, hle]; exact hlt1
end

section
open Go.RowKit
theorem MapI.le {α : Type} {e : α → Value} {P : Program} {k : TypeId} {w : World} {b n : Nat} {f : Int → Option α} {c : Nat} (h : MapI e P k w b n f c) : c ≤ n := by
 obtain ⟨D, h, hs, _⟩ := h
 have := h.size_le
 omega
theorem reads_any (s b c : Int) (va : Value) (l : List OpV) (w : World) (ha : Ops w va l) (hok : ∀ o ∈ l, o.ok) (hlen : l.length ≤ 100000) :
  Calls Tryz.prog 104 #[.agg #[.int .i64 s, .int .i64 b, .int .i64 c, va]] w fun e w' => ∃ v out, e = .returned v ∧ Own w' w.heap.size v out ∧ Rise (firstO l) false out ∧ out.length ≤ l.length ∧ Below w.heap.size w w' := by
 obtain ⟨ao, cap, rfl, hal⟩ := ha.form
 have HOK := hid hok
 clear hok
 have hb0 := (Below.refl w.heap.size w).alloc (Nat.le_refl _) (.cells #[.int .i64 s, .int .i64 b, .int .i64 c, .slice ao l.length cap] 83)
 have hm0 := MapI.made eO Tryz.prog 3 (w.alloc (.cells #[.int .i64 s, .int .i64 b, .int .i64 c, .slice ao l.length cap] 83))
 have hb1 := hb0.alloc hb0.size (.map #[] 0)
 have hmm := @run_makeMap Tryz.prog
 rw [show (w.alloc (.cells #[.int .i64 s, .int .i64 b, .int .i64 c, .slice ao l.length cap] 83)).heap.size = w.heap.size + 1 from by simp] at hm0
 go_enter Tryz.func104, Tryz.ntmps104
 go_wp2_with fail
 go_loopw [12] (fun i wr => ∃ k cnt : Nat, k ≤ l.length ∧ i = .int .i64 k ∧ MapI eO Tryz.prog 3 wr (w.heap.size + 1) k (firstO (l.take k)) cnt ∧ Below w.heap.size w wr) (fun i _ => l.length - (intOf i).toNat)
 case atStart => exact ⟨0, 0, by omega, rfl, hm0, hb1⟩
 case round =>
  obtain ⟨k, cnt, hk, rfl, hM, hb⟩ := hrel
  clear hm0 hb0 hb1
  by_cases hlt : k < l.length
  ·have hki : (k : Int) < (l.length : Int) := by omega
   obtain ⟨g, o, hao, c0, c1, c2⟩ := (ha.below hb).at hlt
   cases hao
   have HS : Hid (firstO (l.take (k + 1)) = if (firstO (l.take k) l[k].key).isSome then firstO (l.take k) else putF (firstO (l.take k)) l[k].key l[k]) := hid (by rw [take_snoc l k hlt, firstO_snoc])
   have hox := HOK.out l[k] (List.getElem_mem hlt)
   have hkey := inI_of hox.1
   generalize l[k] = x at *
   obtain ⟨wr', key, val⟩ := x
   simp only at c0 c1 c2 hkey
   have hM1 := hM.alloc (.cells #[.bool wr', .int .i64 key, .int .i64 val] 79)
   have hbb := hb.alloc hb.size (.cells #[.bool wr', .int .i64 key, .int .i64 val] 79)
   have hszb := hb.size
   clear hox hM hb
   cases hv : firstO (l.take k) key with
   | none =>
    simp only [hv, Option.isSome_none, Bool.false_eq_true, if_false] at HS
    have hM2 := hM1.alloc (.cells #[.bool false, .int .i64 0, .int .i64 0] 79)
    have hb2 := hbb.alloc hbb.size (.cells #[.bool false, .int .i64 0, .int .i64 0] 79)
    go_wp2_with (first | (at_lookup; refine wpList_lookI_ok _ rfl _ _ 218 rfl 3 79 keyI mapIO opZ (zeroO _) _ _ _ _ rfl hM1 _ rfl hkey ?_; rw [hv]; simp only [Option.getD_none, Option.isSome_none, eO, OpV.v, opZ]) | (at_mapUpdate; refine wpList_putI _ rfl _ _ _ 218 rfl 3 79 keyI mapIO _ _ _ _ rfl hM2 (by unfold maxLen; omega) _ rfl hkey ⟨wr', key, val⟩ rfl ?_; intro w1 hM3 hg; go_frame) | go_in)
    have hb3 := hb2.grown hg hb2.size (fun j hj => by cases hj; omega)
    go_wp2_with fail
    go_roundw
    case rel => exact ⟨k + 1, _, by omega, by go_num, by rw [HS.out]; exact hM3, hb3⟩
    case measure => simp [intOf]; omega
   | some v =>
    simp only [hv, Option.isSome_some, if_true] at HS
    obtain ⟨vw, vk, vv⟩ := v
    have hM2 := hM1.alloc (.cells #[.bool vw, .int .i64 vk, .int .i64 vv] 79)
    have hb2 := hbb.alloc hbb.size (.cells #[.bool vw, .int .i64 vk, .int .i64 vv] 79)
    go_wp2_with (first | (at_lookup; refine wpList_lookI_ok _ rfl _ _ 218 rfl 3 79 keyI mapIO opZ (zeroO _) _ _ _ _ rfl hM1 _ rfl hkey ?_; rw [hv]; simp only [Option.getD_some, Option.isSome_some, eO, OpV.v]) | go_in)
    go_roundw
    case rel => exact ⟨k + 1, _, by omega, by go_num, by rw [HS.out]; exact hM2.mono (by omega), hb2⟩
    case measure => simp [intOf]; omega
  ·have hkl : k = l.length := by omega
   subst hkl
   rw [List.take_length] at hM
   have HR := hid (rising_any (w.heap.size + 1) l.length cnt (firstO l) false wr hM (fun x o h => ⟨(firstO_key h).1, inI_of (by rw [← (firstO_key h).1]; exact (HOK.out o (firstO_key h).2).1)⟩) (Nat.le_trans hM.le hlen))
   have hcl := hM.le
   clear hM
   go_wp2_with fail
   refine (HR.out).mono ?_
   rintro e w1 ⟨v, out, rfl, hO, hR, hl, hb1⟩
   have hb2 := below_then hb hb1
   have hO2 := hid (hO.base hb.size)
   have HRise := hid hR
   clear hO hb1 hb HR hR
   go_wp2_with fail
   go_ret
   exact ⟨_, _, rfl, hO2.out, HRise.out, by omega, hb2⟩
theorem writes_any (s b c : Int) (va : Value) (l : List OpV) (w : World) (ha : Ops w va l) (hok : ∀ o ∈ l, o.ok) (hlen : l.length ≤ 100000) :
  Calls Tryz.prog 103 #[.agg #[.int .i64 s, .int .i64 b, .int .i64 c, va]] w fun e w' => ∃ v out, e = .returned v ∧ Own w' w.heap.size v out ∧ Rise (lastW l) true out ∧ out.length ≤ l.length ∧ Below w.heap.size w w' := by
 obtain ⟨ao, cap, rfl, hal⟩ := ha.form
 have HOK := hid hok
 clear hok
 have hb0 := (Below.refl w.heap.size w).alloc (Nat.le_refl _) (.cells #[.int .i64 s, .int .i64 b, .int .i64 c, .slice ao l.length cap] 83)
 have hm0 := MapI.made eO Tryz.prog 3 (w.alloc (.cells #[.int .i64 s, .int .i64 b, .int .i64 c, .slice ao l.length cap] 83))
 have hb1 := hb0.alloc hb0.size (.map #[] 0)
 have hmm := @run_makeMap Tryz.prog
 rw [show (w.alloc (.cells #[.int .i64 s, .int .i64 b, .int .i64 c, .slice ao l.length cap] 83)).heap.size = w.heap.size + 1 from by simp] at hm0
 go_enter Tryz.func103, Tryz.ntmps103
 go_wp2_with fail
 go_loopw [10] (fun i wr => ∃ k cnt : Nat, k ≤ l.length ∧ i = .int .i64 k ∧ MapI eO Tryz.prog 3 wr (w.heap.size + 1) k (lastW (l.take k)) cnt ∧ Below w.heap.size w wr) (fun i _ => l.length - (intOf i).toNat)
 case atStart => exact ⟨0, 0, by omega, rfl, hm0, hb1⟩
 case round =>
  obtain ⟨k, cnt, hk, rfl, hM, hb⟩ := hrel
  clear hm0 hb0 hb1
  by_cases hlt : k < l.length
  ·have hki : (k : Int) < (l.length : Int) := by omega
   obtain ⟨g, o, hao, c0, c1, c2⟩ := (ha.below hb).at hlt
   cases hao
   have HS : Hid (lastW (l.take (k + 1)) = if l[k].wr then putF (lastW (l.take k)) l[k].key l[k] else lastW (l.take k)) := hid (by rw [take_snoc l k hlt, lastW_snoc])
   have hox := HOK.out l[k] (List.getElem_mem hlt)
   have hkey := inI_of hox.1
   generalize l[k] = x at *
   obtain ⟨wr', key, val⟩ := x
   simp only at c0 c1 c2 hkey
   have hM1 := hM.alloc (.cells #[.bool wr', .int .i64 key, .int .i64 val] 79)
   have hbb := hb.alloc hb.size (.cells #[.bool wr', .int .i64 key, .int .i64 val] 79)
   have hszb := hb.size
   clear hox hM hb
   cases wr' with
   | false =>
    simp only [Bool.false_eq_true, if_false] at HS
    go_wp2_with fail
    go_roundw
    case rel => exact ⟨k + 1, _, by omega, by go_num, by rw [HS.out]; exact hM1.mono (by omega), hbb⟩
    case measure => simp [intOf]; omega
   | true =>
    simp only [if_true] at HS
    go_wp2_with (first | (at_mapUpdate; refine wpList_putI _ rfl _ _ _ 218 rfl 3 79 keyI mapIO _ _ _ _ rfl hM1 (by unfold maxLen; omega) _ rfl hkey ⟨true, key, val⟩ rfl ?_; intro w1 hM3 hg; go_frame) | go_in)
    have hb3 := hbb.grown hg hbb.size (fun j hj => by cases hj; omega)
    go_wp2_with fail
    go_roundw
    case rel => exact ⟨k + 1, _, by omega, by go_num, by rw [HS.out]; exact hM3, hb3⟩
    case measure => simp [intOf]; omega
  ·have hkl : k = l.length := by omega
   subst hkl
   rw [List.take_length] at hM
   have HR := hid (rising_any (w.heap.size + 1) l.length cnt (lastW l) true wr hM (fun x o h => ⟨(lastW_key h).1, inI_of (by rw [← (lastW_key h).1]; exact (HOK.out o (lastW_key h).2.2).1)⟩) (Nat.le_trans hM.le hlen))
   have hcl := hM.le
   clear hM
   go_wp2_with fail
   refine (HR.out).mono ?_
   rintro e w1 ⟨v, out, rfl, hO, hR, hl, hb1⟩
   have hb2 := below_then hb hb1
   have hO2 := hid (hO.base hb.size)
   have HRise := hid hR
   clear hO hb1 hb HR hR
   go_wp2_with fail
   go_ret
   exact ⟨_, _, rfl, hO2.out, HRise.out, by omega, hb2⟩
end

section
open Go.RowKit
def mayT (s b c : Int) (l : List OpV) : Bool := decide (0 ≤ s ∧ s < 64 ∧ 0 ≤ b ∧ b < c ∧ c ≤ 2147483647 ∧ 1 ≤ l.length ∧ l.length ≤ 64) && allM l
theorem mayT_no {s b c : Int} {l : List OpV} (h : ¬ (0 ≤ s ∧ s < 64 ∧ 0 ≤ b ∧ b < c ∧ c ≤ 2147483647 ∧ 1 ≤ l.length ∧ l.length ≤ 64)) : mayT s b c l = false := by
 unfold mayT; simp only [h, decide_false, Bool.false_and]
theorem mayT_yes {s b c : Int} {l : List OpV} (h : 0 ≤ s ∧ s < 64 ∧ 0 ≤ b ∧ b < c ∧ c ≤ 2147483647 ∧ 1 ≤ l.length ∧ l.length ≤ 64) : mayT s b c l = allM l := by
 unfold mayT; simp only [h, and_self, decide_true, Bool.true_and]
theorem tright_any (s b c : Int) (va : Value) (l : List OpV) (w : World) (ha : Ops w va l) :
  Calls Tryz.prog 131 #[.agg #[.int .i64 s, .int .i64 b, .int .i64 c, va]] w fun e w' => e = .returned (.bool (mayT s b c l)) ∧ Below w.heap.size w w' := by
 obtain ⟨ao, cap, rfl, hal⟩ := ha.form
 have hb0 := (Below.refl w.heap.size w).alloc (Nat.le_refl _) (.cells #[.int .i64 s, .int .i64 b, .int .i64 c, .slice ao l.length cap] 83)
 have NO : Hid (¬ (0 ≤ s ∧ s < 64 ∧ 0 ≤ b ∧ b < c ∧ c ≤ 2147483647 ∧ 1 ≤ l.length ∧ l.length ≤ 64) → false = mayT s b c l) := hid (fun h => (mayT_no h).symm)
 by_cases d1 : s < 0
 ·have H := hid (NO.out (by omega))
  go_enter Tryz.func131, Tryz.ntmps131
  go_wp2_with fail
  go_ret
  exact ⟨ret_b H.out, hb0⟩
 by_cases d2 : (64 : Int) ≤ s
 ·have H := hid (NO.out (by omega))
  go_enter Tryz.func131, Tryz.ntmps131
  go_wp2_with fail
  go_ret
  exact ⟨ret_b H.out, hb0⟩
 by_cases d3 : b < 0
 ·have H := hid (NO.out (by omega))
  go_enter Tryz.func131, Tryz.ntmps131
  go_wp2_with fail
  go_ret
  exact ⟨ret_b H.out, hb0⟩
 by_cases d4 : c ≤ b
 ·have H := hid (NO.out (by omega))
  go_enter Tryz.func131, Tryz.ntmps131
  go_wp2_with fail
  go_ret
  exact ⟨ret_b H.out, hb0⟩
 by_cases d5 : (2147483647 : Int) < c
 ·have H := hid (NO.out (by omega))
  go_enter Tryz.func131, Tryz.ntmps131
  go_wp2_with fail
  go_ret
  exact ⟨ret_b H.out, hb0⟩
 by_cases d6 : l.length = 0
 ·have H := hid (NO.out (by omega))
  rw [d6]
  rw [d6] at hb0
  go_enter Tryz.func131, Tryz.ntmps131
  go_wp2_with fail
  go_ret
  exact ⟨ret_b H.out, hb0⟩
 have d6' : ((l.length : Int) == 0) = false := by simp; exact fun h => d6 (by rw [h]; rfl)
 by_cases d7 : 64 < l.length
 ·have H := hid (NO.out (by omega))
  have d7' : (64 : Int) < (l.length : Int) := by omega
  go_enter Tryz.func131, Tryz.ntmps131
  go_wp2_with fail
  go_ret
  exact ⟨ret_b H.out, hb0⟩
 have d7' : ¬ (64 : Int) < (l.length : Int) := by omega
 have YES : Hid (mayT s b c l = allM l) := hid (mayT_yes (by omega))
 clear NO d6
 go_enter Tryz.func131, Tryz.ntmps131
 go_wp2_with fail
 clear d1 d2 d3 d4 d5
 go_loopw [41] (fun i wr => ∃ k : Nat, k ≤ l.length ∧ i = .int .i64 k ∧ allM (l.take k) = true ∧ Below w.heap.size w wr) (fun i _ => l.length - (intOf i).toNat)
 case atStart => exact ⟨0, by omega, rfl, rfl, hb0⟩
 case round =>
  obtain ⟨k, hk, rfl, hal2, hb⟩ := hrel
  have HA := hid hal2
  clear hal2 hb0
  by_cases hlt : k < l.length
  ·have hki : (k : Int) < (l.length : Int) := by omega
   obtain ⟨g, o, hao, c0, c1, c2⟩ := (ha.below hb).at hlt
   cases hao
   have HS := hid (allM_succ l k hlt)
   have HNO := hid (allM_no l k hlt)
   generalize l[k] = x at *
   obtain ⟨xw, xk, xv⟩ := x
   try simp only at c0 c1 c2
   have hbb := hb.alloc hb.size (.cells #[.bool xw, .int .i64 xk, .int .i64 xv] 79)
   have CR := hid (right_any xw xk xv (wr.alloc (.cells #[.bool xw, .int .i64 xk, .int .i64 xv] 79)))
   generalize mayO ⟨xw, xk, xv⟩ = q at *
   go_wp2_with fail
   refine (CR.out).mono ?_
   rintro e w1 ⟨rfl, hb1⟩
   have hb2 := below_then hbb hb1
   clear CR
   cases q
   ·have H : Hid (false = mayT s b c l) := hid (by rw [YES.out, HNO.out rfl])
    go_wp2_with fail
    go_ret
    exact ⟨ret_b H.out, hb2⟩
   ·have H : Hid (allM (l.take (k + 1)) = true) := hid (by rw [HS.out, HA.out]; rfl)
    go_wp2_with fail
    go_roundw
    case rel => exact ⟨k + 1, by omega, by go_num, H.out, hb2⟩
    case measure => simp [intOf]; omega
  ·have hkl : k = l.length := by omega
   have H : Hid (true = mayT s b c l) := hid (by have := HA.out; rw [hkl, List.take_length] at this; rw [YES.out, this])
   go_wp2_with fail
   go_ret
   exact ⟨ret_b H.out, hb⟩
end

section
open Go.RowKit
theorem wrap64_small {a : Int} (h1 : -9223372036854775808 ≤ a) (h2 : a ≤ 9223372036854775807) : wrap64 a = a := by unfold wrap64; omega
def opsN (h : List TxnV) : Nat := (h.map fun t => t.l.length).sum
theorem opsN_snoc (h : List TxnV) (t : TxnV) : opsN (h ++ [t]) = opsN h + t.l.length := by unfold opsN; simp
theorem opsN_take (h : List TxnV) (k : Nat) (hk : k < h.length) : opsN (h.take (k + 1)) = opsN (h.take k) + h[k].l.length := by
 rw [List.take_succ_eq_append_getElem hk, opsN_snoc]
theorem opsN_le (h : List TxnV) (k : Nat) : opsN (h.take k) ≤ opsN h := by
 have : opsN h = opsN (h.take k) + opsN (h.drop k) := by
  unfold opsN; rw [← List.sum_append, ← List.map_append, List.take_append_drop]
 omega
theorem opsN_at (h : List TxnV) (k : Nat) (hk : k < h.length) : h[k].l.length ≤ opsN h := by
 have h1 := opsN_take h k hk
 have h2 := opsN_le h (k + 1)
 omega
def Short (h : List TxnV) : Prop := ∀ t ∈ h, t.l.length ≤ 6000000000000
theorem ret_int {a b : Int} (h : a = b) : Ending.returned (.int .i64 a) = .returned (.int .i64 b) := by rw [h]
theorem hops_any (va : Value) (h : List TxnV) (w : World) (hT : Txns w va h) (hn : opsN h ≤ 4611686018427387904) :
  Calls Tryz.prog 83 #[va] w fun e w' => e = .returned (.int .i64 (opsN h)) ∧ Below w.heap.size w w' := by
 obtain ⟨ao, cap, rfl, hal⟩ := hT.form
 go_enter Tryz.func83, Tryz.ntmps83
 go_wp2_with fail
 go_loopw [3, 8] (fun n i wr => ∃ k : Nat, k ≤ h.length ∧ i = .int .i64 k ∧ n = .int .i64 (opsN (h.take k)) ∧ Below w.heap.size w wr) (fun _ i _ => h.length - (intOf i).toNat)
 case atStart => exact ⟨0, by omega, rfl, by simp [opsN], Below.refl _ _⟩
 case round =>
  obtain ⟨k, hk, rfl, rfl, hb⟩ := hrel
  by_cases hlt : k < h.length
  ·have hki : (k : Int) < (h.length : Int) := by omega
   obtain ⟨g, o, hao, c0, c1, c2, c3⟩ := (hT.below hb).at hlt
   cases hao
   have HS := hid (opsN_take h k hlt)
   have hle := opsN_le h (k + 1)
   rw [HS.out] at hle
   obtain ⟨ai, capi, hv, hli⟩ := (hT.ops hlt).form
   rw [hv] at c3
   have hbb := hb.alloc hb.size (.cells #[.int .i64 h[k].s, .int .i64 h[k].b, .int .i64 h[k].c, .slice ai h[k].l.length capi] 83)
   generalize h[k].l.length = m at *
   generalize h[k].s = s at *
   generalize h[k].b = b at *
   generalize h[k].c = c at *
   generalize opsN (h.take k) = n at *
   clear hv hT
   go_wp2_with fail
   go_roundw
   case rel => exact ⟨k + 1, by omega, by go_num, by rw [HS.out]; go_num, hbb⟩
   case measure => simp [intOf]; omega
  ·have hkl : k = h.length := by omega
   subst hkl
   have H : Hid ((opsN (h.take h.length) : Int) = opsN h) := hid (by rw [List.take_length])
   generalize opsN (h.take h.length) = n at *
   go_wp2_with fail
   go_ret
   exact ⟨ret_int H.out, hb⟩
theorem count_any (va : Value) (h : List TxnV) (w : World) (hT : Txns w va h) (hn : opsN h ≤ 4611686018427387904) :
  Calls Tryz.prog 24 #[va] w fun e w' => e = .returned (.int .i64 (opsN h)) ∧ Below w.heap.size w w' := by
 obtain ⟨ao, cap, rfl, hal⟩ := hT.form
 go_enter Tryz.func24, Tryz.ntmps24
 go_wp2_with fail
 go_loopw [3, 4] (fun n i wr => ∃ k : Nat, k ≤ h.length ∧ i = .int .i64 k ∧ n = .int .i64 (opsN (h.take k)) ∧ w = wr) (fun _ i _ => h.length - (intOf i).toNat)
 case atStart => exact ⟨0, by omega, rfl, by simp [opsN], rfl⟩
 case round =>
  obtain ⟨k, hk, rfl, rfl, rfl⟩ := hrel
  by_cases hlt : k < h.length
  ·have hki : (k : Int) < (h.length : Int) := by omega
   obtain ⟨g, o, hao, c0, c1, c2, c3⟩ := hT.at hlt
   cases hao
   have HS := hid (opsN_take h k hlt)
   have hle := opsN_le h (k + 1)
   rw [HS.out] at hle
   obtain ⟨ai, capi, hv, hli⟩ := (hT.ops hlt).form
   rw [hv] at c3
   generalize h[k].l.length = m at *
   generalize opsN (h.take k) = n at *
   clear hv c0 c1 c2
   go_wp2_with fail
   go_roundw
   case rel => exact ⟨k + 1, by omega, by go_num, by rw [HS.out]; go_num, by first | rfl | trivial⟩
   case measure => simp [intOf]; omega
  ·have hkl : k = h.length := by omega
   subst hkl
   have H : Hid ((opsN (h.take h.length) : Int) = opsN h) := hid (by rw [List.take_length])
   generalize opsN (h.take h.length) = n at *
   go_wp2_with fail
   go_ret
   exact ⟨ret_int H.out, Below.refl _ _⟩
end

section
open Go.RowKit
def partsB (h : List TxnV) : Bool := h.all fun t => mayT t.s t.b t.c t.l
theorem partsB_no {h : List TxnV} {k : Nat} (hk : k < h.length) (hn : mayT h[k].s h[k].b h[k].c h[k].l = false) : partsB h = false := by
 unfold partsB; exact List.all_eq_false.2 ⟨h[k], List.getElem_mem hk, by simp [hn]⟩
theorem partsB_succ (h : List TxnV) (k : Nat) (hk : k < h.length) : partsB (h.take (k + 1)) = (partsB (h.take k) && mayT h[k].s h[k].b h[k].c h[k].l) := by
 unfold partsB; rw [List.take_succ_eq_append_getElem hk, List.all_append]; simp
theorem parts_any (va : Value) (h : List TxnV) (w : World) (hT : Txns w va h) :
  Calls Tryz.prog 84 #[va] w fun e w' => e = .returned (.bool (partsB h)) ∧ Below w.heap.size w w' := by
 obtain ⟨ao, cap, rfl, hal⟩ := hT.form
 go_enter Tryz.func84, Tryz.ntmps84
 go_wp2_with fail
 go_loopw [7] (fun i wr => ∃ k : Nat, k ≤ h.length ∧ i = .int .i64 k ∧ partsB (h.take k) = true ∧ Below w.heap.size w wr) (fun i _ => h.length - (intOf i).toNat)
 case atStart => exact ⟨0, by omega, rfl, rfl, Below.refl _ _⟩
 case round =>
  obtain ⟨k, hk, rfl, hP, hb⟩ := hrel
  have HP := hid hP
  clear hP
  by_cases hlt : k < h.length
  ·have hki : (k : Int) < (h.length : Int) := by omega
   obtain ⟨g, o, hao, c0, c1, c2, c3⟩ := (hT.below hb).at hlt
   cases hao
   have HS := hid (partsB_succ h k hlt)
   have HN := hid (fun hh => partsB_no hlt hh)
   have hOps := fun wx (hx : Below w.heap.size w wx) => (hT.ops hlt).below hx
   generalize h[k] = t at *
   obtain ⟨s, b, c, v, l⟩ := t
   simp only at c0 c1 c2 c3 HS HN hOps
   obtain ⟨ai, capi, rfl, hli⟩ := (hOps w (Below.refl _ _)).form
   have hbb := hb.alloc hb.size (.cells #[.int .i64 s, .int .i64 b, .int .i64 c, .slice ai l.length capi] 83)
   have CR := hid (tright_any s b c _ l _ (hOps _ hbb))
   clear hOps
   generalize mayT s b c l = q at *
   go_wp2_with fail
   refine (CR.out).mono ?_
   rintro e w1 ⟨rfl, hb1⟩
   have hb2 := below_then hbb hb1
   clear CR
   cases q
   ·have H := hid (HN.out rfl)
    go_wp2_with fail
    go_ret
    exact ⟨ret_b H.out.symm, hb2⟩
   ·have H : Hid (partsB (h.take (k + 1)) = true) := hid (by rw [HS.out, HP.out]; rfl)
    go_wp2_with fail
    go_roundw
    case rel => exact ⟨k + 1, by omega, by go_num, H.out, hb2⟩
    case measure => simp [intOf]; omega
  ·have hkl : k = h.length := by omega
   have H : Hid (partsB h = true) := hid (by have := HP.out; rw [hkl, List.take_length] at this; exact this)
   go_wp2_with fail
   go_ret
   exact ⟨ret_b H.out.symm, hb⟩
def stL (h : List TxnV) : List Int := h.flatMap fun t => [t.b, t.c]
def stampsB (h : List TxnV) : Bool := decide (stL h).Nodup
theorem stL_succ (h : List TxnV) (k : Nat) (hk : k < h.length) : stL (h.take (k + 1)) = stL (h.take k) ++ [h[k].b, h[k].c] := by
 unfold stL; rw [List.take_succ_eq_append_getElem hk, List.flatMap_append]; simp
theorem stL_no {h : List TxnV} {k : Nat} (hn : ¬ (stL (h.take (k + 1))).Nodup) : stampsB h = false := by
 unfold stampsB
 rw [decide_eq_false_iff_not]
 intro hd
 apply hn
 have : stL h = stL (h.take (k + 1)) ++ stL (h.drop (k + 1)) := by unfold stL; rw [← List.flatMap_append, List.take_append_drop]
 rw [this] at hd
 exact (List.nodup_append.1 hd).1
def inF (L : List Int) : Int → Option Bool := fun x => if x ∈ L then some true else none
theorem inF_snoc (L : List Int) (x : Int) : putF (inF L) x true = inF (L ++ [x]) := by
 funext y
 unfold putF inF
 by_cases h : y = x <;> simp [h]
theorem nod_b {L : List Int} {b c : Int} (h : (L ++ [b, c].take 0).Nodup) (hn : ¬ b ∈ L ++ [b, c].take 0) : (L ++ [b, c].take 1).Nodup := by
 simp at h hn ⊢
 rw [List.nodup_append]
 exact ⟨h, by simp, by intro x hx y hy; simp at hy; subst hy; rintro rfl; exact hn hx⟩
theorem nod_c {L : List Int} {b c : Int} (h : (L ++ [b, c].take 1).Nodup) (hn : ¬ c ∈ L ++ [b, c].take 1) : (L ++ [b, c].take 2).Nodup := by
 simp at h hn ⊢
 rw [List.nodup_append] at h ⊢
 refine ⟨h.1, ?_, ?_⟩
 ·simp; exact fun e => hn.2 e.symm
 ·intro x hx y hy
  simp at hy
  rcases hy with rfl | rfl
  ·exact h.2.2 x hx y (by simp)
  ·rintro rfl; exact hn.1 hx
theorem dup_b {L : List Int} {b c : Int} (h : b ∈ L ++ [b, c].take 0) : ¬ (L ++ [b, c]).Nodup := by
 simp at h
 intro hd
 exact (List.nodup_append.1 hd).2.2 b h b (by simp) rfl
theorem dup_c {L : List Int} {b c : Int} (h : c ∈ L ++ [b, c].take 1) : ¬ (L ++ [b, c]).Nodup := by
 simp at h
 intro hd
 rcases h with h | rfl
 ·exact (List.nodup_append.1 hd).2.2 c h c (by simp) rfl
 ·have := (List.nodup_append.1 hd).2.1
  simp at this
theorem mapIB : Tryz.prog.underlying 192 = some (.map 3 4) := Tryz.underlying192
theorem zeroB (w : World) : (zeroValue 4).run Tryz.prog w = .ok (Value.bool false) w := by kernel_rfl
theorem pair_index (b c : Int) (w : World) : Sem.run Tryz.prog (Instr.index 193 (.agg #[.int .i64 b, .int .i64 c]) (.int .i64 0)) w = .ok (.int .i64 b) w ∧ Sem.run Tryz.prog (Instr.index 193 (.agg #[.int .i64 b, .int .i64 c]) (.int .i64 1)) w = .ok (.int .i64 c) w := by
 have u1 := Tryz.underlying193
 have u2 := Tryz.underlying3
 have u3 := Tryz.sizeOf3
 have u4 := Tryz.isAgg3
 constructor <;> (unfold Instr.index; go_simp)
theorem stamps_any (va : Value) (h : List TxnV) (w : World) (hT : Txns w va h) (hok : ∀ t ∈ h, t.ok) (hlen : h.length ≤ 100000) :
  Calls Tryz.prog 86 #[va] w fun e w' => e = .returned (.bool (stampsB h)) ∧ Below w.heap.size w w' := by
 obtain ⟨ao, cap, rfl, hal⟩ := hT.form
 have HOK := hid hok
 clear hok
 have hm0 := MapI.made Value.bool Tryz.prog 3 w
 have hb1 := (Below.refl w.heap.size w).alloc (Nat.le_refl _) (.map #[] 0)
 have hmm := @run_makeMap Tryz.prog
 go_enter Tryz.func86, Tryz.ntmps86
 go_wp2_with fail
 go_loopw [11] (fun i wr => ∃ k cnt : Nat, k ≤ h.length ∧ i = .int .i64 k ∧ (stL (h.take k)).Nodup ∧ MapI Value.bool Tryz.prog 3 wr w.heap.size (2 * k) (inF (stL (h.take k))) cnt ∧ Below w.heap.size w wr) (fun i _ => h.length - (intOf i).toNat)
 case atStart => exact ⟨0, 0, by omega, rfl, by simp [stL], by have e : inF (stL (h.take 0)) = fun _ => none := (by funext y; simp [stL, inF]); rw [e]; exact hm0, hb1⟩
 case round =>
  obtain ⟨k, cnt, hk, rfl, hN, hM, hb⟩ := hrel
  have HND := hid hN
  clear hN hm0 hb1
  by_cases hlt : k < h.length
  ·have hki : (k : Int) < (h.length : Int) := by omega
   obtain ⟨g, o, hao, c0, c1, c2, c3⟩ := (hT.below hb).at hlt
   cases hao
   have HS := hid (stL_succ h k hlt)
   have HNO := hid (fun hh => stL_no (h := h) (k := k) hh)
   have hOps := (hT.ops hlt)
   have htok := (HOK.out h[k] (List.getElem_mem hlt)).1
   generalize h[k] = t at *
   obtain ⟨s, b, c, v, l⟩ := t
   simp only at c0 c1 c2 c3 HS hOps htok
   have hkb := inI_of htok.2.1
   have hkc := inI_of htok.2.2
   obtain ⟨ai, capi, rfl, hli⟩ := hOps.form
   have hM1 := hM.alloc (.cells #[.int .i64 s, .int .i64 b, .int .i64 c, .slice ai l.length capi] 83)
   have hbb := hb.alloc hb.size (.cells #[.int .i64 s, .int .i64 b, .int .i64 c, .slice ai l.length capi] 83)
   have hsz := hb.size
   clear hOps htok hM hb
   have hix0 := fun w => (pair_index b c w).1
   have hix1 := fun w => (pair_index b c w).2
   generalize stL (h.take k) = L at *
   go_wp2_with fail
   go_loopw [20] (fun i wx => ∃ j cn : Nat, j ≤ 2 ∧ i = .int .i64 j ∧ (L ++ [b, c].take j).Nodup ∧ MapI Value.bool Tryz.prog 3 wx w.heap.size (2 * k + j) (inF (L ++ [b, c].take j)) cn ∧ Below w.heap.size w wx) (fun i _ => 2 - (intOf i).toNat)
   case atStart => exact ⟨0, _, by omega, rfl, by simpa using HND.out, by simpa using hM1, hbb⟩
   case round =>
    obtain ⟨j, cn, hj, hi, hD, hM2, hb2⟩ := hrel
    clear hM1 hbb
    rcases j with _ | _ | j
    ·obtain rfl : u20 = .int .i64 0 := hi
     have HD := hid hD
     clear hD
     by_cases hin : b ∈ L ++ [b, c].take 0
     ·have H : Hid (stampsB h = false) := hid (HNO.out (by rw [HS.out]; exact dup_b hin))
      have hf : (inF (L ++ [b, c].take 0) b).getD false = true := by unfold inF; rw [if_pos hin]; rfl
      clear HNO hin
      go_wp2_with (first | (at_lookup; refine wpList_lookI _ rfl _ _ 192 rfl 3 4 keyI mapIB false (zeroB _) _ _ _ _ rfl hM2 _ rfl hkb ?_; rw [hf]) | go_in)
      go_ret
      exact ⟨ret_b H.out.symm, hb2⟩
     ·have hf : (inF (L ++ [b, c].take 0) b).getD false = false := by unfold inF; rw [if_neg hin]; rfl
      have HN2 : Hid ((L ++ [b, c].take 1).Nodup) := hid (nod_b HD.out hin)
      have HF : Hid (putF (inF (L ++ [b, c].take 0)) b true = inF (L ++ [b, c].take 1)) := hid (by rw [inF_snoc]; simp)
      clear HNO hin
      go_wp2_with (first | (at_lookup; refine wpList_lookI _ rfl _ _ 192 rfl 3 4 keyI mapIB false (zeroB _) _ _ _ _ rfl hM2 _ rfl hkb ?_; rw [hf]) | (at_mapUpdate; refine wpList_putI _ rfl _ _ _ 192 rfl 3 4 keyI mapIB _ _ _ _ rfl hM2 (by unfold maxLen; omega) _ rfl hkb true rfl ?_; intro w1 hM3 hg; go_frame) | go_in)
      have hb3 := hb2.grown hg hb2.size (fun j hj => by cases hj; omega)
      go_wp2_with fail
      go_roundw
      case rel => exact ⟨1, _, by omega, by go_num, HN2.out, by rw [← HF.out]; exact hM3, hb3⟩
      case measure => simp [intOf]
    ·obtain rfl : u20 = .int .i64 1 := hi
     have HD := hid hD
     clear hD
     by_cases hin : c ∈ L ++ [b, c].take 1
     ·have H : Hid (stampsB h = false) := hid (HNO.out (by rw [HS.out]; exact dup_c hin))
      have hf : (inF (L ++ [b, c].take 1) c).getD false = true := by unfold inF; rw [if_pos hin]; rfl
      clear HNO hin
      go_wp2_with (first | (at_lookup; refine wpList_lookI _ rfl _ _ 192 rfl 3 4 keyI mapIB false (zeroB _) _ _ _ _ rfl hM2 _ rfl hkc ?_; rw [hf]) | go_in)
      go_ret
      exact ⟨ret_b H.out.symm, hb2⟩
     ·have hf : (inF (L ++ [b, c].take 1) c).getD false = false := by unfold inF; rw [if_neg hin]; rfl
      have HN2 : Hid ((L ++ [b, c].take 2).Nodup) := hid (nod_c HD.out hin)
      have HF : Hid (putF (inF (L ++ [b, c].take 1)) c true = inF (L ++ [b, c].take 2)) := hid (by rw [inF_snoc]; simp)
      clear HNO hin
      go_wp2_with (first | (at_lookup; refine wpList_lookI _ rfl _ _ 192 rfl 3 4 keyI mapIB false (zeroB _) _ _ _ _ rfl hM2 _ rfl hkc ?_; rw [hf]) | (at_mapUpdate; refine wpList_putI _ rfl _ _ _ 192 rfl 3 4 keyI mapIB _ _ _ _ rfl hM2 (by unfold maxLen; omega) _ rfl hkc true rfl ?_; intro w1 hM3 hg; go_frame) | go_in)
      have hb3 := hb2.grown hg hb2.size (fun j hj => by cases hj; omega)
      go_wp2_with fail
      go_roundw
      case rel => exact ⟨2, _, by omega, by go_num, HN2.out, by rw [← HF.out]; exact hM3, hb3⟩
      case measure => simp [intOf]
    ·obtain rfl : j = 0 := by omega
     obtain rfl : u20 = .int .i64 2 := hi
     have HR : Hid (stL (h.take (k + 1)) = L ++ [b, c].take 2) := hid (by rw [HS.out]; rfl)
     have HD := hid hD
     clear hD
     go_wp2_with fail
     go_roundw
     case rel => exact ⟨k + 1, _, by omega, by go_num, by rw [HR.out]; exact HD.out, by rw [HR.out]; exact hM2.mono (by omega), hb2⟩
     case measure => simp [intOf]; omega
  ·have hkl : k = h.length := by omega
   have H : Hid (stampsB h = true) := hid (by have := HND.out; rw [hkl, List.take_length] at this; unfold stampsB; simpa using this)
   go_wp2_with fail
   go_ret
   exact ⟨ret_b H.out.symm, hb⟩
end

section
open Go.RowKit
def endF (h : List TxnV) : Int → Option Int := fun x => ((h.filter fun t => t.s == x).getLast?).map (·.c)
theorem endF_succ (h : List TxnV) (k : Nat) (hk : k < h.length) : endF (h.take (k + 1)) = putF (endF (h.take k)) h[k].s h[k].c := by
 funext y
 unfold endF putF
 rw [List.take_succ_eq_append_getElem hk, List.filter_append]
 by_cases e : y = h[k].s
 ·subst e; simp
 ·have : (h[k].s == y) = false := by simp; exact fun e2 => e e2.symm
  simp [this, e]
def sesOk (h : List TxnV) (k : Nat) : Bool := match h[k]? with
 | none => true
 | some t => match endF (h.take k) t.s with
  | none => true
  | some e => decide (e < t.b)
def sesB (h : List TxnV) : Bool := (List.range h.length).all (sesOk h)
theorem sesB_all {h : List TxnV} (hh : ∀ j, j < h.length → sesOk h j = true) : sesB h = true := by
 unfold sesB; rw [List.all_eq_true]; intro j hj; exact hh j (List.mem_range.1 hj)
theorem sesB_no {h : List TxnV} {k : Nat} (hk : k < h.length) (hh : sesOk h k = false) : sesB h = false := by
 unfold sesB; rw [List.all_eq_false]; exact ⟨k, List.mem_range.2 hk, by simp [hh]⟩
theorem sesOk_at {h : List TxnV} {k : Nat} (hk : k < h.length) : sesOk h k = match endF (h.take k) h[k].s with
  | none => true
  | some e => decide (e < h[k].b) := by
 unfold sesOk; rw [List.getElem?_eq_getElem hk]
theorem sessions_any (va : Value) (h : List TxnV) (w : World) (hT : Txns w va h) (hok : ∀ t ∈ h, t.ok) (hlen : h.length ≤ 100000) :
  Calls Tryz.prog 87 #[va] w fun e w' => e = .returned (.bool (sesB h)) ∧ Below w.heap.size w w' := by
 obtain ⟨ao, cap, rfl, hal⟩ := hT.form
 have HOK := hid hok
 clear hok
 have hm0 := MapI.made eI Tryz.prog 3 w
 have hb1 := (Below.refl w.heap.size w).alloc (Nat.le_refl _) (.map #[] 0)
 have hmm := @run_makeMap Tryz.prog
 go_enter Tryz.func87, Tryz.ntmps87
 go_wp2_with fail
 go_loopw [11] (fun i wr => ∃ k cnt : Nat, k ≤ h.length ∧ i = .int .i64 k ∧ (∀ j, j < k → sesOk h j = true) ∧ MapI eI Tryz.prog 3 wr w.heap.size k (endF (h.take k)) cnt ∧ Below w.heap.size w wr) (fun i _ => h.length - (intOf i).toNat)
 case atStart => exact ⟨0, 0, by omega, rfl, by omega, hm0, hb1⟩
 case round =>
  obtain ⟨k, cnt, hk, rfl, hN, hM, hb⟩ := hrel
  have HST := hid hN
  clear hN hm0 hb1
  by_cases hlt : k < h.length
  ·have hki : (k : Int) < (h.length : Int) := by omega
   obtain ⟨g, o, hao, c0, c1, c2, c3⟩ := (hT.below hb).at hlt
   cases hao
   have HV := hid (endF_succ h k hlt)
   have HS := hid (sesOk_at hlt)
   have HNO := hid (fun hh => sesB_no hlt hh)
   have hOps := (hT.ops hlt)
   have htok := (HOK.out h[k] (List.getElem_mem hlt)).1
   generalize h[k] = t at *
   obtain ⟨s, b, c, v, l⟩ := t
   simp only at c0 c1 c2 c3 hOps htok
   have hkey := inI_of htok.1
   obtain ⟨ai, capi, rfl, hli⟩ := hOps.form
   have hM1 := hM.alloc (.cells #[.int .i64 s, .int .i64 b, .int .i64 c, .slice ai l.length capi] 83)
   have hbb := hb.alloc hb.size (.cells #[.int .i64 s, .int .i64 b, .int .i64 c, .slice ai l.length capi] 83)
   have hsz := hb.size
   clear hOps htok hM hb
   cases hv : endF (h.take k) s with
   | none =>
    have H : Hid (sesOk h k = true) := hid (by rw [HS.out]; simp only; rw [hv])
    clear HNO HS
    go_wp2_with (first | (at_lookup; refine wpList_lookI_ok _ rfl _ _ 32 rfl 3 3 keyI mapII 0 (zeroI _) _ _ _ _ rfl hM1 _ rfl hkey ?_; rw [hv]) | (at_mapUpdate; refine wpList_putI _ rfl _ _ _ 32 rfl 3 3 keyI mapII _ _ _ _ rfl hM1 (by unfold maxLen; omega) _ rfl hkey c rfl ?_; intro w1 hM2 hg; go_frame) | go_in)
    have hb2 := hbb.grown hg hbb.size (fun j hj => by cases hj; omega)
    go_wp2_with fail
    go_roundw
    case rel => exact ⟨k + 1, _, by omega, by go_num, all_snoc HST.out H.out, by rw [HV.out]; exact hM2, hb2⟩
    case measure => simp [intOf]; omega
   | some e =>
    have HSP : Hid (sesOk h k = decide (e < b)) := hid (by rw [HS.out]; simp only; rw [hv])
    clear HS
    by_cases hvv : e < b
    ·have H : Hid (sesOk h k = true) := hid (by rw [HSP.out]; simp [hvv])
     have hne : ¬ b ≤ e := by omega
     clear HNO HSP hvv
     go_wp2_with (first | (at_lookup; refine wpList_lookI_ok _ rfl _ _ 32 rfl 3 3 keyI mapII 0 (zeroI _) _ _ _ _ rfl hM1 _ rfl hkey ?_; rw [hv]; simp only [Option.getD_some, Option.isSome_some, eI]) | (at_mapUpdate; refine wpList_putI _ rfl _ _ _ 32 rfl 3 3 keyI mapII _ _ _ _ rfl hM1 (by unfold maxLen; omega) _ rfl hkey c rfl ?_; intro w1 hM2 hg; go_frame) | go_in)
     have hb2 := hbb.grown hg hbb.size (fun j hj => by cases hj; omega)
     go_wp2_with fail
     go_roundw
     case rel => exact ⟨k + 1, _, by omega, by go_num, all_snoc HST.out H.out, by rw [HV.out]; exact hM2, hb2⟩
     case measure => simp [intOf]; omega
    ·have H : Hid (sesB h = false) := hid (HNO.out (by rw [HSP.out]; simpa using hvv))
     have hne : b ≤ e := by omega
     clear HNO HSP hvv
     go_wp2_with (first | (at_lookup; refine wpList_lookI_ok _ rfl _ _ 32 rfl 3 3 keyI mapII 0 (zeroI _) _ _ _ _ rfl hM1 _ rfl hkey ?_; rw [hv]; simp only [Option.getD_some, Option.isSome_some, eI]) | go_in)
     go_ret
     exact ⟨ret_b H.out.symm, hbb⟩
  ·have hkl : k = h.length := by omega
   have H : Hid (sesB h = true) := hid (sesB_all (by rw [← hkl]; exact HST.out))
   go_wp2_with fail
   go_ret
   exact ⟨ret_b H.out.symm, hb⟩
end

section
open Go.RowKit
structure WV where
 i : Int
 key : Int
 last : Bool
def eW (x : WV) : Value := .agg #[.int .i64 x.i, .int .i64 x.key, .bool x.last]
def wZ : WV := ⟨0, 0, false⟩
def addOne (i : Int) (F : Int → Option WV) (o : OpV) : Int → Option WV := if o.wr then putF F o.val ⟨i, o.key, false⟩ else F
def addF (i : Int) (F : Int → Option WV) (l : List OpV) : Int → Option WV := l.foldl (addOne i) F
def finF (i : Int) (F : Int → Option WV) (l : List OpV) : Int → Option WV := l.foldl (fun F o => putF F o.val ⟨i, o.key, true⟩) F
theorem addF_snoc (i : Int) (F : Int → Option WV) (l : List OpV) (o : OpV) : addF i F (l ++ [o]) = addOne i (addF i F l) o := by unfold addF; rw [List.foldl_append]; rfl
theorem finF_snoc (i : Int) (F : Int → Option WV) (l : List OpV) (o : OpV) : finF i F (l ++ [o]) = putF (finF i F l) o.val ⟨i, o.key, true⟩ := by unfold finF; rw [List.foldl_append]; rfl
def opsAt (h : List TxnV) (k : Nat) : List OpV := ((h[k]?).map (·.l)).getD []
theorem opsAt_eq {h : List TxnV} {k : Nat} (hk : k < h.length) : opsAt h k = h[k].l := by unfold opsAt; rw [List.getElem?_eq_getElem hk]; rfl
def wrTo (h : List TxnV) (k : Nat) : Int → Option WV := (List.range k).foldl (fun F (j : Nat) => finF (j : Int) (addF (j : Int) F (opsAt h j)) (refWrites (opsAt h j))) fun _ => none
theorem wrTo_succ (h : List TxnV) (k : Nat) : wrTo h (k + 1) = finF k (addF k (wrTo h k) (opsAt h k)) (refWrites (opsAt h k)) := by
 unfold wrTo; rw [List.range_succ, List.foldl_append]; rfl
def wv (l : List OpV) : List Int := (l.filter (·.wr)).map (·.val)
def wvH (h : List TxnV) : List Int := h.flatMap fun t => wv t.l
theorem wv_snoc (l : List OpV) (o : OpV) : wv (l ++ [o]) = wv l ++ (if o.wr then [o.val] else []) := by
 unfold wv; rw [List.filter_append, List.map_append]
 cases h : o.wr <;> simp [h]
theorem wvH_succ (h : List TxnV) (k : Nat) (hk : k < h.length) : wvH (h.take (k + 1)) = wvH (h.take k) ++ wv h[k].l := by
 unfold wvH; rw [List.take_succ_eq_append_getElem hk, List.flatMap_append]; simp
def okW (h : List TxnV) : Bool := decide (wvH h).Nodup
theorem okW_no {h : List TxnV} {k j : Nat} (hk : k < h.length) (hn : ¬ (wvH (h.take k) ++ wv (h[k].l.take j)).Nodup) : okW h = false := by
 unfold okW
 rw [decide_eq_false_iff_not]
 intro hd
 apply hn
 have e1 : wvH h = wvH (h.take (k + 1)) ++ wvH (h.drop (k + 1)) := by unfold wvH; rw [← List.flatMap_append, List.take_append_drop]
 have e2 : wv h[k].l = wv (h[k].l.take j) ++ wv (h[k].l.drop j) := by unfold wv; rw [← List.map_append, ← List.filter_append, List.take_append_drop]
 rw [e1, wvH_succ h k hk, e2, ← List.append_assoc] at hd
 exact (List.nodup_append.1 (List.nodup_append.1 hd).1).1
def Dom (F : Int → Option WV) (W : List Int) : Prop := ∀ x, (F x).isSome = decide (x ∈ W)
theorem Dom.put {F : Int → Option WV} {W : List Int} (h : Dom F W) (x : Int) (u : WV) : Dom (putF F x u) (W ++ [x]) := by
 intro y
 unfold putF
 by_cases e : y = x
 ·simp [e]
 ·rw [if_neg e, h y]; simp [e]
theorem Dom.again {F : Int → Option WV} {W : List Int} (h : Dom F W) {x : Int} (hx : x ∈ W) (u : WV) : Dom (putF F x u) W := by
 intro y
 unfold putF
 by_cases e : y = x
 ·simp [e, hx]
 ·rw [if_neg e, h y]
theorem Dom.not {F : Int → Option WV} {W : List Int} (h : Dom F W) {x : Int} (hx : F x = none) : ¬ x ∈ W := by
 have := h x; rw [hx] at this; simpa using this.symm
theorem Dom.yes {F : Int → Option WV} {W : List Int} (h : Dom F W) {x : Int} {u : WV} (hx : F x = some u) : x ∈ W := by
 have := h x; rw [hx] at this; simpa using this.symm
theorem nodup_snoc {L : List Int} {x : Int} (h : L.Nodup) (hx : ¬ x ∈ L) : (L ++ [x]).Nodup := by
 rw [List.nodup_append]
 exact ⟨h, by simp, by intro a ha b hb; simp at hb; subst hb; rintro rfl; exact hx ha⟩
theorem not_nodup_snoc {L : List Int} {x : Int} (hx : x ∈ L) : ¬ (L ++ [x]).Nodup := fun hd => (List.nodup_append.1 hd).2.2 x hx x (by simp) rfl
theorem wv_mem {l : List OpV} {x : Int} : x ∈ wv l ↔ ∃ o ∈ l, o.wr = true ∧ o.val = x := by
 unfold wv; simp [and_assoc]
theorem rise_wv {l out : List OpV} (h : Rise (lastW l) true out) : ∀ o ∈ out, o.val ∈ wv l := by
 intro o ho
 obtain ⟨h1, h2⟩ := (h.2 o).1 ho
 exact wv_mem.2 ⟨o, (lastW_key h1).2.2, h2, rfl⟩
theorem wv_len (l : List OpV) : (wv l).length ≤ l.length := by unfold wv; rw [List.length_map]; exact List.length_filter_le _ _
end

section
open Go.RowKit
theorem mapIW : Tryz.prog.underlying 102 = some (.map 3 165) := Tryz.underlying102
theorem zeroW (w : World) : (zeroValue 165).run Tryz.prog w = .ok (eW wZ) w := by kernel_rfl
def At (w : World) (p : Nat) (o : Obj) : Prop := w.heap[p]? = some o
theorem At.lt {w : World} {p : Nat} {o : Obj} (h : At w p o) : p < w.heap.size := (Array.getElem?_eq_some_iff.1 h).1
theorem At.new (w : World) (o : Obj) : At (w.alloc o) w.heap.size o := heap_alloc_new w o
theorem At.grown {w w' : World} {p : Nat} {o : Obj} {row : Option Nat} (h : At w p o) (hg : w.grownBy w' row) (hne : some p ≠ row) : At w' p o := (hg.block p h.lt hne).trans h
theorem At.alloc {w : World} {p : Nat} {o : Obj} (h : At w p o) (o' : Obj) : At (w.alloc o') p o := h.grown (World.grownBy_alloc w o' none) (by simp)
theorem At.below {w w' : World} {p : Nat} {o : Obj} (h : At w p o) (hb : Below w.heap.size w w') : At w' p o := (hb.block p h.lt).trans h
theorem At.cells4 {w : World} {p : Nat} {x y z u : Value} {t : TypeId} (h : At w p (.cells #[x, y, z, u] t)) : w.cell? ⟨p, 0, none⟩ = some x ∧ w.cell? ⟨p, 1, none⟩ = some y ∧ w.cell? ⟨p, 2, none⟩ = some z ∧ w.cell? ⟨p, 3, none⟩ = some u := by
 refine ⟨?_, ?_, ?_, ?_⟩ <;> (unfold At at h; simp [World.cell?, h])
def WrPost (w : World) (h : List TxnV) (e : Ending) (w' : World) : Prop :=
 Below w.heap.size w w' ∧ ((okW h = false ∧ e = .returned (.tuple #[.map none, .bool false])) ∨
  (okW h = true ∧ ∃ b n, e = .returned (.tuple #[.map (some b), .bool true]) ∧ w.heap.size ≤ b ∧ MapI eW Tryz.prog 3 w' b n (wrTo h h.length) (wvH h).length))
theorem hwrites_any (va : Value) (h : List TxnV) (w : World) (hT : Txns w va h) (hok : ∀ t ∈ h, t.ok) (hks : ∀ t ∈ h, keysIn t.l) (hn : opsN h ≤ 100000) (hlen : h.length ≤ 100000) :
  Calls Tryz.prog 52 #[va] w (WrPost w h) := by
 obtain ⟨ao, cap, rfl, hal⟩ := hT.form
 have HOK := hid hok
 have HKS := hid hks
 clear hok hks
 have hm0 := MapI.made eW Tryz.prog 3 w
 have hb1 := (Below.refl w.heap.size w).alloc (Nat.le_refl _) (.map #[] 0)
 have hmm := @run_makeMap Tryz.prog
 go_enter Tryz.func52, Tryz.ntmps52
 go_wp2_with fail
 go_loopw [16] (fun i wr => ∃ k n : Nat, k ≤ h.length ∧ i = .int .i64 k ∧ n ≤ 2 * opsN (h.take k) ∧ (wvH (h.take k)).Nodup ∧ Dom (wrTo h k) (wvH (h.take k)) ∧ MapI eW Tryz.prog 3 wr w.heap.size n (wrTo h k) (wvH (h.take k)).length ∧ Below w.heap.size w wr) (fun i _ => h.length - (intOf i).toNat)
 case atStart => exact ⟨0, 0, by omega, rfl, by omega, by simp [wvH], fun x => by simp [wrTo, wvH], hm0, hb1⟩
 case round =>
  obtain ⟨k, n, hk, rfl, hnn, hN, hD, hM, hb⟩ := hrel
  have HND := hid hN
  have HD := hid hD
  clear hN hD hm0 hb1
  by_cases hlt : k < h.length
  ·have hki : (k : Int) < (h.length : Int) := by omega
   obtain ⟨g, o, hao, c0, c1, c2, c3⟩ := (hT.below hb).at hlt
   cases hao
   have HW := hid (wvH_succ h k hlt)
   have HR : Hid (wrTo h (k + 1) = finF (k : Int) (addF (k : Int) (wrTo h k) h[k].l) (refWrites h[k].l)) := hid (by rw [wrTo_succ, opsAt_eq hlt])
   have HNO := hid (fun j hh => okW_no (j := j) hlt hh)
   have hOps := fun wx (hx : Below w.heap.size w wx) => (hT.ops hlt).below hx
   have HTK := hid (HOK.out h[k] (List.getElem_mem hlt))
   have HKK := hid (HKS.out h[k] (List.getElem_mem hlt))
   have hon := opsN_take h k hlt
   have hol := opsN_le h (k + 1)
   generalize h[k] = t at *
   obtain ⟨s, b, c, v, l⟩ := t
   simp only at c0 c1 c2 c3 HW HR HNO hOps HTK HKK hon
   obtain ⟨ai, capi, rfl, hli⟩ := (hOps w (Below.refl _ _)).form
   have HOP := hid hOps
   have hpl := hM.lt
   have hM1 := hM.alloc (.cells #[.int .i64 s, .int .i64 b, .int .i64 c, .slice ai l.length capi] 83)
   have hbb := hb.alloc hb.size (.cells #[.int .i64 s, .int .i64 b, .int .i64 c, .slice ai l.length capi] 83)
   have hsz := hb.size
   have hx := txnBlock wr (.int .i64 s) (.int .i64 b) (.int .i64 c) (.slice ai l.length capi) 83
   have hltx : wr.heap.size < (wr.alloc (.cells #[.int .i64 s, .int .i64 b, .int .i64 c, .slice ai l.length capi] 83)).heap.size := by simp
   clear hOps hM hb
   generalize wvH (h.take k) = W at *
   generalize wrTo h k = F at *
   go_wp2_with fail
   have hA0 := At.new wr (.cells #[.int .i64 s, .int .i64 b, .int .i64 c, .slice ai l.length capi] 83)
   generalize wr.alloc (.cells #[.int .i64 s, .int .i64 b, .int .i64 c, .slice ai l.length capi] 83) = w1 at *
   generalize hpp : wr.heap.size = p at *
   have hA1 : At w1 p (.cells #[.int .i64 s, .int .i64 b, .int .i64 c, .slice ai l.length capi] 83) := hA0
   clear hA0 c0 c1 c2 c3 hx hsz
   go_loopw [24] (fun i wx => ∃ j m : Nat, j ≤ l.length ∧ i = .int .i64 j ∧ m ≤ 2 * opsN (h.take k) + j ∧ (W ++ wv (l.take j)).Nodup ∧ Dom (addF (k : Int) F (l.take j)) (W ++ wv (l.take j)) ∧ MapI eW Tryz.prog 3 wx w.heap.size m (addF (k : Int) F (l.take j)) (W ++ wv (l.take j)).length ∧ At wx p (.cells #[.int .i64 s, .int .i64 b, .int .i64 c, .slice ai l.length capi] 83) ∧ Below w.heap.size w wx) (fun i _ => l.length - (intOf i).toNat)
   case atStart => exact ⟨0, n, by omega, rfl, by omega, by simpa [wv] using HND.out, by simpa [wv, addF] using HD.out, by simpa [wv, addF] using hM1, hA1, hbb⟩
   case round =>
    obtain ⟨j, m, hj, rfl, hmm2, hN2, hD2, hM2, hA2, hb2⟩ := hrel
    have HN2 := hid hN2
    have HD2 := hid hD2
    clear hN2 hD2 hM1 hA1 hbb
    by_cases hltj : j < l.length
    ·have hkj : (j : Int) < (l.length : Int) := by omega
     obtain ⟨g2, o2, hao2, e0, e1, e2⟩ := (HOP.out _ hb2).at hltj
     cases hao2
     have HWJ : Hid (wv (l.take (j + 1)) = wv (l.take j) ++ (if l[j].wr then [l[j].val] else [])) := hid (by rw [take_snoc l j hltj, wv_snoc])
     have HFJ : Hid (addF (k : Int) F (l.take (j + 1)) = addOne (k : Int) (addF (k : Int) F (l.take j)) l[j]) := hid (by rw [take_snoc l j hltj, addF_snoc])
     have hox := HTK.out.2 l[j] (List.getElem_mem hltj)
     generalize l[j] = x at *
     obtain ⟨xw, xk, xv⟩ := x
     simp only at e0 e1 e2 HWJ HFJ
     have hkv := inI_of hox.2
     have hM3 := hM2.alloc (.cells #[.bool xw, .int .i64 xk, .int .i64 xv] 79)
     have hA3 := hA2.alloc (.cells #[.bool xw, .int .i64 xk, .int .i64 xv] 79)
     have hb3 := hb2.alloc hb2.size (.cells #[.bool xw, .int .i64 xk, .int .i64 xv] 79)
     have hszj := hb2.size
     clear hox hM2 hA2 hb2
     cases xw with
     | false =>
      simp only [Bool.false_eq_true, if_false, List.append_nil] at HWJ
      have HFJ2 : Hid (addF (k : Int) F (l.take (j + 1)) = addF (k : Int) F (l.take j)) := hid (by rw [HFJ.out]; rfl)
      clear HFJ
      go_wp2_with fail
      go_roundw
      case rel => exact ⟨j + 1, m, by omega, by go_num, by omega, by rw [HWJ.out]; exact HN2.out, by rw [HWJ.out, HFJ2.out]; exact HD2.out, by rw [HWJ.out, HFJ2.out]; exact hM3, hA3, hb3⟩
      case measure => simp [intOf]; omega
     | true =>
      simp only [if_true] at HWJ
      have HFJ2 : Hid (addF (k : Int) F (l.take (j + 1)) = putF (addF (k : Int) F (l.take j)) xv ⟨k, xk, false⟩) := hid (by rw [HFJ.out]; rfl)
      have HNJ : Hid (xv ∈ W ++ wv (l.take j) → okW h = false) := hid (fun hin => HNO.out (j + 1) (by rw [HWJ.out, ← List.append_assoc]; exact not_nodup_snoc hin))
      clear HFJ
      generalize addF (k : Int) F (l.take j) = F1 at *
      cases hv : F1 xv with
      | none =>
       have HX := hid (HD2.out.not hv)
       have hM4 := hM3.alloc (.cells #[.int .i64 0, .int .i64 0, .bool false] 165)
       have hA4 := hA3.alloc (.cells #[.int .i64 0, .int .i64 0, .bool false] 165)
       have hb4 := hb3.alloc hb3.size (.cells #[.int .i64 0, .int .i64 0, .bool false] 165)
       clear HNJ
       go_wp2_with (first | (at_lookup; refine wpList_lookI_ok _ rfl _ _ 102 rfl 3 165 keyI mapIW wZ (zeroW _) _ _ _ _ rfl hM3 _ rfl hkv ?_; rw [hv]; simp only [Option.getD_none, Option.isSome_none, eW, wZ]) | (at_mapUpdate; refine wpList_putI _ rfl _ _ _ 102 rfl 3 165 keyI mapIW _ _ _ _ rfl hM4 (by unfold maxLen; omega) _ rfl hkv ⟨k, xk, false⟩ rfl ?_; intro w5 hM5 hg5; go_frame) | go_in)
       have hb5 := hb4.grown hg5 hb4.size (fun j hj => by cases hj; omega)
       have hA5 := hA4.grown hg5 (fun e => by cases e; omega)
       rw [hv] at hM5
       simp only [Option.isSome_none, Bool.false_eq_true, if_false] at hM5
       clear hM4 hA4 hb4 hg5 hM3 hA3 hb3
       go_wp2_with fail
       go_roundw
       case rel => exact ⟨j + 1, m + 1, by omega, by go_num, by omega, by rw [HWJ.out, ← List.append_assoc]; exact nodup_snoc HN2.out HX.out, by rw [HWJ.out, HFJ2.out, ← List.append_assoc]; exact HD2.out.put _ _, by rw [HWJ.out, HFJ2.out, ← List.append_assoc]; simpa [Nat.add_assoc] using hM5, hA5, hb5⟩
       case measure => simp [intOf]; omega
      | some u =>
       have H := hid (HNJ.out (HD2.out.yes hv))
       obtain ⟨ui, uk, ul⟩ := u
       have hb4 := hb3.alloc hb3.size (.cells #[.int .i64 ui, .int .i64 uk, .bool ul] 165)
       clear HNJ
       go_wp2_with (first | (at_lookup; refine wpList_lookI_ok _ rfl _ _ 102 rfl 3 165 keyI mapIW wZ (zeroW _) _ _ _ _ rfl hM3 _ rfl hkv ?_; rw [hv]; simp only [Option.getD_some, Option.isSome_some, eW]) | go_in)
       refine bodyPost_ret (v := .tuple #[.map none, .bool false]) (by simp [results, Tryz.results52, go_sem]) rfl ⟨hb4, .inl ⟨H.out, rfl⟩⟩
    ·have hj2 : j = l.length := by omega
     subst hj2
     rw [List.take_length] at hM2 HN2 HD2
     obtain ⟨q0, q1, q2, q3⟩ := hA2.cells4
     have CW := hid (writes_any s b c _ l wr (HOP.out _ hb2) HTK.out.2 (by omega))
     have hRR := hid (refWrites_rise HKK.out)
     clear HNO
     go_wp2_with fail
     refine (CW.out).mono ?_
     rintro e w6 ⟨v2, out, rfl, hO, hRise, hle2, hb6⟩
     obtain rfl := hRise.eq hRR.out
     have hM6 := hM2.below hb6
     have hb7 := below_then hb2 hb6
     have hO7 := hO.base (base' := 0) (Nat.zero_le _)
     have HWV := hid (rise_wv hRise)
     have HTO := hid (fun o (ho : o ∈ refWrites l) => HTK.out.2 o (lastW_key (((hRise.2 o).1 ho).1)).2.2)
     have hspl := hO.split
     have hwl := hM2.lt
     obtain ⟨ao2, cap2, rfl, hl2⟩ := hO7.ops.form
     have HNE : Hid (∀ g o q, ao2 = some (⟨g, o, q⟩ : Addr) → Value.ownBlock (.slice (some ⟨g, o, q⟩) (refWrites l).length cap2) ≠ some w.heap.size) := hid (fun g o q e hh => by
      rcases hspl with ⟨e1, _⟩ | ⟨g3, cap3, e1, hg3⟩
      ·rw [e] at e1; simp at e1
      ·rw [e] at e1; simp [Value.ownBlock] at e1 hh; omega)
     clear hO hRise hRR CW hM2 hA2 hb2 hb6 q0 q1 q2 q3
     generalize refWrites l = R at *
     generalize addF (k : Int) F l = F1 at *
     generalize hWW : W ++ wv l = W1 at *
     have HWW := hid hWW
     clear hWW
     go_wp2_with fail
     go_loopw [50] (fun i wx => ∃ j m2 : Nat, j ≤ R.length ∧ i = .int .i64 j ∧ m2 ≤ 2 * opsN (h.take k) + l.length + j ∧ Dom (finF (k : Int) F1 (R.take j)) W1 ∧ MapI eW Tryz.prog 3 wx w.heap.size m2 (finF (k : Int) F1 (R.take j)) W1.length ∧ Own wx 0 (.slice ao2 R.length cap2) R ∧ Below w.heap.size w wx) (fun i _ => R.length - (intOf i).toNat)
     case atStart => exact ⟨0, m, by omega, rfl, by omega, HD2.out, hM6, hO7, hb7⟩
     case round =>
      obtain ⟨j, m2, hj2, rfl, hmm3, hD3, hM8, hO8, hb8⟩ := hrel
      have HD3 := hid hD3
      clear hD3 hM6 hO7 hb7
      by_cases hltj : j < R.length
      ·have hkj : (j : Int) < (R.length : Int) := by omega
       obtain ⟨g2, o2, hao2, e0, e1, e2⟩ := hO8.ops.at hltj
       cases hao2
       have HFJ : Hid (finF (k : Int) F1 (R.take (j + 1)) = putF (finF (k : Int) F1 (R.take j)) R[j].val ⟨k, R[j].key, true⟩) := hid (by rw [take_snoc R j hltj, finF_snoc])
       have hox := HTO.out R[j] (List.getElem_mem hltj)
       have hin := HWV.out R[j] (List.getElem_mem hltj)
       generalize R[j] = x at *
       obtain ⟨xw, xk, xv⟩ := x
       simp only at e0 e1 e2 HFJ hin
       have hkv := inI_of hox.2
       have hinW : Hid (xv ∈ W1) := hid (by rw [← HWW.out]; exact List.mem_append_right _ hin)
       have hM9 := hM8.alloc (.cells #[.bool xw, .int .i64 xk, .int .i64 xv] 79)
       have hO9 : Own _ _ _ _ := World.ownsRow.alloc hO8 (.cells #[.bool xw, .int .i64 xk, .int .i64 xv] 79)
       have hb9 := hb8.alloc hb8.size (.cells #[.bool xw, .int .i64 xk, .int .i64 xv] 79)
       have hszj := hb8.size
       have hne9 : Value.ownBlock (.slice (some ⟨g2, o2, none⟩) R.length cap2) ≠ some w.heap.size := HNE.out _ _ _ rfl
       clear hox hin hM8 hO8 hb8
       generalize finF (k : Int) F1 (R.take j) = F2 at *
       go_wp2_with (first | (at_mapUpdate; refine wpList_putI _ rfl _ _ _ 102 rfl 3 165 keyI mapIW _ _ _ _ rfl hM9 (by unfold maxLen; omega) _ rfl hkv ⟨k, xk, true⟩ rfl ?_; intro w5 hM5 hg5; go_frame) | go_in)
       have hb5 := hb9.grown hg5 hb9.size (fun j hj => by cases hj; omega)
       have hO5 : Own w5 0 (.slice (some ⟨g2, o2, none⟩) R.length cap2) R := World.ownsRow.kept hO9 hg5 (.inr hne9)
       have hsome : (F2 xv).isSome = true := by rw [HD3.out xv]; simpa using hinW.out
       rw [hsome] at hM5
       simp only [if_true] at hM5
       clear hM9 hO9 hb9 hg5 hsome
       go_wp2_with fail
       go_roundw
       case rel => exact ⟨j + 1, m2 + 1, by omega, by go_num, by omega, by rw [HFJ.out]; exact HD3.out.again hinW.out _, by rw [HFJ.out]; exact hM5, hO5, hb5⟩
       case measure => simp [intOf]; omega
      ·have hj3 : j = R.length := by omega
       subst hj3
       rw [List.take_length] at hM8 HD3
       have HW1 : Hid (wvH (h.take (k + 1)) = W1) := hid HW.out
       go_wp2_with fail
       go_roundw
       case rel => exact ⟨k + 1, m2, by omega, by go_num, by omega, by rw [HW1.out]; exact HN2.out, by rw [HW1.out, HR.out]; exact HD3.out, by rw [HW1.out, HR.out]; exact hM8, hb8⟩
       case measure => simp [intOf]; omega
  ·have hkl : k = h.length := by omega
   subst hkl
   have H : Hid (okW h = true) := hid (by have := HND.out; rw [List.take_length] at this; unfold okW; simpa using this)
   rw [List.take_length] at hM
   go_wp2_with fail
   refine bodyPost_ret (v := .tuple #[.map (some w.heap.size), .bool true]) (by simp [results, Tryz.results52, go_sem]) rfl ⟨hb, .inr ⟨H.out, _, _, rfl, Nat.le_refl _, hM⟩⟩
end

section
open Go.RowKit
def prsRow (S : Nat → Nat → Bool) (a : Nat) (R : Mat) : Nat → Mat
 | 0 => R
 | b + 1 => if S a b then addM (prsRow S a R b) a b else prsRow S a R b
def prsTo (S : Nat → Nat → Bool) (n : Nat) : Nat → Mat
 | 0 => noR
 | a + 1 => prsRow S a (prsTo S n a) n
theorem prsRow_hit {S : Nat → Nat → Bool} {a b : Nat} (R : Mat) (h : S a b = true) : prsRow S a R (b + 1) = addM (prsRow S a R b) a b := if_pos h
theorem prsRow_miss {S : Nat → Nat → Bool} {a b : Nat} (R : Mat) (h : S a b = false) : prsRow S a R (b + 1) = prsRow S a R b := if_neg (by simp [h])
theorem results_rel1 {fn : Func} {p : Tmp} (h : fn.results = #[.cell p 108]) (tmps : Array Value) (w : World) (g : Nat) (R : Mat)
  (hp : tmps.getD p undef = .pointer (some ⟨g, 0, none⟩)) (hg : RelAt w g 108 R) : (results fn tmps).run Tryz.prog w = .ok (.agg (rowsA R)) w := by
 have hp' : tmps[p]?.getD undef = .pointer (some ⟨g, 0, none⟩) := by simpa using hp
 simp [results, h, hp', asAddr, run_loadVar_row w g _ 108 (rowsA R) _ _ hg Tryz.underlying108 rfl (infoRel' _)]
theorem pairs_any (S : Nat → Nat → Bool) (n : Nat) (hn : n ≤ 100) (f : FuncId) (cap : Array Value) (w : World) (hcf : ∀ (args : Array Value) (wx : World), Sem.run Tryz.prog (callFunc f args) wx = .ok (.enter f args) wx)
  (HF : ∀ (a b : Nat) (wx : World), a < n → b < n → Below w.heap.size w wx → Calls Tryz.prog f (#[.int .i64 a, .int .i64 b] ++ cap) wx fun e w' => e = .returned (.bool (S a b)) ∧ Below wx.heap.size wx w') :
  Calls Tryz.prog 57 #[.int .i64 n, .func (.func f) #[] cap] w fun e w' => e = .returned (.agg (rowsA (prsTo S n n))) ∧ Below w.heap.size w w' := by
 have HF' := hid HF
 clear HF
 go_enter Tryz.func57, Tryz.ntmps57
 go_wp2
 go_loopw [9] (fun i wr => ∃ k : Nat, k ≤ n ∧ i = .int .i64 k ∧ RelAt wr (w.heap.size + 1) 108 (prsTo S n k) ∧ RelAt wr w.heap.size 108 noR ∧ Below w.heap.size w wr)
  (fun i _ => n - (intOf i).toNat)
 case atStart =>
  refine ⟨0, by omega, rfl, ?_, ?_, ?_⟩
  ·exact RelAt.made _ _ noR (by simp) (by rw [rowsA_none]; rfl)
  ·exact (RelAt.made w _ noR rfl (by rw [rowsA_none]; rfl)).alloc _
  ·exact ((Below.refl w.heap.size w).alloc (Nat.le_refl _) _).alloc (by simp) _
 case round =>
  obtain ⟨k, hk, rfl, h1, h0, hb⟩ := hrel
  by_cases hlt : k < n
  ·have hki : (k : Int) < (n : Int) := by omega
   have HN : Hid (prsTo S n (k + 1) = prsRow S k (prsTo S n k) n) := hid rfl
   generalize prsTo S n k = R at *
   go_wp2_with fail
   go_loopw [13] (fun i wx => ∃ j : Nat, j ≤ n ∧ i = .int .i64 j ∧ RelAt wx (w.heap.size + 1) 108 (prsRow S k R j) ∧ RelAt wx w.heap.size 108 noR ∧ Below w.heap.size w wx)
    (fun i _ => n - (intOf i).toNat)
   case atStart => exact ⟨0, by omega, rfl, h1, h0, hb⟩
   case round =>
    clear h1 h0 hb
    obtain ⟨j, hj, rfl, h1, h0, hb⟩ := hrel
    by_cases hltj : j < n
    ·have hkj : (j : Int) < (n : Int) := by omega
     have CF := hid (HF'.out k j wr hlt hltj hb)
     cases hs : S k j
     ·rw [hs] at CF
      have HM := hid (prsRow_miss R hs)
      clear hs
      go_wp2_with fail
      refine (CF.out).mono ?_
      rintro e w6 ⟨rfl, hb6⟩
      have h16 := h1.below hb6 h1.lt
      have h06 := h0.below hb6 h0.lt
      have hbb := hb.trans (hb6.mono hb.size)
      clear h1 h0 hb hb6 CF
      go_wp2_with fail
      go_roundw
      case rel => exact ⟨j + 1, by omega, by go_num, by rw [HM.out]; exact h16, h06, hbb⟩
      case measure => simp [intOf]; omega
     ·rw [hs] at CF
      have HM := hid (prsRow_hit R hs)
      clear hs
      go_wp2_with fail
      refine (CF.out).mono ?_
      rintro e w6 ⟨rfl, hb6⟩
      have h16 := h1.below hb6 h1.lt
      have h06 := h0.below hb6 h0.lt
      have hbb := hb.trans (hb6.mono hb.size)
      have CA := hid (add_any _ _ (k : Int) (j : Int) _ h16)
      clear h1 h0 hb hb6 CF h16
      go_wp2_with fail
      refine (CA.out).mono ?_
      rintro e w7 ⟨rfl, h17, hg7⟩
      have h07 : RelAt w7 w.heap.size 108 noR := by
       have := hg7.block w.heap.size h06.lt (by simp)
       unfold RelAt at *
       rw [this]
       exact h06
      have hb7 : Below w.heap.size w w7 := hbb.grown hg7 hbb.size (by simp)
      clear CA h06 hbb hg7
      go_wp2_with fail
      go_roundw
      case rel => exact ⟨j + 1, by omega, by go_num, by rw [HM.out]; exact h17, h07, hb7⟩
      case measure => simp [intOf]; omega
    ·have hjn : j = n := by omega
     subst hjn
     go_wp2_with fail
     go_roundw
     case rel => exact ⟨k + 1, by omega, by go_num, by rw [HN.out]; exact h1, h0, hb⟩
     case measure => simp [intOf]; omega
  ·have hkn : k = n := by omega
   subst hkn
   go_wp2_with (first
    | (with_reducible refine wpList_load_rel h1 rfl _ rfl rfl ?_)
    | (with_reducible refine wpList_store_rel h0 (prsTo S k k) rfl _ _ rfl rfl rfl ?_))
   have h3 := h0.setRow (prsTo S k k)
   exact bodyPost_ret (results_rel1 rfl _ _ _ _ rfl h3) rfl ⟨rfl, below_setRow hb (by omega) _⟩
end

section
open Go.RowKit
theorem zero_block (w : World) : RelAt (w.alloc (.cells #[.int .u64 0, .int .u64 0, .int .u64 0, .int .u64 0, .int .u64 0, .int .u64 0, .int .u64 0, .int .u64 0, .int .u64 0, .int .u64 0, .int .u64 0, .int .u64 0, .int .u64 0, .int .u64 0, .int .u64 0, .int .u64 0, .int .u64 0, .int .u64 0, .int .u64 0, .int .u64 0, .int .u64 0, .int .u64 0, .int .u64 0, .int .u64 0, .int .u64 0, .int .u64 0, .int .u64 0, .int .u64 0, .int .u64 0, .int .u64 0, .int .u64 0, .int .u64 0, .int .u64 0, .int .u64 0, .int .u64 0, .int .u64 0, .int .u64 0, .int .u64 0, .int .u64 0, .int .u64 0, .int .u64 0, .int .u64 0, .int .u64 0, .int .u64 0, .int .u64 0, .int .u64 0, .int .u64 0, .int .u64 0, .int .u64 0, .int .u64 0, .int .u64 0, .int .u64 0, .int .u64 0, .int .u64 0, .int .u64 0, .int .u64 0, .int .u64 0, .int .u64 0, .int .u64 0, .int .u64 0, .int .u64 0, .int .u64 0, .int .u64 0, .int .u64 0] 108)) w.heap.size 108 noR :=
 RelAt.made w _ noR rfl (by rw [rowsA_none]; rfl)
end

section
open Go.RowKit
def Lists (w : World) (v : Value) (LL : List (List Int)) : Prop := ∃ sv : List Value, Row w v LL.length 1 sv ∧ ∀ (k : Nat) (hk : k < LL.length), ∃ u, sv[k]? = some u ∧ Ints w u LL[k]
end

section
open Go.ChangeShapes Go.WideShapes Go.ChangeAt Go.RowKit Go.Deep
theorem cellsIntW : Tryz.prog.cellsOf 3 = 1 := by kernel_rfl
theorem ints_of_cells {H : Type} {enc : TypeId × Value → H} {W : World} {v : Value} {fuel : Nat} {x : DataW H × List MemPlace}
  (hf : DataW.trod enc Tryz.prog W 0 (fun _ => true) true fuel 24 [v] = some x) : ∃ xs, Ints W v xs := by
 rcases open_ints Tryz.underlying24 Tryz.underlying3 cellsIntW hf with ⟨hcs, hx⟩ | ⟨a, len, cap, zs, hcs, _, hl, hm, hz, hx, hcell, hwz⟩
 ·obtain rfl : v = .slice none 0 0 := by simpa using hcs
  exact ⟨[], rfl, none, 0, rfl, by simp, (fun _ => ⟨rfl, rfl⟩), (fun h => by simp at h)⟩
 ·obtain rfl : v = .slice (some a) len cap := by simpa using hcs
  simp only [if_true] at hz
  have hlen : (zs.take len).length = len := by simp; omega
  refine ⟨zs.take len, by simp, some a, cap, by rw [hlen], by rw [hlen]; omega, (fun h => by cases h), (fun hn => ?_)⟩
  obtain ⟨b, off, spot⟩ := a
  have hspot : spot = none := by simpa [Addr.add] using World.cell?_spot (hcell 0 (by omega))
  subst hspot
  refine ⟨b, off, rfl, fun i hi => ?_⟩
  have hi' : i < len := by omega
  have := hcell i (by omega)
  rw [Addr.add_lit] at this
  rw [this]
  simp [hi', List.getD, List.getElem?_eq_getElem (show i < zs.length by omega)]
end

section
open Go.RowKit
instance : DecidableEq OpV := fun a b => by
 obtain ⟨a1, a2, a3⟩ := a
 obtain ⟨b1, b2, b3⟩ := b
 exact if h : a1 = b1 ∧ a2 = b2 ∧ a3 = b3 then .isTrue (by obtain ⟨rfl, rfl, rfl⟩ := h; rfl) else .isFalse (fun e => by cases e; exact h ⟨rfl, rfl, rfl⟩)
theorem neqOp (a b c a' b' c') (w : World) : Sem.run Tryz.prog (binOp .neq 79 (.agg #[.bool a, .int .i64 b, .int .i64 c]) (.agg #[.bool a', .int .i64 b', .int .i64 c'])) w = .ok (.bool (decide ((⟨a, b, c⟩ : OpV) ≠ ⟨a', b', c'⟩))) w := by
 have hS : Tryz.prog.underlying 79 = some (.struct (Tryz.prog.fieldsOf 79)) := by kernel_rfl
 have hp : Tryz.prog.stoodInHeld 79 = false := by kernel_rfl
 have u3 := Tryz.underlying3
 have u4 := Tryz.underlying4
 rw [run_neq_struct, show (10000 : Nat) = 9999 + 1 from rfl, run_equalIn_agg w 9999 79 _ _ hS hp]
 simp only [Program.fieldsOf, Tryz.underlying79]
 go_simp
 by_cases h1 : a = a' <;> by_cases h2 : b = b' <;> by_cases h3 : c = c' <;> simp [h1, h2, h3]
theorem guardOp (o : BinOp) (x y : Operand) (a b c a' b' c') (w : World) : Sem.run Tryz.prog (eqGuard o 79 x y (.agg #[.bool a, .int .i64 b, .int .i64 c]) (.agg #[.bool a', .int .i64 b', .int .i64 c'])) w = .ok () w :=
 run_eqGuard_agg w o 79 x y _ _ (by kernel_rfl)
end

section
open Go.RowKit
def sameO (a b : List OpV) : Bool := decide (a = b)
theorem sameO_len {a b : List OpV} (h : a.length ≠ b.length) : sameO a b = false := by unfold sameO; exact decide_eq_false (fun e => h (by rw [e]))
theorem equal_any (va vb : Value) (l m : List OpV) (w : World) (ha : Ops w va l) (hb : Ops w vb m) :
  Calls Tryz.prog 123 #[va, vb] w fun e w' => e = .returned (.bool (sameO l m)) ∧ Below w.heap.size w w' := by
 obtain ⟨ao, acap, rfl, hal⟩ := ha.form
 obtain ⟨bo, bcap, rfl, hbl⟩ := hb.form
 by_cases hlm : l.length = m.length
 ·go_enter Tryz.func123, Tryz.ntmps123
  have hlm' : (l.length : Int) = (m.length : Int) := by omega
  rw [hlm] at ha ⊢
  have hne := fun a b c a' b' c' w => neqOp a b c a' b' c' w
  have hgd := fun o x y a b c a' b' c' w => guardOp o x y a b c a' b' c' w
  go_wp2_with fail
  go_loopw [13] (fun i wr => ∃ k : Nat, k ≤ m.length ∧ i = .int .i64 k ∧ l.take k = m.take k ∧ Below w.heap.size w wr) (fun i _ => m.length - (intOf i).toNat)
  case atStart => exact ⟨0, by omega, rfl, rfl, Below.refl _ _⟩
  case round =>
   obtain ⟨k, hk, rfl, hT, hbw⟩ := hrel
   have HT := hid hT
   have HL := hid hlm
   clear hT
   by_cases hlt : k < m.length
   ·have hki : (k : Int) < (m.length : Int) := by omega
    have hltl : k < l.length := by omega
    obtain ⟨g1, o1, e1, c0, c1, c2⟩ := (ha.below hbw).at hltl
    obtain ⟨g2, o2, e2, d0, d1, d2⟩ := (hb.below hbw).at hlt
    cases e1
    cases e2
    have HS : Hid (l[k] = m[k] → l.take (k + 1) = m.take (k + 1)) := hid (fun h => by rw [take_snoc l k hltl, take_snoc m k hlt, HT.out, h])
    have HN : Hid (l[k] ≠ m[k] → l ≠ m) := hid (fun h e => h (by subst e; rfl))
    generalize l[k] = x at *
    generalize m[k] = y at *
    by_cases hxy : x = y
    ·have H := hid (HS.out hxy)
     subst hxy
     obtain ⟨xw, xk, xv⟩ := x
     have hd : ∀ w, Sem.run Tryz.prog (binOp .neq 79 (.agg #[.bool xw, .int .i64 xk, .int .i64 xv]) (.agg #[.bool xw, .int .i64 xk, .int .i64 xv])) w = .ok (.bool false) w := fun w => by rw [neqOp]; simp
     clear HS HN hne
     simp only at c0 c1 c2 d0 d1 d2
     go_wp2_with fail
     go_quiet (fail)
     go_wp2_with fail
     go_roundw
     case rel => exact ⟨k + 1, by omega, by go_num, H.out, below_drewN hbw _⟩
     case measure => simp [intOf]; omega
    ·have H := hid (HN.out hxy)
     obtain ⟨xw, xk, xv⟩ := x
     obtain ⟨yw, yk, yv⟩ := y
     have hd : ∀ w, Sem.run Tryz.prog (binOp .neq 79 (.agg #[.bool xw, .int .i64 xk, .int .i64 xv]) (.agg #[.bool yw, .int .i64 yk, .int .i64 yv])) w = .ok (.bool true) w := fun w => by rw [neqOp]; simp only [ne_eq, hxy, not_false_eq_true, decide_true]
     have H2 : Hid (false = sameO l m) := hid (by unfold sameO; rw [decide_eq_false H.out])
     clear HS HN hne H hxy
     simp only at c0 c1 c2 d0 d1 d2
     go_wp2_with fail
     go_quiet (fail)
     go_wp2_with fail
     go_ret
     exact ⟨ret_b H2.out, below_drewN hbw _⟩
   ·have H2 : Hid (true = sameO l m) := hid (by
     have h := HT.out
     have hk2 : k = m.length := by omega
     rw [hk2, List.take_length, ← HL.out, List.take_length] at h
     unfold sameO; rw [decide_eq_true h])
    clear HT HL
    go_wp2_with fail
    go_ret
    exact ⟨ret_b H2.out, hbw⟩
 ·have H2 : Hid (false = sameO l m) := hid (sameO_len hlm).symm
  have hlm' : ¬ (l.length : Int) = (m.length : Int) := by omega
  clear hlm
  go_enter Tryz.func123, Tryz.ntmps123
  go_wp2_with fail
  go_ret
  exact ⟨ret_b H2.out, Below.refl _ _⟩
def txE (t : TxnV) : Int × Int × Int × List OpV := (t.s, t.b, t.c, t.l)
def sameT (t u : TxnV) : Bool := decide (txE t = txE u)
theorem sameT_iff {t u : TxnV} : sameT t u = true ↔ t.s = u.s ∧ t.b = u.b ∧ t.c = u.c ∧ t.l = u.l := by
 unfold sameT txE; simp
theorem sameT_no {t u : TxnV} (h : ¬ (t.s = u.s ∧ t.b = u.b ∧ t.c = u.c ∧ t.l = u.l)) : sameT t u = false := by
 cases hh : sameT t u
 ·rfl
 ·exact (h (sameT_iff.1 hh)).elim
theorem sameT_ops {t u : TxnV} (h1 : t.s = u.s) (h2 : t.b = u.b) (h3 : t.c = u.c) : sameT t u = sameO t.l u.l := by
 unfold sameT txE sameO; simp [h1, h2, h3]
theorem same1_any (s b c : Int) (va : Value) (l : List OpV) (s' b' c' : Int) (vb : Value) (m : List OpV) (w : World) (ha : Ops w va l) (hb : Ops w vb m) :
  Calls Tryz.prog 122 #[.agg #[.int .i64 s, .int .i64 b, .int .i64 c, va], .agg #[.int .i64 s', .int .i64 b', .int .i64 c', vb]] w fun e w' => e = .returned (.bool (sameT ⟨s, b, c, va, l⟩ ⟨s', b', c', vb, m⟩)) ∧ Below w.heap.size w w' := by
 have hb1 := box_below w (.cells #[.int .i64 s, .int .i64 b, .int .i64 c, va] 83)
 have hb2 := hb1.alloc hb1.size (.cells #[.int .i64 s', .int .i64 b', .int .i64 c', vb] 83)
 by_cases h1 : s = s'
 ·by_cases h2 : b = b'
  ·by_cases h3 : c = c'
   ·have H := hid (sameT_ops (t := ⟨s, b, c, va, l⟩) (u := ⟨s', b', c', vb, m⟩) h1 h2 h3)
    have CE := hid (equal_any va vb l m _ (ha.below hb2) (hb.below hb2))
    subst h1 h2 h3
    clear ha hb hb1
    go_enter Tryz.func122, Tryz.ntmps122
    go_wp2_with fail
    refine (CE.out).mono ?_
    rintro e w2 ⟨rfl, hb3⟩
    have hb4 := below_then hb2 hb3
    clear hb2 hb3 CE
    go_wp2_with fail
    go_ret
    exact ⟨ret_b H.out.symm, hb4⟩
   ·have H := hid (sameT_no (t := ⟨s, b, c, va, l⟩) (u := ⟨s', b', c', vb, m⟩) (fun h => h3 h.2.2.1))
    subst h1 h2
    go_enter Tryz.func122, Tryz.ntmps122
    go_wp2_with fail
    go_ret
    exact ⟨ret_b H.out.symm, hb2⟩
  ·have H := hid (sameT_no (t := ⟨s, b, c, va, l⟩) (u := ⟨s', b', c', vb, m⟩) (fun h => h2 h.2.1))
   subst h1
   go_enter Tryz.func122, Tryz.ntmps122
   go_wp2_with fail
   go_ret
   exact ⟨ret_b H.out.symm, hb2⟩
 ·have H := hid (sameT_no (t := ⟨s, b, c, va, l⟩) (u := ⟨s', b', c', vb, m⟩) (fun h => h1 h.1))
  go_enter Tryz.func122, Tryz.ntmps122
  go_wp2_with fail
  go_ret
  exact ⟨ret_b H.out.symm, hb2⟩
def sameH (h g : List TxnV) : Bool := decide (h.map txE = g.map txE)
theorem sameH_len {h g : List TxnV} (hl : h.length ≠ g.length) : sameH h g = false := by
 unfold sameH; exact decide_eq_false (fun e => hl (by have := congrArg List.length e; simpa using this))
theorem sameH_no {h g : List TxnV} {k : Nat} (h1 : k < h.length) (h2 : k < g.length) (hn : sameT h[k] g[k] = false) : sameH h g = false := by
 unfold sameH
 refine decide_eq_false (fun e => ?_)
 have h3 : (h.map txE)[k]? = (g.map txE)[k]? := by rw [e]
 simp [List.getElem?_eq_getElem h1, List.getElem?_eq_getElem h2] at h3
 unfold sameT at hn
 exact (of_decide_eq_false hn) h3
theorem txE_take {h g : List TxnV} {k : Nat} (h1 : k < h.length) (h2 : k < g.length) (hT : (h.take k).map txE = (g.take k).map txE) (hy : sameT h[k] g[k] = true) : (h.take (k + 1)).map txE = (g.take (k + 1)).map txE := by
 rw [List.take_succ_eq_append_getElem h1, List.take_succ_eq_append_getElem h2, List.map_append, List.map_append, hT]
 unfold sameT at hy
 simp [of_decide_eq_true hy]
theorem equalF_any (va vb : Value) (h g : List TxnV) (w : World) (ha : Txns w va h) (hb : Txns w vb g) :
  Calls Tryz.prog 121 #[va, vb, .func (.func 122) #[] #[]] w fun e w' => e = .returned (.bool (sameH h g)) ∧ Below w.heap.size w w' := by
 obtain ⟨ao, acap, rfl, hal⟩ := ha.form
 obtain ⟨bo, bcap, rfl, hbl⟩ := hb.form
 by_cases hlm : h.length = g.length
 ·go_enter Tryz.func121, Tryz.ntmps121
  have hlm' : (h.length : Int) = (g.length : Int) := by omega
  rw [hlm] at ha ⊢
  go_wp2_with fail
  go_loopw [17] (fun i wr => ∃ k : Nat, k ≤ g.length ∧ i = .int .i64 k ∧ (h.take k).map txE = (g.take k).map txE ∧ Below w.heap.size w wr) (fun i _ => g.length - (intOf i).toNat)
  case atStart => exact ⟨0, by omega, rfl, rfl, Below.refl _ _⟩
  case round =>
   obtain ⟨k, hk, rfl, hT, hbw⟩ := hrel
   have HT := hid hT
   have HL := hid hlm
   clear hT
   by_cases hlt : k < g.length
   ·have hki : (k : Int) < (g.length : Int) := by omega
    have hltl : k < h.length := by omega
    obtain ⟨g1, o1, e1, c0, c1, c2, c3⟩ := (ha.below hbw).at hltl
    have hAO := fun wx (hx : Below w.heap.size w wx) => (ha.below hx).2 _ (List.getElem_mem hltl)
    have hBO := fun wx (hx : Below w.heap.size w wx) => (hb.below hx).2 _ (List.getElem_mem hlt)
    have hBA := fun wx (hx : Below w.heap.size w wx) => (hb.below hx).at hlt
    have HS := hid (fun hy => txE_take hltl hlt HT.out hy)
    have HN := hid (fun hn => sameH_no hltl hlt hn)
    cases e1
    generalize h[k] = x at *
    generalize g[k] = y at *
    obtain ⟨xs, xb, xc, xv, xl⟩ := x
    obtain ⟨ys, yb, yc, yv, yl⟩ := y
    simp only at c0 c1 c2 c3 hAO hBO hBA
    obtain ⟨ai, capi, rfl, _⟩ := (hAO _ hbw).form
    obtain ⟨bi, capj, rfl, _⟩ := (hBO _ hbw).form
    have hb1 := hbw.alloc hbw.size (.cells #[.int .i64 xs, .int .i64 xb, .int .i64 xc, .slice ai xl.length capi] 83)
    have hb2 := hb1.alloc hb1.size (.cells #[.int .i64 ys, .int .i64 yb, .int .i64 yc, .slice bi yl.length capj] 83)
    obtain ⟨g2, o2, e2, d0, d1, d2, d3⟩ := hBA _ hb1
    cases e2
    have HA := hid hAO
    have HB := hid hBO
    clear hAO hBO hBA
    have CE := hid (same1_any xs xb xc _ xl ys yb yc _ yl _ (HA.out _ hb2) (HB.out _ hb2))
    clear hb1 HA HB hbw
    generalize sameT _ _ = q at *
    go_wp2_with fail
    refine (CE.out).mono ?_
    rintro e w2 ⟨rfl, hb3⟩
    have hb4 := below_then hb2 hb3
    clear hb2 hb3 CE
    cases q
    ·have H2 : Hid (false = sameH h g) := hid (HN.out rfl).symm
     clear HS HN
     go_wp2_with fail
     go_ret
     exact ⟨ret_b H2.out, hb4⟩
    ·have H := hid (HS.out rfl)
     clear HS HN
     go_wp2_with fail
     go_roundw
     case rel => exact ⟨k + 1, by omega, by go_num, H.out, hb4⟩
     case measure => simp [intOf]; omega
   ·have H2 : Hid (true = sameH h g) := hid (by
     have h := HT.out
     have hk2 : k = g.length := by omega
     rw [hk2, List.take_length, ← HL.out, List.take_length] at h
     unfold sameH; rw [decide_eq_true h])
    clear HT HL
    go_wp2_with fail
    go_ret
    exact ⟨ret_b H2.out, hbw⟩
 ·have H2 : Hid (false = sameH h g) := hid (sameH_len hlm).symm
  have hlm' : ¬ (h.length : Int) = (g.length : Int) := by omega
  clear hlm
  go_enter Tryz.func121, Tryz.ntmps121
  go_wp2_with fail
  go_ret
  exact ⟨ret_b H2.out, Below.refl _ _⟩
theorem sameH_any (va vb : Value) (h g : List TxnV) (w : World) (ha : Txns w va h) (hb : Txns w vb g) :
  Calls Tryz.prog 78 #[va, vb] w fun e w' => e = .returned (.bool (sameH h g)) ∧ Below w.heap.size w w' := by
 go_enter Tryz.func78, Tryz.ntmps78
 go_wp2_with fail
 refine (equalF_any va vb h g w ha hb).mono ?_
 rintro e w2 ⟨rfl, hb3⟩
 go_wp2_with fail
 go_ret
 exact ⟨rfl, hb3⟩
end

section
open Go.RowKit
theorem step_app {P : Program} (w : World) {ops : Array Oper} {o : Oper} {a : Act} {K : Act → World → Prop} {Q : Exit → Act → World → Prop} {E : Prop} (hgd : o.guard = none) (s x : Operand) (t : TypeId)
  (ho : o.op = .call { callee := .builtin .append, args := #[s, x], argTypes := #[t, t] })
  (base : Nat) (e : TypeId) (i : TypeInfo) (z : Value) (size bytes : Nat) (ht : P.underlying t = some (.slice e)) (hi : P.info? e = some i) (hz : i.zero = some z)
  (hsize : i.size = size) (hby : i.bytes = bytes) (hzs : z.cells.size = size) (hsz : 0 < size)
  (v : Value) (n : Nat) (xs : List Value) (hs : a.eval s = v) (hown : w.ownsRow base e size v n xs)
  (ad : Addr) (m c : Nat) (news : List Value) (hx : a.eval x = .slice (some ad) m c) (hl : news.length = m * size) (hnews : ∀ j u, news[j]? = some u → w.cell? (ad.add j) = some u) (h1 : ∀ u ∈ news, u.oneCell' = true)
  (h63 : n + m ≤ maxLen) (hbytes : (n + m) * bytes ≤ 140737488355328) (hbase : base ≤ w.heap.size)
  (h : ∀ v' w', w'.ownsRow base e size v' (n + m) (xs ++ news) → w.grownBy w' v.ownBlock → K (a.put o.dst v') w') :
  if Region.wanted o (yielded ops a.tmps) = true then Oper.wp P o a w K Q else E := by
 have hw : Region.wanted o (yielded ops a.tmps) = true := by simp [Region.wanted, hgd]
 rw [if_pos hw]
 obtain ⟨v', w', hr, h2, h3, _⟩ := run_append_own (P := P) w base t o.type e i z size bytes ht hi hz hsize hby hzs hsz v n xs hown ad m c news hl hnews h1 h63 hbytes hbase
 unfold Oper.wp execOp
 simp only [ho, resolve, invoke, builtin, Sem.run_bind, Sem.run_pure, Result.andThen_ok, List.map_toArray, List.map_cons, List.map_nil, hs, hx, hr]
 exact h v' w' h2 h3
theorem lit_of {w : World} {B : Nat} {x y z : Value} (c0 : w.cell? ⟨B, 0, none⟩ = some x) (c1 : w.cell? ⟨B, 1, none⟩ = some y) (c2 : w.cell? ⟨B, 2, none⟩ = some z) : ∀ j u, [x, y, z][j]? = some u → w.cell? ((⟨B, 0, none⟩ : Addr).add j) = some u := fun j u hu => by
 match j, hu with
 | 0, hu => simp at hu; subst hu; exact c0
 | 1, hu => simp at hu; subst hu; exact c1
 | 2, hu => simp at hu; subst hu; exact c2
 | j + 3, hu => simp at hu
theorem lit_new (w : World) (x y z : Value) (t : TypeId) : ∀ j u, [x, y, z][j]? = some u → (w.alloc (.cells #[x, y, z] t)).cell? ((⟨w.heap.size, 0, none⟩ : Addr).add j) = some u := by
 obtain ⟨c0, c1, c2⟩ := opBlock w x y z t
 exact lit_of c0 c1 c2
end

section
open Go.RowKit
theorem infoTxn : (Tryz.prog.info? 83).map (fun i => (i.zero, i.size, i.bytes)) = some (some (.agg #[.int .i64 0, .int .i64 0, .int .i64 0, .slice none 0 0]), 4, 48) := by kernel_rfl
def OwnT (w : World) (base : Nat) (v : Value) (h : List TxnV) : Prop := w.ownsRow base 83 4 v h.length (txV h)
theorem txV_one {w : World} {v : Value} {h : List TxnV} (hT : Txns w v h) : ∀ u ∈ txV h, u.oneCell' = true := by
 intro u hu
 unfold txV at hu
 rw [List.mem_flatMap] at hu
 obtain ⟨t, ht, hu⟩ := hu
 obtain ⟨a, c, hv, _⟩ := (hT.2 t ht).form
 simp at hu
 rcases hu with rfl | rfl | rfl | rfl
 ·rfl
 ·rfl
 ·rfl
 ·rw [hv]; rfl
theorem OwnT.row {w : World} {base : Nat} {v : Value} {h : List TxnV} (hO : OwnT w base v h) : Row w v h.length 4 (txV h) := Row.of_owns hO
theorem nilO (w : World) : Sem.run Tryz.prog (binOp .eql 81 (.slice none 0 0) (.slice none 0 0)) w = .ok (.bool true) w := by kernel_rfl
theorem someO (w : World) (a : Addr) (n c : Nat) : Sem.run Tryz.prog (binOp .eql 81 (.slice (some a) n c) (.slice none 0 0)) w = .ok (.bool false) w := by kernel_rfl
theorem nilT (w : World) : Sem.run Tryz.prog (binOp .eql 22 (.slice none 0 0) (.slice none 0 0)) w = .ok (.bool true) w := by kernel_rfl
theorem someT (w : World) (a : Addr) (n c : Nat) : Sem.run Tryz.prog (binOp .eql 22 (.slice (some a) n c) (.slice none 0 0)) w = .ok (.bool false) w := by kernel_rfl
theorem clone_ops (va : Value) (l : List OpV) (w : World) (ha : Ops w va l) (hl : l.length ≤ 100000) :
  Calls Tryz.prog 159 #[va] w fun e w' => ∃ v, e = .returned v ∧ Own w' w.heap.size v l ∧ Below w.heap.size w w' := by
 obtain ⟨i0, hi, hz0, hz1, hz2⟩ := info_parts infoOp
 obtain ⟨ao, cap, rfl, hal⟩ := ha.form
 cases ao with
 | none =>
  have h0 : l = [] := by
   obtain ⟨_, ao', cap', e, _, hno, _⟩ := ha
   cases e
   exact List.eq_nil_of_length_eq_zero (hno rfl).1
  subst h0
  have hc0 : cap = 0 := by
   obtain ⟨_, ao', cap', e, _, hno, _⟩ := ha
   cases e
   exact (hno rfl).2
  subst hc0
  have e1 := nilO
  have e2 := fun w a n c => someO w a n c
  go_enter Tryz.func159, Tryz.ntmps159
  go_wp2_with fail
  go_ret
  exact ⟨_, rfl, Own.nil _ _, Below.refl _ _⟩
 | some ad =>
  have e1 := nilO
  have e2 := fun w a n c => someO w a n c
  go_enter Tryz.func159, Tryz.ntmps159
  go_wp2_with (first | (at_builtin; refine wpList_append_row rfl _ _ 81 rfl w.heap.size 79 i0 (.agg #[.bool false, .int .i64 0, .int .i64 0]) 3 24 Tryz.underlying81 hi hz0 hz1 hz2 rfl (by decide) _ 0 [] rfl (World.ownsRow_lit _ _ _ (Nat.le_refl _) (by decide) rfl) _ l.length _ rfl (ha.below ((Below.refl _ _).alloc (Nat.le_refl _) _)) ?d1 ?d2 ?d3 ?d4 ?_) | go_in)
  case d1 => exact opV_one _
  case d2 => unfold maxLen; omega
  case d3 => omega
  case d4 => first | omega | simp
  intro v5 w5 hown5 hg5
  have hO5 : Own w5 w.heap.size v5 l := by
   refine ⟨by rw [opV_len], ?_⟩
   have := hown5.2
   simpa using this
  have hb5 := ((Below.refl w.heap.size w).alloc (Nat.le_refl _) (.cells #[] 79)).grown hg5 (by simp) (by intro k hk; simp [Value.ownBlock] at hk; omega)
  clear hown5 hg5
  go_wp2_with fail
  go_ret
  exact ⟨_, rfl, hO5, hb5⟩
theorem clone_txns (va : Value) (h : List TxnV) (w : World) (ha : Txns w va h) (hl : h.length ≤ 100000) :
  Calls Tryz.prog 158 #[va] w fun e w' => ∃ v, e = .returned v ∧ OwnT w' w.heap.size v h ∧ Below w.heap.size w w' := by
 obtain ⟨i0, hi, hz0, hz1, hz2⟩ := info_parts infoTxn
 obtain ⟨ao, cap, rfl, hal⟩ := ha.form
 cases ao with
 | none =>
  have h0 : h = [] := by
   obtain ⟨⟨_, ao', cap', e, _, hno, _⟩, _⟩ := ha
   cases e
   exact List.eq_nil_of_length_eq_zero (hno rfl).1
  subst h0
  have hc0 : cap = 0 := by
   obtain ⟨⟨_, ao', cap', e, _, hno, _⟩, _⟩ := ha
   cases e
   exact (hno rfl).2
  subst hc0
  have e1 := nilT
  have e2 := fun w a n c => someT w a n c
  go_enter Tryz.func158, Tryz.ntmps158
  go_wp2_with fail
  go_ret
  exact ⟨_, rfl, ⟨rfl, .inl ⟨rfl, rfl⟩⟩, Below.refl _ _⟩
 | some ad =>
  have HO1 := hid (txV_one ha)
  have e1 := nilT
  have e2 := fun w a n c => someT w a n c
  go_enter Tryz.func158, Tryz.ntmps158
  go_wp2_with (first | (at_builtin; refine wpList_append_row rfl _ _ 22 rfl w.heap.size 83 i0 (.agg #[.int .i64 0, .int .i64 0, .int .i64 0, .slice none 0 0]) 4 48 Tryz.underlying22 hi hz0 hz1 hz2 rfl (by decide) _ 0 [] rfl (World.ownsRow_lit _ _ _ (Nat.le_refl _) (by decide) rfl) _ h.length _ rfl (ha.1.below ((Below.refl _ _).alloc (Nat.le_refl _) _)) ?d1 ?d2 ?d3 ?d4 ?_) | go_in)
  case d1 => exact HO1.out
  case d2 => unfold maxLen; omega
  case d3 => omega
  case d4 => first | omega | simp
  intro v5 w5 hown5 hg5
  have hO5 : OwnT w5 w.heap.size v5 h := by
   refine ⟨by rw [txV_len], ?_⟩
   have := hown5.2
   simpa using this
  have hb5 := ((Below.refl w.heap.size w).alloc (Nat.le_refl _) (.cells #[] 83)).grown hg5 (by simp) (by intro k hk; simp [Value.ownBlock] at hk; omega)
  clear hown5 hg5
  go_wp2_with fail
  go_ret
  exact ⟨_, rfl, hO5, hb5⟩
end

section
open Go.RowKit
theorem grown_setC (w : World) (a : Addr) (u : Value) : w.grownBy (w.setCell a u) (some a.block) :=
 ⟨rfl, rfl, rfl, by simp, fun k _ hk => Below.heap_setCell w a u k (fun e => hk (by rw [e]))⟩
theorem txV_app (l m : List TxnV) : txV (l ++ m) = txV l ++ txV m := by simp [txV]
def ApartT (t u : TxnV) : Prop := ∀ b, t.v.ownBlock = some b → u.v.ownBlock ≠ some b
theorem OwnT.below {w w' : World} {base : Nat} {v : Value} {h : List TxnV} (hO : OwnT w base v h) (hb : Below w.heap.size w w') : OwnT w' base v h := owns_below hO hb
theorem OwnT.setCell {w : World} {base g cap : Nat} {h h' : List TxnV} {j : Nat} {u : Value} (hO : OwnT w base (.slice (some ⟨g, 0, none⟩) h.length cap) h) (hl : h'.length = h.length) (hh : txV h' = (txV h).set j u) :
  OwnT (w.setCell ⟨g, j, none⟩ u) base (.slice (some ⟨g, 0, none⟩) h'.length cap) h' := by
 obtain ⟨h1, h2⟩ := hO
 rcases h2 with ⟨h2, _⟩ | ⟨g', cap', cur, e1, e2, hb, e3, e4, e5, e6⟩
 ·cases h2
 cases e1
 refine ⟨by rw [txV_len], .inr ⟨g, cap, cur.setIfInBounds j u, rfl, e2, ?_, by rw [hl]; exact e3, e4, by simpa using e5, ?_⟩⟩
 ·rw [Sort.setCell_eq]
  simp [Sort.mapBlock, Array.getElem?_modify, hb, Sort.onCells]
 ·rw [hl, Array.toList_setIfInBounds, List.take_set, e6, hh]
theorem OwnT.at {w : World} {base g cap : Nat} {h : List TxnV} (hO : OwnT w base (.slice (some ⟨g, 0, none⟩) h.length cap) h) {j : Nat} (hj : j < h.length * 4) :
  w.cell? ⟨g, j, none⟩ = (txV h)[j]? ∧ w.frozen? ⟨g, j, none⟩ = false := by
 constructor
 ·obtain ⟨_, ao, cap', e, _, _, hc⟩ := hO.row
  cases e
  obtain ⟨b, off, e, hcell⟩ := hc (by omega)
  cases e
  have := hcell j hj
  simpa using this
 ·obtain ⟨h1, h2⟩ := hO
  rcases h2 with ⟨h2, _⟩ | ⟨g', cap', cur, e1, e2, hb, _⟩
  ·cases h2
  cases e1
  simp [World.frozen?, hb]
theorem OwnT.split {w : World} {base : Nat} {v : Value} {h : List TxnV} (hO : OwnT w base v h) : (v = .slice none 0 0 ∧ h = []) ∨ ∃ g cap, v = .slice (some ⟨g, 0, none⟩) h.length cap ∧ base ≤ g := by
 obtain ⟨_, h2⟩ := hO
 rcases h2 with ⟨e1, e2⟩ | ⟨g, cap, cur, e1, e2, _⟩
 ·exact .inl ⟨e1, List.eq_nil_of_length_eq_zero e2⟩
 ·exact .inr ⟨g, cap, e1, e2⟩
theorem txV_mid (D : List TxnV) (x : TxnV) (r : List TxnV) (v' : Value) (l' : List OpV) : txV ((D ++ [⟨x.s, x.b, x.c, v', l'⟩]) ++ r) = (txV (D ++ x :: r)).set (D.length * 4 + 3) v' := by
 rw [txV_app, txV_app, txV_app, ← txV_len D, List.append_assoc, List.set_append, if_neg (by omega), Nat.add_sub_cancel_left]
 rfl
def CopyOf (w : World) (base : Nat) (v : Value) (c : List TxnV) : Prop := ∃ base2, (base ≤ base2 ∧ base2 ≤ w.heap.size) ∧ OwnT w base v c ∧ (∀ b, v.ownBlock = some b → b < base2) ∧ (∀ t ∈ c, Own w base2 t.v t.l) ∧ c.Pairwise ApartT
theorem hcopy_any (va : Value) (h : List TxnV) (w : World) (ha : Txns w va h) (hl : h.length ≤ 100000) (hn : ∀ t ∈ h, t.l.length ≤ 100000) :
  Calls Tryz.prog 124 #[va] w fun e w' => ∃ v c, e = .returned v ∧ c.map txE = h.map txE ∧ CopyOf w' w.heap.size v c ∧ Below w.heap.size w w' := by
 have HA := hid (fun wx (hx : Below w.heap.size w wx) => ha.below hx)
 have HN := hid hn
 obtain ⟨ao, cap, rfl, hal⟩ := ha.form
 clear hn
 go_enter Tryz.func124, Tryz.ntmps124
 go_wp2_with fail
 refine (clone_txns _ h w ha hl).mono ?_
 rintro e w1 ⟨v1, rfl, hO1, hb1⟩
 have hgv := hid (fun b hb => (World.ownsRow.lt hO1 b hb).2)
 obtain ⟨av, capv, rfl⟩ : ∃ a c, v1 = .slice a h.length c := by
  rcases hO1.split with ⟨rfl, rfl⟩ | ⟨g, c, rfl, _⟩
  ·exact ⟨none, 0, rfl⟩
  ·exact ⟨_, _, rfl⟩
 have hs1 := hb1.size
 clear ha
 go_wp2_with fail
 go_loopw [10] (fun i wr => ∃ (k : Nat) (D : List TxnV), k ≤ h.length ∧ i = .int .i64 k ∧ D.length = k ∧ D.map txE = (h.take k).map txE ∧ (∀ t ∈ D, Own wr w1.heap.size t.v t.l) ∧ D.Pairwise ApartT ∧ OwnT wr w.heap.size (.slice av h.length capv) (D ++ h.drop k) ∧ Below w.heap.size w wr ∧ w1.heap.size ≤ wr.heap.size) (fun i _ => h.length - (intOf i).toNat)
 case atStart => exact ⟨0, [], by omega, rfl, rfl, rfl, by simp, List.Pairwise.nil, by simpa using hO1, hb1, Nat.le_refl _⟩
 case round =>
  obtain ⟨k, D, hk, rfl, hDl, hDe, hDo, hDp, hO, hb, hsz⟩ := hrel
  clear hO1 hb1
  by_cases hlt : k < h.length
  ·have hki : (k : Int) < (h.length : Int) := by omega
   obtain ⟨g, o, hao, c0, c1, c2, c3⟩ := (HA.out _ hb).at hlt
   cases hao
   have hOps := fun wx (hx : Below w.heap.size w wx) => (HA.out wx hx).ops hlt
   have hcl := HN.out _ (List.getElem_mem hlt)
   have hdrop : h.drop k = h[k] :: h.drop (k + 1) := List.drop_eq_getElem_cons hlt
   have HTE : Hid ((h.take (k + 1)).map txE = (h.take k).map txE ++ [txE h[k]]) := hid (by rw [List.take_succ_eq_append_getElem hlt, List.map_append]; rfl)
   have hlen : (D ++ h.drop k).length = h.length := by simp; omega
   rw [hdrop] at hO hlen
   generalize h[k] = x at *
   obtain ⟨s, b, cc, v, l⟩ := x
   simp only at c0 c1 c2 c3 hOps hcl
   obtain ⟨ai, capi, rfl, hli⟩ := (hOps wr hb).form
   have hbb := hb.alloc hb.size (.cells #[.int .i64 s, .int .i64 b, .int .i64 cc, .slice ai l.length capi] 83)
   have hb0 := box_below wr (.cells #[.int .i64 s, .int .i64 b, .int .i64 cc, .slice ai l.length capi] 83)
   have CC := hid (clone_ops _ l _ (hOps _ hbb) hcl)
   rcases hO.split with ⟨e1, _⟩ | ⟨gv, cv, e1, hgb⟩
   ·have := (Value.slice.inj e1).2.1
    omega
   obtain ⟨rfl, rfl⟩ : av = some ⟨gv, 0, none⟩ ∧ capv = cv := ⟨(Value.slice.inj e1).1, (Value.slice.inj e1).2.2⟩
   have hgl := hgv.out gv rfl
   have HM := hid (And.intro hDe (And.intro hDo (And.intro hDp (And.intro hO (And.intro hlen hdrop)))))
   clear hOps e1 hDe hDo hDp hO hlen hdrop hcl
   go_wp2_with fail
   refine (CC.out).mono ?_
   rintro e w2 ⟨v2, rfl, hO2, hb2⟩
   clear CC
   obtain ⟨a2, cap2, rfl, _⟩ := hO2.ops.form
   obtain ⟨hDe, hDo, hDp, hO, hlen, hdrop⟩ := HM.out
   have hb3 := below_then hb0 hb2
   have hb4 := hb.trans (hb3.mono hb.size)
   rw [← hlen] at hO
   have hO3 := hO.below hb3
   have hfr := (hO3.at (j := k * 4 + 3) (by omega)).2
   have hcell : (w2.cell? ⟨gv, k * 4 + 3, none⟩) = some (.slice ai l.length capi) := by
    rw [(hO3.at (j := k * 4 + 3) (by omega)).1, ← hDl]
    rw [txV_app, ← txV_len D, List.getElem?_append_right (by omega), Nat.add_sub_cancel_left]
    rfl
   have hOn : OwnT (w2.setCell ⟨gv, k * 4 + 3, none⟩ (.slice a2 l.length cap2)) w.heap.size (.slice (some ⟨gv, 0, none⟩) h.length capv) ((D ++ [(TxnV.mk s b cc (.slice a2 l.length cap2) l)]) ++ h.drop (k + 1)) := by
    have hl2 : ((D ++ [(TxnV.mk s b cc (.slice a2 l.length cap2) l)]) ++ h.drop (k + 1)).length = (D ++ (TxnV.mk s b cc (.slice ai l.length capi) l) :: h.drop (k + 1)).length := by simp
    have := OwnT.setCell (h' := (D ++ [(TxnV.mk s b cc (.slice a2 l.length cap2) l)]) ++ h.drop (k + 1)) (j := k * 4 + 3) (u := .slice a2 l.length cap2) hO3 hl2 (by rw [← hDl]; exact txV_mid D (TxnV.mk s b cc (.slice ai l.length capi) l) _ _ _)
    rw [hl2, hlen] at this
    exact this
   have hg2 := grown_setC w2 ⟨gv, k * 4 + 3, none⟩ (.slice a2 l.length cap2)
   have hsz1 : (wr.alloc (.cells #[.int .i64 s, .int .i64 b, .int .i64 cc, .slice ai l.length capi] 83)).heap.size = wr.heap.size + 1 := by simp
   have hne2 : ∀ (t : TxnV) (base : Nat), Own w2 base t.v t.l → w1.heap.size ≤ base → Own (w2.setCell ⟨gv, k * 4 + 3, none⟩ (.slice a2 l.length cap2)) base t.v t.l := fun t base ht hbs => World.ownsRow.kept ht hg2 (.inr (fun e => by
    have := (World.ownsRow.lt ht gv e).1
    omega))
   have hOl : Own w2 (wr.heap.size + 1) (.slice a2 l.length cap2) l := by rw [hsz1] at hO2; exact hO2
   have hnew := hne2 (TxnV.mk s b cc (.slice a2 l.length cap2) l) _ hOl (by omega)
   have hold : ∀ t ∈ D, Own (w2.setCell ⟨gv, k * 4 + 3, none⟩ (.slice a2 l.length cap2)) w1.heap.size t.v t.l := fun t ht => hne2 t _ ((hDo t ht).below hb3) (Nat.le_refl _)
   have HR := hid (show D.length = k ∧ (D ++ [(TxnV.mk s b cc (.slice a2 l.length cap2) l)]).length = k + 1 ∧ (D ++ [(TxnV.mk s b cc (.slice a2 l.length cap2) l)]).map txE = (h.take (k + 1)).map txE ∧ (∀ t ∈ (D ++ [(TxnV.mk s b cc (.slice a2 l.length cap2) l)]), Own (w2.setCell ⟨gv, k * 4 + 3, none⟩ (.slice a2 l.length cap2)) w1.heap.size t.v t.l) ∧ (D ++ [(TxnV.mk s b cc (.slice a2 l.length cap2) l)]).Pairwise ApartT ∧ OwnT (w2.setCell ⟨gv, k * 4 + 3, none⟩ (.slice a2 l.length cap2)) w.heap.size (.slice (some ⟨gv, 0, none⟩) h.length capv) ((D ++ [(TxnV.mk s b cc (.slice a2 l.length cap2) l)]) ++ h.drop (k + 1)) ∧ Below w.heap.size w (w2.setCell ⟨gv, k * 4 + 3, none⟩ (.slice a2 l.length cap2)) ∧ w1.heap.size ≤ (w2.setCell ⟨gv, k * 4 + 3, none⟩ (.slice a2 l.length cap2)).heap.size from by
    refine ⟨hDl, by simp [hDl], by rw [HTE.out, List.map_append, hDe]; rfl, ?_, ?_, hOn, hb4.setCell (p := ⟨gv, k * 4 + 3, none⟩) hgb _, ?_⟩
    ·intro t ht
     rcases List.mem_append.1 ht with ht | ht
     ·exact hold t ht
     ·obtain rfl := List.mem_singleton.1 ht
      exact hnew.base (by omega)
    ·rw [List.pairwise_append]
     refine ⟨hDp, List.pairwise_singleton _ _, fun t ht u hu => ?_⟩
     obtain rfl := List.mem_singleton.1 hu
     intro b1 h1 h2
     have q1 := (World.ownsRow.lt (hDo t ht) b1 h1).2
     have q2 := (World.ownsRow.lt hOl b1 h2).1
     omega
    ·have := hb3.size
     have e : (w2.setCell ⟨gv, k * 4 + 3, none⟩ (.slice a2 l.length cap2)).heap.size = w2.heap.size := by simp
     omega)
   clear hDe hDo hDp hO hlen hdrop HM hO3 hOn hg2 hne2 hOl hnew hold hO2 hb2 hb3 hb4 hb0 hsz1 hDl
   go_wp2_with fail
   obtain ⟨hDl, r1, r2, r3, r4, r5, r6, r7⟩ := HR.out
   go_roundw
   case rel => exact ⟨k + 1, _, by omega, by go_num, r1, r2, r3, r4, r5, r6, r7⟩
   case measure => simp [intOf]; omega
  ·have hkl : k = h.length := by omega
   subst hkl
   have HR : Hid (D.map txE = h.map txE ∧ CopyOf wr w.heap.size (.slice av h.length capv) D) := hid (by
    rw [List.take_length] at hDe
    rw [List.drop_length, List.append_nil] at hO
    exact ⟨hDe, w1.heap.size, ⟨hs1, hsz⟩, hO, hgv.out, hDo, hDp⟩)
   clear hDe hDo hDp hO hgv
   go_wp2_with fail
   go_ret
   exact ⟨_, D, rfl, HR.out.1, HR.out.2, hb⟩
end

section
inductive Must (S A : Mat) (tr pf : Bool) : Nat → Nat → Prop
 | base {i j : Nat} : S i j = true → Must S A tr pf i j
 | trans {i m j : Nat} : tr = true → m < 64 → Must S A tr pf i m → Must S A tr pf m j → Must S A tr pf i j
 | pre {i m j : Nat} : pf = true → m < 64 → A i m = true → Must S A tr pf m j → Must S A tr pf i j
section
variable {S A V : Mat} {tr pf : Bool}
theorem thenR_iff (R S : Mat) (i j : Nat) : thenR R S i j = true ↔ ∃ m, m < 64 ∧ R i m = true ∧ S m j = true := by
 unfold thenR
 rw [List.any_eq_true]
 constructor
 ·rintro ⟨m, hm, h⟩
  rw [Bool.and_eq_true] at h
  exact ⟨m, List.mem_range.1 hm, h.1, h.2⟩
 ·rintro ⟨m, hm, h1, h2⟩
  exact ⟨m, List.mem_range.2 hm, by rw [h1, h2]; rfl⟩
theorem orR_iff (R S : Mat) (i j : Nat) : orR R S i j = true ↔ R i j = true ∨ S i j = true := by
 unfold orR; rw [Bool.or_eq_true]
end
end

section
open Go.RowKit
def keyV (l : List OpV) : List Value := l.map fun o => .int .i64 o.key
theorem keyV_take (l : List OpV) (k : Nat) (hk : k < l.length) : keyV (l.take (k + 1)) = keyV (l.take k) ++ [.int .i64 l[k].key] := by
 unfold keyV; rw [List.take_succ_eq_append_getElem hk, List.map_append]; rfl
theorem okeys_own {w : World} {base base' : Nat} {v : Value} {e : TypeId} {l : List OpV} (h : w.ownsRow base e 1 v (keyV l).length (keyV l)) (hb : base' ≤ base) : w.ownsRow base' e 1 v l.length (keyV l) := by
 have hkk : (keyV l).length = l.length := by simp [keyV]
 rw [hkk] at h
 obtain ⟨h1, h2⟩ := h
 refine ⟨h1, ?_⟩
 rcases h2 with h2 | ⟨g, cap, cur, e1, e2, r⟩
 ·exact .inl h2
 ·exact .inr ⟨g, cap, cur, e1, Nat.le_trans hb e2, r⟩
theorem okeys_any (s b c : Int) (va : Value) (l : List OpV) (w : World) (ha : Ops w va l) (hok : ∀ o ∈ l, o.ok) (hlen : l.length ≤ 100000) :
  Calls Tryz.prog 53 #[.agg #[.int .i64 s, .int .i64 b, .int .i64 c, va]] w fun e w' => ∃ v out, e = .returned v ∧ w'.ownsRow w.heap.size 3 1 v out.length (keyV out) ∧ Rise (lastW l) true out ∧ out.length ≤ l.length ∧ Below w.heap.size w w' := by
 obtain ⟨i0, hi, hz0, hz1, hz2⟩ := info_parts infoInt
 obtain ⟨ao, cap, rfl, hal⟩ := ha.form
 have hb0 := box_below w (.cells #[.int .i64 s, .int .i64 b, .int .i64 c, .slice ao l.length cap] 83)
 have CW := hid (writes_any s b c _ l _ (ha.below hb0) hok hlen)
 clear ha hok
 go_enter Tryz.func53, Tryz.ntmps53
 go_wp2_with fail
 refine (CW.out).mono ?_
 rintro e w1 ⟨v1, out, rfl, hO, hR, hol, hb1⟩
 have hb2 := below_then hb0 hb1
 have HR := hid (And.intro hR hol)
 have hlim : out.length ≤ 100000 := by omega
 clear CW hb0 hb1 hR hol
 obtain ⟨B, hB⟩ : ∃ B, B = w1.heap.size := ⟨_, rfl⟩
 have hBw : w.heap.size ≤ B := by have := hb2.size; omega
 have hBl : B ≤ w1.heap.size := by omega
 have HB := hid hB
 clear hB
 have hT := hO.ops
 clear hO
 obtain ⟨a1, cap1, rfl, _⟩ := hT.form
 go_wp2_with fail
 go_loopw [3, 9] (fun v i wr => ∃ k : Nat, k ≤ out.length ∧ i = .int .i64 k ∧ wr.ownsRow B 3 1 v (keyV (out.take k)).length (keyV (out.take k)) ∧ Below B w1 wr)
  (fun _ i _ => out.length - (intOf i).toNat)
 case atStart => exact ⟨0, by omega, rfl, World.ownsRow_nil _ _ _ _, HB.out ▸ Below.refl _ _⟩
 case round =>
  obtain ⟨k, hk, rfl, hown, hb⟩ := hrel
  have hsz := hb.size
  by_cases hlt : k < out.length
  ·have hki : (k : Int) < (out.length : Int) := by omega
   obtain ⟨g, o, hao, c0, c1, c2⟩ := (hT.below (HB.out ▸ hb)).at hlt
   cases hao
   have HM := hid (keyV_take out k hlt)
   have hkl : (keyV (out.take k)).length ≤ 100000 := by simp [keyV]; omega
   generalize out[k].wr = x at *
   generalize out[k].key = y at *
   generalize out[k].val = z at *
   have hbx := hb.alloc (by omega) (.cells #[.bool x, .int .i64 y, .int .i64 z] 79)
   have hownx := hown.alloc (.cells #[.bool x, .int .i64 y, .int .i64 z] 79)
   go_wp2_with (at_builtin; refine wpList_append_own _ rfl _ _ 24 rfl B 3 i0 (.int .i64 0) 1 8 Tryz.underlying24 hi hz0 hz1 hz2 rfl (by decide) _ _ _ rfl (hownx.alloc _) ⟨_, 0, none⟩ 1 1 [.int .i64 y] rfl rfl ?c1 ?c2 ?c3 ?c4 ?c5 ?_)
   case c1 =>
    have e : wr.heap.size + 1 = (wr.alloc (.cells #[.bool x, .int .i64 y, .int .i64 z] 79)).heap.size := by simp
    rw [e]
    exact cell_one_new _ _ _
   case c2 => intro u hu; simp at hu; subst hu; rfl
   case c3 => unfold maxLen; omega
   case c4 => omega
   case c5 => simp; omega
   ·intro v' w2 hown' hgrow _
    have hb' := below_app hbx (by omega) hownx hgrow
    clear hown hownx hbx hb hgrow
    go_wp2_with fail
    go_roundw
    case rel =>
     refine ⟨k + 1, by omega, by go_num, ?_, hb'⟩
     rw [HM.out, List.length_append]
     exact hown'
    case measure => simp [intOf]; omega
  ·have hkl : k = out.length := by omega
   subst hkl
   rw [List.take_length] at hown
   go_wp2_with fail
   go_ret
   exact ⟨_, out, rfl, okeys_own hown hBw, HR.out.1, HR.out.2, hb2.trans (hb.mono hBw)⟩
end

section
open Go.RowKit
def fromO (F : Int → Option WV) (x : Int) : Int := ((F x).map (·.i)).getD (-1)
def rdFr (F : Int → Option WV) (i : Int) (l : List OpV) : List (Int × Int) := (l.filter fun o => fromO F o.val != i).map fun o => (o.key, fromO F o.val)
def frV (l : List (Int × Int)) : List Value := l.flatMap fun p => [.int .i64 p.1, .int .i64 p.2]
theorem frV_app (l m : List (Int × Int)) : frV (l ++ m) = frV l ++ frV m := by simp [frV]
theorem rdFr_snoc (F : Int → Option WV) (i : Int) (l : List OpV) (k : Nat) (hk : k < l.length) : rdFr F i (l.take (k + 1)) = rdFr F i (l.take k) ++ (if fromO F l[k].val = i then [] else [(l[k].key, fromO F l[k].val)]) := by
 unfold rdFr
 rw [List.take_succ_eq_append_getElem hk, List.filter_append, List.map_append]
 by_cases h : fromO F l[k].val = i <;> simp [h]
theorem rdFr_len (F : Int → Option WV) (i : Int) (l : List OpV) : (rdFr F i l).length ≤ l.length := by
 unfold rdFr; rw [List.length_map]; exact List.length_filter_le _ _
theorem infoRd : (Tryz.prog.info? 121).map (fun i => (i.zero, i.size, i.bytes)) = some (some (.agg #[.int .i64 0, .int .i64 0]), 2, 16) := by kernel_rfl
theorem lit_two (w : World) (x y : Value) (t : TypeId) : ∀ j u, [x, y][j]? = some u → (w.alloc (.cells #[x, y] t)).cell? ((⟨w.heap.size, 0, none⟩ : Addr).add j) = some u := by
 have h := At.new w (.cells #[x, y] t)
 unfold At at h
 generalize w.alloc (.cells #[x, y] t) = w1 at *
 generalize w.heap.size = p at *
 intro j u hu
 rcases j with _ | _ | j
 ·simp at hu; subst hu; simp [World.cell?, Addr.add, h]
 ·simp at hu; subst hu; simp [World.cell?, Addr.add, h]
 ·simp at hu
theorem own_base' {w : World} {base base' : Nat} {v : Value} {e : TypeId} {size n : Nat} {xs : List Value} (h : w.ownsRow base e size v n xs) (hb : base' ≤ base) : w.ownsRow base' e size v n xs := by
 obtain ⟨h1, h2⟩ := h
 refine ⟨h1, ?_⟩
 rcases h2 with h2 | ⟨g, cap, cur, e1, e2, r⟩
 ·exact .inl h2
 ·exact .inr ⟨g, cap, cur, e1, Nat.le_trans hb e2, r⟩
theorem oreads_any (i s b c : Int) (va : Value) (l : List OpV) (F : Int → Option WV) (bm n cc : Nat) (w : World) (ha : Ops w va l) (hok : ∀ o ∈ l, o.ok) (hlen : l.length ≤ 100000) (hM : MapI eW Tryz.prog 3 w bm n F cc) :
  Calls Tryz.prog 54 #[.int .i64 i, .agg #[.int .i64 s, .int .i64 b, .int .i64 c, va], .map (some bm)] w fun e w' => ∃ v out, e = .returned v ∧ w'.ownsRow w.heap.size 121 2 v (rdFr F i out).length (frV (rdFr F i out)) ∧ Rise (firstO l) false out ∧ out.length ≤ l.length ∧ Below w.heap.size w w' := by
 obtain ⟨i0, hi, hz0, hz1, hz2⟩ := info_parts infoRd
 obtain ⟨ao, cap, rfl, hal⟩ := ha.form
 have hb0 := box_below w (.cells #[.int .i64 s, .int .i64 b, .int .i64 c, .slice ao l.length cap] 83)
 have CW := hid (reads_any s b c _ l _ (ha.below hb0) hok hlen)
 have HOK := hid hok
 have HMM := hid (fun wx (hx : Below w.heap.size w wx) => hM.below hx)
 clear ha hok hM
 go_enter Tryz.func54, Tryz.ntmps54
 go_wp2_with fail
 refine (CW.out).mono ?_
 rintro e w1 ⟨v1, out, rfl, hO, hR, hol, hb1⟩
 have hb2 := below_then hb0 hb1
 have HR := hid (And.intro hR hol)
 have HV := hid (fun o (ho : o ∈ out) => HOK.out o (firstO_key (((hR.2 o).1 ho).1)).2)
 have HM := hid ((HMM.out _ hb2))
 have hlim : out.length ≤ 100000 := by omega
 clear CW hb0 hb1 hR hol HOK HMM
 obtain ⟨B, hB⟩ : ∃ B, B = w1.heap.size := ⟨_, rfl⟩
 have hBw : w.heap.size ≤ B := by have := hb2.size; omega
 have hBl : B ≤ w1.heap.size := by omega
 have HB := hid hB
 clear hB
 have hT := hO.ops
 clear hO
 obtain ⟨a1, cap1, rfl, _⟩ := hT.form
 go_wp2_with fail
 go_loopw [7, 15] (fun v j wr => ∃ k : Nat, k ≤ out.length ∧ j = .int .i64 k ∧ wr.ownsRow B 121 2 v (rdFr F i (out.take k)).length (frV (rdFr F i (out.take k))) ∧ Below B w1 wr)
  (fun _ j _ => out.length - (intOf j).toNat)
 case atStart => exact ⟨0, by omega, rfl, World.ownsRow_nil _ _ _ _, HB.out ▸ Below.refl _ _⟩
 case round =>
  obtain ⟨k, hk, rfl, hown, hb⟩ := hrel
  have hsz := hb.size
  by_cases hlt : k < out.length
  ·have hki : (k : Int) < (out.length : Int) := by omega
   obtain ⟨g, o, hao, c0, c1, c2⟩ := (hT.below (HB.out ▸ hb)).at hlt
   cases hao
   have HS := hid (rdFr_snoc F i out k hlt)
   have hkl : (rdFr F i (out.take k)).length ≤ 100000 := Nat.le_trans (rdFr_len _ _ _) (by rw [List.length_take]; omega)
   have hkv := inI_of (HV.out out[k] (List.getElem_mem hlt)).2
   have hM2 := (HM.out.below (HB.out ▸ hb)).alloc (.cells #[.bool out[k].wr, .int .i64 out[k].key, .int .i64 out[k].val] 79)
   generalize out[k].wr = x at *
   generalize out[k].key = y at *
   generalize out[k].val = z at *
   have hbx := hb.alloc (by omega) (.cells #[.bool x, .int .i64 y, .int .i64 z] 79)
   have hownx := hown.alloc (.cells #[.bool x, .int .i64 y, .int .i64 z] 79)
   cases hv : F z with
   | none =>
    have hf : fromO F z = -1 := by unfold fromO; rw [hv]; rfl
    rw [hf] at HS
    have hby := hbx.alloc (by have := hbx.size; omega) (.cells #[.int .i64 (-1), .int .i64 0, .bool false] 165)
    have howny := hownx.alloc (.cells #[.int .i64 (-1), .int .i64 0, .bool false] 165)
    by_cases hfi : (-1) = i
    ·rw [if_pos hfi, List.append_nil] at HS
     subst hfi
     go_wp2_with (at_lookup; refine wpList_lookI_ok _ rfl _ _ 102 rfl 3 165 keyI mapIW wZ (zeroW _) _ _ _ _ rfl hM2 _ rfl hkv ?_; rw [hv]; simp only [Option.getD_none, Option.isSome_none, eW, wZ])
     go_roundw
     case rel => exact ⟨k + 1, by omega, by go_num, by rw [HS.out]; exact howny, hby⟩
     case measure => simp [intOf]; omega
    ·rw [if_neg hfi] at HS
     go_wp2_with (first | (at_lookup; refine wpList_lookI_ok _ rfl _ _ 102 rfl 3 165 keyI mapIW wZ (zeroW _) _ _ _ _ rfl hM2 _ rfl hkv ?_; rw [hv]; simp only [Option.getD_none, Option.isSome_none, eW, wZ]) | (at_builtin; refine wpList_append_own _ rfl _ _ 114 rfl B 121 i0 (.agg #[.int .i64 0, .int .i64 0]) 2 16 Tryz.underlying114 hi hz0 hz1 hz2 rfl (by decide) _ _ _ rfl (howny.alloc _) ⟨_, 0, none⟩ 1 1 [.int .i64 y, .int .i64 (-1)] rfl rfl ?c1 ?c2 ?c3 ?c4 ?c5 ?_))
     case c1 =>
      have e : wr.heap.size + 1 + 1 = ((wr.alloc (.cells #[.bool x, .int .i64 y, .int .i64 z] 79)).alloc (.cells #[.int .i64 (-1), .int .i64 0, .bool false] 165)).heap.size := by simp
      rw [e]
      exact lit_two _ _ _ _
     case c2 => intro u hu; simp at hu; rcases hu with rfl | rfl <;> rfl
     case c3 => unfold maxLen; omega
     case c4 => omega
     case c5 => simp; omega
     ·intro v' w2 hown' hgrow _
      have hb' := below_app hby (by omega) howny hgrow
      clear hown hownx howny hbx hby hb hgrow
      go_wp2_with fail
      go_roundw
      case rel =>
       refine ⟨k + 1, by omega, by go_num, ?_, hb'⟩
       rw [HS.out, frV_app, List.length_append]
       exact hown'
      case measure => simp [intOf]; omega
   | some u =>
    have hf : fromO F z = u.i := by unfold fromO; rw [hv]; rfl
    rw [hf] at HS
    obtain ⟨ui, uk, ul⟩ := u
    simp only at HS
    have hby := hbx.alloc (by have := hbx.size; omega) (.cells #[.int .i64 ui, .int .i64 uk, .bool ul] 165)
    have howny := hownx.alloc (.cells #[.int .i64 ui, .int .i64 uk, .bool ul] 165)
    by_cases hfi : ui = i
    ·rw [if_pos hfi, List.append_nil] at HS
     subst hfi
     go_wp2_with (at_lookup; refine wpList_lookI_ok _ rfl _ _ 102 rfl 3 165 keyI mapIW wZ (zeroW _) _ _ _ _ rfl hM2 _ rfl hkv ?_; rw [hv]; simp only [Option.getD_some, Option.isSome_some, eW])
     go_roundw
     case rel => exact ⟨k + 1, by omega, by go_num, by rw [HS.out]; exact howny, hby⟩
     case measure => simp [intOf]; omega
    ·rw [if_neg hfi] at HS
     go_wp2_with (first | (at_lookup; refine wpList_lookI_ok _ rfl _ _ 102 rfl 3 165 keyI mapIW wZ (zeroW _) _ _ _ _ rfl hM2 _ rfl hkv ?_; rw [hv]; simp only [Option.getD_some, Option.isSome_some, eW]) | (at_builtin; refine wpList_append_own _ rfl _ _ 114 rfl B 121 i0 (.agg #[.int .i64 0, .int .i64 0]) 2 16 Tryz.underlying114 hi hz0 hz1 hz2 rfl (by decide) _ _ _ rfl (howny.alloc _) ⟨_, 0, none⟩ 1 1 [.int .i64 y, .int .i64 ui] rfl rfl ?c1 ?c2 ?c3 ?c4 ?c5 ?_))
     case c2 => exact ⟨rfl, rfl⟩
     case c3 => unfold maxLen; omega
     case c4 => omega
     case c5 => omega
     ·intro v' w2 hown' hgrow _
      have hb' := below_app hby (by omega) howny hgrow
      clear hown hownx howny hbx hby hb hgrow
      go_wp2_with fail
      go_roundw
      case rel =>
       refine ⟨k + 1, by omega, by go_num, ?_, hb'⟩
       rw [HS.out, frV_app, List.length_append]
       exact hown'
      case measure => simp [intOf]; omega
  ·have hkl : k = out.length := by omega
   subst hkl
   rw [List.take_length] at hown
   go_wp2_with fail
   go_ret
   exact ⟨_, out, rfl, own_base' hown hBw, HR.out.1, HR.out.2, hb2.trans (hb.mono hBw)⟩
end

section
open Go.RowKit
def badFr (F : Int → Option WV) (i : Int) (o : OpV) : Bool := match F o.val with | none => false | some u => decide (u.i = i) || !u.last
theorem anyf_take {f : OpV → Bool} {l : List OpV} {k : Nat} (hk : k < l.length) (h : (l.take k).any f = false) : (l.take (k + 1)).any f = f l[k] := by
 rw [List.take_succ_eq_append_getElem hk, List.any_append, h]; simp
theorem anyf_hit {f : OpV → Bool} {l : List OpV} {k : Nat} (hk : k < l.length) (h : f l[k] = true) : l.any f = true := List.any_eq_true.2 ⟨_, List.getElem_mem hk, h⟩
theorem osound_any (i s b c : Int) (va : Value) (l : List OpV) (F : Int → Option WV) (bm n cc : Nat) (w : World) (ha : Ops w va l) (hok : ∀ o ∈ l, o.ok) (hlen : l.length ≤ 100000) (hM : MapI eW Tryz.prog 3 w bm n F cc) :
  Calls Tryz.prog 55 #[.int .i64 i, .agg #[.int .i64 s, .int .i64 b, .int .i64 c, va], .map (some bm)] w fun e w' => ∃ out, e = .returned (.bool (!out.any (badFr F i) && steadyL l)) ∧ Rise (firstO l) false out ∧ out.length ≤ l.length ∧ Below w.heap.size w w' := by
 obtain ⟨ao, cap, rfl, hal⟩ := ha.form
 have hb0 := box_below w (.cells #[.int .i64 s, .int .i64 b, .int .i64 c, .slice ao l.length cap] 83)
 have CW := hid (reads_any s b c _ l _ (ha.below hb0) hok hlen)
 have HOK := hid hok
 have HA := hid (fun wx (hx : Below w.heap.size w wx) => ha.below hx)
 have HMM := hid (fun wx (hx : Below w.heap.size w wx) => hM.below hx)
 have hx0 := txnBlock w (.int .i64 s) (.int .i64 b) (.int .i64 c) (.slice ao l.length cap) 83
 have hA0 := At.new w (.cells #[.int .i64 s, .int .i64 b, .int .i64 c, .slice ao l.length cap] 83)
 clear ha hok hM hx0
 go_enter Tryz.func55, Tryz.ntmps55
 go_wp2_with fail
 refine (CW.out).mono ?_
 rintro e w1 ⟨v1, out, rfl, hO, hR, hol, hb1⟩
 have hb2 := below_then hb0 hb1
 have hA1 := hA0.below hb1
 have HR := hid (And.intro hR hol)
 have HV := hid (fun o (ho : o ∈ out) => HOK.out o (firstO_key (((hR.2 o).1 ho).1)).2)
 have HM := hid ((HMM.out _ hb2))
 have hlim : out.length ≤ 100000 := by omega
 clear CW hb0 hb1 hR hol HMM hA0
 have hT := hO.ops
 clear hO
 obtain ⟨a1, cap1, rfl, _⟩ := hT.form
 go_wp2_with fail
 go_loopw [14] (fun j wr => ∃ k : Nat, k ≤ out.length ∧ j = .int .i64 k ∧ (out.take k).any (badFr F i) = false ∧ Below w1.heap.size w1 wr)
  (fun j _ => out.length - (intOf j).toNat)
 case atStart => exact ⟨0, by omega, rfl, rfl, Below.refl _ _⟩
 case round =>
  obtain ⟨k, hk, rfl, hno, hb⟩ := hrel
  have HNO := hid hno
  clear hno
  have hsz := hb.size
  by_cases hlt : k < out.length
  ·have hki : (k : Int) < (out.length : Int) := by omega
   obtain ⟨g, o, hao, c0, c1, c2⟩ := (hT.below hb).at hlt
   cases hao
   have HS := hid (anyf_take hlt HNO.out)
   have HH := hid (fun h => anyf_hit (f := badFr F i) hlt h)
   have HBD : Hid (badFr F i out[k] = match F out[k].val with | none => false | some u => decide (u.i = i) || !u.last) := hid rfl
   have hkv := inI_of (HV.out out[k] (List.getElem_mem hlt)).2
   have hM2 := (HM.out.below hb).alloc (.cells #[.bool out[k].wr, .int .i64 out[k].key, .int .i64 out[k].val] 79)
   generalize badFr F i out[k] = bd at *
   generalize out[k].wr = x at *
   generalize out[k].key = y at *
   generalize out[k].val = z at *
   have hbx := hb.alloc hb.size (.cells #[.bool x, .int .i64 y, .int .i64 z] 79)
   cases hv : F z with
   | none =>
    have HF : Hid (bd = false) := hid (by rw [HBD.out, hv])
    have hby := hbx.alloc hbx.size (.cells #[.int .i64 0, .int .i64 0, .bool false] 165)
    clear HBD
    go_wp2_with (at_lookup; refine wpList_lookI_ok _ rfl _ _ 102 rfl 3 165 keyI mapIW wZ (zeroW _) _ _ _ _ rfl hM2 _ rfl hkv ?_; rw [hv]; simp only [Option.getD_none, Option.isSome_none, eW, wZ])
    go_roundw
    case rel => exact ⟨k + 1, by omega, by go_num, by rw [HS.out, HF.out], hby⟩
    case measure => simp [intOf]; omega
   | some u =>
    obtain ⟨ui, uk, ul⟩ := u
    have HF : Hid (bd = (decide (ui = i) || !ul)) := hid (by rw [HBD.out, hv])
    have hby := hbx.alloc hbx.size (.cells #[.int .i64 ui, .int .i64 uk, .bool ul] 165)
    clear HBD
    by_cases hfi : ui = i
    ·have HB2 : Hid (bd = true) := hid (by rw [HF.out, decide_eq_true hfi]; rfl)
     subst hfi
     go_wp2_with (at_lookup; refine wpList_lookI_ok _ rfl _ _ 102 rfl 3 165 keyI mapIW wZ (zeroW _) _ _ _ _ rfl hM2 _ rfl hkv ?_; rw [hv]; simp only [Option.getD_some, Option.isSome_some, eW])
     go_ret
     exact ⟨out, by rw [HH.out HB2.out]; rfl, HR.out.1, HR.out.2, hb2.trans (hby.mono hb2.size)⟩
    ·cases ul with
     | false =>
      have HB2 : Hid (bd = true) := hid (by rw [HF.out]; simp)
      go_wp2_with (at_lookup; refine wpList_lookI_ok _ rfl _ _ 102 rfl 3 165 keyI mapIW wZ (zeroW _) _ _ _ _ rfl hM2 _ rfl hkv ?_; rw [hv]; simp only [Option.getD_some, Option.isSome_some, eW])
      go_ret
      exact ⟨out, by rw [HH.out HB2.out]; rfl, HR.out.1, HR.out.2, hb2.trans (hby.mono hb2.size)⟩
     | true =>
      have HB2 : Hid (bd = false) := hid (by rw [HF.out, decide_eq_false hfi]; rfl)
      go_wp2_with (at_lookup; refine wpList_lookI_ok _ rfl _ _ 102 rfl 3 165 keyI mapIW wZ (zeroW _) _ _ _ _ rfl hM2 _ rfl hkv ?_; rw [hv]; simp only [Option.getD_some, Option.isSome_some, eW])
      go_roundw
      case rel => exact ⟨k + 1, by omega, by go_num, by rw [HS.out, HB2.out], hby⟩
      case measure => simp [intOf]; omega
  ·have hkl : k = out.length := by omega
   subst hkl
   have HNA : Hid (out.any (badFr F i) = false) := hid (by have h := HNO.out; rwa [List.take_length] at h)
   obtain ⟨q0, q1, q2, q3⟩ := (hA1.below hb).cells4
   have hb3 := hb2.trans (hb.mono hb2.size)
   have CS := hid (steady_any s b c _ l wr (HA.out _ hb3) HOK.out hlen)
   go_wp2_with fail
   refine (CS.out).mono ?_
   rintro e w6 ⟨rfl, hb6⟩
   have hb7 := hb3.trans (hb6.mono hb3.size)
   go_wp2_with fail
   go_ret
   exact ⟨out, by rw [HNA.out]; rfl, HR.out.1, HR.out.2, hb7⟩
end

section
open Go.RowKit
def Frs (w : World) (v : Value) (l : List (Int × Int)) : Prop := Row w v l.length 2 (frV l)
theorem Frs.below {w w' : World} {v : Value} {l : List (Int × Int)} (h : Frs w v l) (hb : Below w.heap.size w w') : Frs w' v l := Row.below h hb
theorem frV_at : ∀ (l : List (Int × Int)) (k : Nat) (hk : k < l.length), (frV l)[k * 2]? = some (.int .i64 l[k].1) ∧ (frV l)[k * 2 + 1]? = some (.int .i64 l[k].2)
 | [], k, hk => by simp at hk
 | p :: l, 0, _ => by simp [frV]
 | p :: l, k + 1, hk => by
  obtain ⟨h1, h2⟩ := frV_at l k (by simpa using hk)
  have e : (k + 1) * 2 = k * 2 + 1 + 1 := by omega
  have e2 : frV (p :: l) = .int .i64 p.1 :: .int .i64 p.2 :: frV l := rfl
  rw [e, e2]
  exact ⟨by simpa using h1, by simpa using h2⟩
theorem Frs.form {w : World} {v : Value} {l : List (Int × Int)} (h : Frs w v l) : ∃ ao cap, v = .slice ao l.length cap ∧ l.length ≤ 9223372036854775807 := by
 obtain ⟨_, ao, cap, rfl, hm, _, _⟩ := h
 exact ⟨ao, cap, rfl, Nat.le_trans hm.1 hm.2⟩
theorem Frs.at {w : World} {ao : Option Addr} {n cap : Nat} {l : List (Int × Int)} (h : Frs w (.slice ao n cap) l) {k : Nat} (hk : k < l.length) :
  ∃ b off, ao = some ⟨b, off, none⟩ ∧ w.cell? ⟨b, off + k * 2, none⟩ = some (.int .i64 l[k].1) ∧ w.cell? ⟨b, off + k * 2 + 1, none⟩ = some (.int .i64 l[k].2) := by
 obtain ⟨_, ao', cap', he, hm, _, hc⟩ := h
 obtain ⟨rfl, _, _⟩ : ao = ao' ∧ n = l.length ∧ cap = cap' := by simpa using he
 obtain ⟨b, off, rfl, hcell⟩ := hc (by omega)
 obtain ⟨h0, h1⟩ := frV_at l k hk
 exact ⟨b, off, rfl, by rw [hcell _ (by omega), h0], by rw [Nat.add_assoc, hcell _ (by omega), h1]⟩
theorem offrom1_any (y f a : Int) (q : Nat) (w : World) (hq : w.cell? ⟨q, 0, none⟩ = some (.int .i64 a)) :
  Calls Tryz.prog 62 #[.agg #[.int .i64 y, .int .i64 f], .pointer (some ⟨q, 0, none⟩)] w fun e w' => e = .returned (.bool (decide (f = a))) ∧ Below w.heap.size w w' := by
 have hq' := (box_below w (.cells #[.int .i64 y, .int .i64 f] 121)).cell (p := ⟨q, 0, none⟩) (block_lt hq)
 rw [hq] at hq'
 go_enter Tryz.func62, Tryz.ntmps62
 go_wp2_with fail
 go_ret
 exact ⟨rfl, (Below.refl _ _).alloc (Nat.le_refl _) _⟩
theorem frs_take {f : Int × Int → Bool} {l : List (Int × Int)} {k : Nat} (hk : k < l.length) (h : (l.take k).any f = false) : (l.take (k + 1)).any f = f l[k] := by
 rw [List.take_succ_eq_append_getElem hk, List.any_append, h]; simp
theorem ofindex_any (va : Value) (l : List (Int × Int)) (a : Int) (q : Nat) (w : World) (hT : Frs w va l) (hq : w.cell? ⟨q, 0, none⟩ = some (.int .i64 a)) :
  Calls Tryz.prog 108 #[va, .func (.func 62) #[] #[.pointer (some ⟨q, 0, none⟩)]] w fun e w' => ∃ r : Int, e = .returned (.int .i64 r) ∧ decide (0 ≤ r) = l.any (fun p => decide (p.2 = a)) ∧ Below w.heap.size w w' := by
 obtain ⟨ao, cap, rfl, hal⟩ := hT.form
 have HQ := hid (fun wx (hx : Below w.heap.size w wx) => (hx.cell (p := ⟨q, 0, none⟩) (block_lt hq)).trans hq)
 clear hq
 go_enter Tryz.func108, Tryz.ntmps108
 go_wp2_with fail
 go_loopw [8] (fun i wr => ∃ k : Nat, k ≤ l.length ∧ i = .int .i64 k ∧ (l.take k).any (fun p => decide (p.2 = a)) = false ∧ Below w.heap.size w wr) (fun i _ => l.length - (intOf i).toNat)
 case atStart => exact ⟨0, by omega, rfl, rfl, Below.refl _ _⟩
 case round =>
  obtain ⟨k, hk, rfl, hno, hb⟩ := hrel
  have HNO := hid hno
  clear hno
  by_cases hlt : k < l.length
  ·have hki : (k : Int) < (l.length : Int) := by omega
   obtain ⟨g, o, hao, c0, c1⟩ := (hT.below hb).at hlt
   cases hao
   have HS := hid (frs_take hlt HNO.out)
   have HH : Hid (decide (l[k].2 = a) = true → l.any (fun p => decide (p.2 = a)) = true) := hid (fun h => List.any_eq_true.2 ⟨_, List.getElem_mem hlt, h⟩)
   have CF := hid (offrom1_any l[k].1 l[k].2 a q wr (HQ.out _ hb))
   generalize l[k] = z at *
   obtain ⟨y, f⟩ := z
   simp only at c0 c1 HS HH CF
   by_cases hf : f = a
   ·have HD : Hid (l.any (fun p => decide (p.2 = a)) = true) := hid (HH.out (decide_eq_true hf))
    rw [decide_eq_true hf] at CF
    clear hf HH HS
    go_wp2_with (go_at_call 62; refine (CF.out).mono ?_; rintro e w6 ⟨rfl, hb6⟩)
    have hbb := hb.trans (hb6.mono hb.size)
    go_ret
    exact ⟨_, rfl, by rw [HD.out]; exact decide_eq_true (by omega), hbb⟩
   ·have HD : Hid ((l.take (k + 1)).any (fun p => decide (p.2 = a)) = false) := hid (by rw [HS.out]; exact decide_eq_false hf)
    rw [decide_eq_false hf] at CF
    clear hf HH HS
    go_wp2_with (go_at_call 62; refine (CF.out).mono ?_; rintro e w6 ⟨rfl, hb6⟩)
    have hbb := hb.trans (hb6.mono hb.size)
    go_roundw
    case rel => exact ⟨k + 1, by omega, by go_num, HD.out, hbb⟩
    case measure => simp [intOf]; omega
  ·have hkl : k = l.length := by omega
   subst hkl
   have HD : Hid (l.any (fun p => decide (p.2 = a)) = false) := hid (by have h := HNO.out; rwa [List.take_length] at h)
   go_wp2_with fail
   go_ret
   exact ⟨_, rfl, by rw [HD.out]; rfl, hb⟩
end

section
open Go.RowKit
theorem ofcontains_any (va : Value) (l : List (Int × Int)) (a : Int) (q : Nat) (w : World) (hT : Frs w va l) (hq : w.cell? ⟨q, 0, none⟩ = some (.int .i64 a)) :
  Calls Tryz.prog 61 #[va, .func (.func 62) #[] #[.pointer (some ⟨q, 0, none⟩)]] w fun e w' => e = .returned (.bool (l.any (fun p => decide (p.2 = a)))) ∧ Below w.heap.size w w' := by
 have CI := hid (ofindex_any va l a q w hT hq)
 obtain ⟨ao, cap, rfl, hal⟩ := hT.form
 clear hT hq
 generalize l.any (fun p => decide (p.2 = a)) = B at *
 go_enter Tryz.func61, Tryz.ntmps61
 go_wp2_with fail
 refine (CI.out).mono ?_
 rintro e w6 ⟨r, rfl, hr, hb6⟩
 go_wp2_with fail
 go_ret
 exact ⟨by subst hr; rfl, hb6⟩
def FRws (w : World) (v : Value) (K : List (Value × List (Int × Int))) : Prop := Row w v K.length 1 (K.map (·.1)) ∧ ∀ p ∈ K, Frs w p.1 p.2
theorem FRws.below {w w' : World} {v : Value} {K : List (Value × List (Int × Int))} (h : FRws w v K) (hb : Below w.heap.size w w') : FRws w' v K := ⟨Row.below h.1 hb, fun p hp => (h.2 p hp).below hb⟩
theorem FRws.form {w : World} {v : Value} {K : List (Value × List (Int × Int))} (h : FRws w v K) : ∃ ao cap, v = .slice ao K.length cap := by
 obtain ⟨⟨_, ao, cap, rfl, _⟩, _⟩ := h
 exact ⟨ao, cap, rfl⟩
theorem FRws.at {w : World} {ao : Option Addr} {n cap : Nat} {K : List (Value × List (Int × Int))} (h : FRws w (.slice ao n cap) K) {k : Nat} (hk : k < K.length) :
  ∃ b off, ao = some ⟨b, off, none⟩ ∧ w.cell? ⟨b, off + k, none⟩ = some K[k].1 ∧ Frs w K[k].1 K[k].2 := by
 obtain ⟨⟨_, ao', cap', he, hm, _, hc⟩, hi⟩ := h
 obtain ⟨rfl, _, _⟩ : ao = ao' ∧ n = K.length ∧ cap = cap' := by simpa using he
 obtain ⟨b, off, rfl, hcell⟩ := hc (by omega)
 exact ⟨b, off, rfl, by rw [hcell k (by omega)]; simp [List.getElem?_eq_getElem hk], hi _ (List.getElem_mem hk)⟩
theorem offrom_any (vr : Value) (K : List (Value × List (Int × Int))) (a b : Nat) (p ob : Nat) (w : World) (hp : w.cell? ⟨p, 0, none⟩ = some (.pointer (some ⟨ob, 0, none⟩))) (hr : w.cell? ⟨ob, 195, none⟩ = some vr) (hT : FRws w vr K) (hb : b < K.length) :
  Calls Tryz.prog 60 #[.int .i64 a, .int .i64 b, .pointer (some ⟨p, 0, none⟩)] w fun e w' => e = .returned (.bool (K[b].2.any (fun r => decide (r.2 = (a : Int))))) ∧ Below w.heap.size w w' := by
 obtain ⟨ao, cap, rfl⟩ := hT.form
 have hbi : (b : Int) < (K.length : Int) := by omega
 have hb0 := box_below w (.cells #[.int .i64 a] 3)
 have hp0 := (hb0.cell (p := ⟨p, 0, none⟩) (block_lt hp)).trans hp
 have hr0 := (hb0.cell (p := ⟨ob, 195, none⟩) (block_lt hr)).trans hr
 have hq0 : (w.alloc (.cells #[.int .i64 a] 3)).cell? ⟨w.heap.size, 0, none⟩ = some (.int .i64 a) := by rw [cell_of_row _ _ 0 _ _ _ (heap_alloc_new w _)]; rfl
 obtain ⟨g, o, hao, c0, hF⟩ := (hT.below hb0).at hb
 cases hao
 have CC := hid (ofcontains_any _ _ (a : Int) w.heap.size _ hF hq0)
 obtain ⟨aq, capq, hqv, hql⟩ := hF.form
 rw [hqv] at c0 CC
 have hmf : ∀ (fn : Fn) (first cap : Array Value) (w : World), (Instr.makeFunc fn first cap).run Tryz.prog w = .ok (.func fn first cap) w := fun _ _ _ _ => rfl
 generalize K[b].2.any (fun r => decide (r.2 = (a : Int))) = B at *
 generalize K[b].2.length = m at *
 clear hT hF hqv hp hr
 go_enter Tryz.func60, Tryz.ntmps60
 go_wp2_with fail
 refine (CC.out).mono ?_
 rintro e w6 ⟨rfl, hb6⟩
 have hbb := below_then hb0 hb6
 go_wp2_with fail
 go_ret
 exact ⟨rfl, hbb⟩
end

section
open Go.RowKit
def Rws (w : World) (v : Value) (K : List (Value × List Int)) : Prop := Row w v K.length 1 (K.map (·.1)) ∧ ∀ p ∈ K, Ints w p.1 p.2
theorem Rws.below {w w' : World} {v : Value} {K : List (Value × List Int)} (h : Rws w v K) (hb : Below w.heap.size w w') : Rws w' v K := ⟨Row.below h.1 hb, fun p hp => (h.2 p hp).below hb⟩
theorem Rws.form {w : World} {v : Value} {K : List (Value × List Int)} (h : Rws w v K) : ∃ ao cap, v = .slice ao K.length cap := by
 obtain ⟨⟨_, ao, cap, rfl, _⟩, _⟩ := h
 exact ⟨ao, cap, rfl⟩
theorem Rws.at {w : World} {ao : Option Addr} {n cap : Nat} {K : List (Value × List Int)} (h : Rws w (.slice ao n cap) K) {k : Nat} (hk : k < K.length) :
  ∃ b off, ao = some ⟨b, off, none⟩ ∧ w.cell? ⟨b, off + k, none⟩ = some K[k].1 ∧ Ints w K[k].1 K[k].2 := by
 obtain ⟨⟨_, ao', cap', he, hm, _, hc⟩, hi⟩ := h
 obtain ⟨rfl, _, _⟩ : ao = ao' ∧ n = K.length ∧ cap = cap' := by simpa using he
 obtain ⟨b, off, rfl, hcell⟩ := hc (by omega)
 exact ⟨b, off, rfl, by rw [hcell k (by omega)]; simp [List.getElem?_eq_getElem hk], hi _ (List.getElem_mem hk)⟩
def eS (s : Nat) : Value := .int .u64 (s : Int)
def wrsRow (i : Nat) (F : Int → Option Nat) (xs : List Int) : Int → Option Nat := xs.foldl (fun F x => putF F x (withS ((F x).getD 0) i)) F
def wrsTo (K : List (Value × List Int)) : Nat → Int → Option Nat
 | 0 => fun _ => none
 | k + 1 => wrsRow k (wrsTo K k) ((K[k]?.map (·.2)).getD [])
theorem wrsRow_snoc (i : Nat) (F : Int → Option Nat) (xs : List Int) (k : Nat) (hk : k < xs.length) : wrsRow i F (xs.take (k + 1)) = putF (wrsRow i F (xs.take k)) xs[k] (withS ((wrsRow i F (xs.take k) xs[k]).getD 0) i) := by
 unfold wrsRow; rw [List.take_succ_eq_append_getElem hk, List.foldl_append]; rfl
theorem wrsTo_succ {K : List (Value × List Int)} {k : Nat} (hk : k < K.length) : wrsTo K (k + 1) = wrsRow k (wrsTo K k) K[k].2 := by
 show wrsRow k (wrsTo K k) _ = _
 rw [List.getElem?_eq_getElem hk]; rfl
def AllSet (F : Int → Option Nat) : Prop := ∀ x, IsSet ((F x).getD 0)
theorem AllSet.put {F : Int → Option Nat} (h : AllSet F) (x : Int) {s : Nat} (hs : IsSet s) : AllSet (putF F x s) := fun y => by
 by_cases e : y = x
 ·rw [e, putF_same]; exact hs
 ·rw [putF_other F s e]; exact h y
theorem mapIS : Tryz.prog.underlying 109 = some (.map 3 106) := Tryz.underlying109
theorem zeroS (w : World) : (zeroValue 106).run Tryz.prog w = .ok (eS 0) w := by kernel_rfl
theorem owriters_any (v : Value) (K : List (Value × List Int)) (w : World) (hK : Rws w v K) (hlen : K.length ≤ 100) (hrow : ∀ p ∈ K, p.2.length ≤ 100000) (hint : ∀ p ∈ K, ∀ x ∈ p.2, InI x) :
  Calls Tryz.prog 56 #[v] w fun e w' => ∃ b n c, e = .returned (.map (some b)) ∧ w.heap.size ≤ b ∧ MapI eS Tryz.prog 3 w' b n (wrsTo K K.length) c ∧ AllSet (wrsTo K K.length) ∧ Below w.heap.size w w' := by
 obtain ⟨ao, cap, rfl⟩ := hK.form
 have HR := hid hrow
 have HI := hid hint
 clear hrow hint
 have hm0 := MapI.made eS Tryz.prog 3 w
 have hb1 := (Below.refl w.heap.size w).alloc (Nat.le_refl _) (.map #[] 0)
 have hmm := @run_makeMap Tryz.prog
 go_enter Tryz.func56, Tryz.ntmps56
 go_wp2_with fail
 go_loopw [11] (fun i wr => ∃ k n c : Nat, k ≤ K.length ∧ i = .int .i64 k ∧ n ≤ 100000 * k ∧ AllSet (wrsTo K k) ∧ MapI eS Tryz.prog 3 wr w.heap.size n (wrsTo K k) c ∧ Below w.heap.size w wr) (fun i _ => K.length - (intOf i).toNat)
 case atStart => exact ⟨0, 0, 0, by omega, rfl, by omega, fun _ => (show IsSet 0 from by unfold IsSet; omega), hm0, hb1⟩
 case round =>
  obtain ⟨k, n, c, hk, rfl, hnn, hA, hM, hb⟩ := hrel
  clear hm0 hb1
  by_cases hlt : k < K.length
  ·have hki : (k : Int) < (K.length : Int) := by omega
   have hKr := hK.below hb
   obtain ⟨g, o, hao, c0, hin⟩ := hKr.at hlt
   cases hao
   have HS := hid (wrsTo_succ hlt)
   have hrl := HR.out K[k] (List.getElem_mem hlt)
   have HIK := hid (HI.out K[k] (List.getElem_mem hlt))
   have HIN := hid (fun wx (hx : Below w.heap.size w wx) => (hK.2 K[k] (List.getElem_mem hlt)).below hx)
   generalize K[k] = q at *
   obtain ⟨qv, xs⟩ := q
   simp only at c0 hin HS hrl HIK HIN
   obtain ⟨ax, cx, rfl, hxl⟩ := hin.form
   generalize wrsTo K k = F at *
   clear hKr hin
   go_wp2_with fail
   go_loopw [18] (fun i wx => ∃ j m d : Nat, j ≤ xs.length ∧ i = .int .i64 j ∧ m ≤ 100000 * k + j ∧ AllSet (wrsRow k F (xs.take j)) ∧ MapI eS Tryz.prog 3 wx w.heap.size m (wrsRow k F (xs.take j)) d ∧ Below w.heap.size w wx) (fun i _ => xs.length - (intOf i).toNat)
   case atStart => exact ⟨0, n, c, by omega, rfl, by omega, hA, hM, hb⟩
   case round =>
    obtain ⟨j, m, d, hj, rfl, hmm2, hA2, hM2, hb2⟩ := hrel
    clear hA hM
    by_cases hltj : j < xs.length
    ·have hkj : (j : Int) < (xs.length : Int) := by omega
     obtain ⟨g2, o2, hao2, e0⟩ := (HIN.out _ hb2).at hltj
     cases hao2
     have HSJ := hid (wrsRow_snoc k F xs j hltj)
     have hkv := HIK.out xs[j] (List.getElem_mem hltj)
     have hset := hA2 xs[j]
     have HAN := hid (hA2.put xs[j] (isSet_withS (n := (k : Int)) hset))
     generalize xs[j] = x at *
     generalize wrsRow k F (xs.take j) = G at *
     have CW := hid (fun wx => with_any ((G x).getD 0) (k : Int) wx hset)
     clear hset hA2
     go_wp2_with (first
      | (at_lookup; refine wpList_lookI _ rfl _ _ 109 rfl 3 106 keyI mapIS 0 (zeroS _) _ _ _ _ rfl hM2 _ rfl hkv ?_; simp only [eS])
      | (go_at_call 106; refine (CW.out _).mono ?_; rintro e w' ⟨rfl, rfl⟩)
      | (at_mapUpdate; refine wpList_putI _ rfl _ _ _ 109 rfl 3 106 keyI mapIS _ _ _ _ rfl hM2 (by unfold maxLen; omega) _ rfl hkv (withS ((G x).getD 0) (k : Int)) rfl ?_; intro w5 hM5 hg5; go_frame))
     have hb5 := hb2.grown hg5 hb2.size (fun q hq => by cases hq; exact Nat.le_refl _)
     clear hM2 hb2 hg5
     go_wp2_with fail
     go_roundw
     case rel => exact ⟨j + 1, m + 1, _, by omega, by go_num, by omega, by rw [HSJ.out]; exact HAN.out, by rw [HSJ.out]; exact hM5, hb5⟩
     case measure => simp [intOf]; omega
    ·have hj2 : j = xs.length := by omega
     subst hj2
     rw [List.take_length] at hA2 hM2
     go_wp2_with fail
     go_roundw
     case rel => exact ⟨k + 1, m, d, by omega, by go_num, by omega, by rw [HS.out]; exact hA2, by rw [HS.out]; exact hM2, hb2⟩
     case measure => simp [intOf]; omega
  ·have hkl : k = K.length := by omega
   subst hkl
   go_wp2_with fail
   go_ret
   exact ⟨_, _, _, rfl, Nat.le_refl _, hM, hA, hb⟩
end

end Go.Proofs.YtnhkjehfmbfmmaaGreatDoor
