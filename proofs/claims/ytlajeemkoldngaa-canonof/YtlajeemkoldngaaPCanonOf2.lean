/- Walks and plain facts that the proof of the statement CanonOf uses, joined: CanA TblB TblC CanB CanC CanD CanE CanF CanG HisW HisY OrdAG CanH CanJ VecA VecB VecC VecD TblM VecE VecF VecG VecH LevD TblD TblE TblF TblG TblJ TblH TblK VecJ VecK CanK CroA BoxN. Conditions: each theorem's own. -/
import Derived.Shelf.SortM.Plain
import Derived.Deep.MidRow
import Derived.ChangeKeysEq
import Derived.Outline
import Derived.Laws.BitsAllLaws
import Derived.Deep.RegionLaw
import Derived.Deep.AppendLies
import Derived.RangeFuncBox
import Derived.Test.YtlajeemkoldngaaPCanonOf0
import Derived.Test.YtlajeemkoldngaaPCanonOf1
namespace Go.Proofs.Ytlajeemkoldngaa
set_option maxHeartbeats 32000000
set_option maxRecDepth 100000
open Lib (hid)
section
open Go.RowKit Go.Lib Go.Sort Go.Shelf
structure TxS where
 s : Int
 b : Int
 c : Int
 ao : Option Addr
 n : Nat
 cp : Nat
 l : List OpV
instance : Inhabited TxS := ⟨⟨0, 0, 0, none, 0, 0, []⟩⟩
def TxS.t (x : TxS) : TxnV := ⟨x.s, x.b, x.c, .slice x.ao x.n x.cp, x.l⟩
def encT (x : TxS) : List Value := [.int .i64 x.s, .int .i64 x.b, .int .i64 x.c, .slice x.ao x.n x.cp]
def cmpT (x y : TxS) : Int := compareInt x.b y.b
theorem cmpT_lt (x y : TxS) : ltOf cmpT x y = decide (x.b < y.b) := by
 unfold ltOf cmpT compareInt
 by_cases h1 : x.b < y.b
 ·simp [h1]
 ·by_cases h2 : y.b < x.b <;> simp [h1, h2]
theorem cmpT_swo : SWO (ltOf cmpT) where
 irrefl x := by rw [cmpT_lt]; simp
 trans x y z h1 h2 := by rw [cmpT_lt] at *; simp at *; omega
 ntrans x y z h1 h2 := by rw [cmpT_lt] at *; simp at *; omega
theorem txS_of : ∀ {h : List TxnV}, (∀ t ∈ h, ∃ ao n cp, t.v = .slice ao n cp) → ∃ l : List TxS, l.map TxS.t = h
 | [], _ => ⟨[], rfl⟩
 | t :: h, q => by
  obtain ⟨l, hl⟩ := txS_of fun u hu => q u (List.mem_cons_of_mem _ hu)
  obtain ⟨ao, n, cp, e⟩ := q t (List.mem_cons_self ..)
  refine ⟨⟨t.s, t.b, t.c, ao, n, cp, t.l⟩ :: l, ?_⟩
  rw [List.map_cons, hl]
  congr 1
  show (⟨t.s, t.b, t.c, .slice ao n cp, t.l⟩ : TxnV) = t
  rw [← e]
theorem cclosure_any (x y : TxS) (w : World) : Calls Try.prog 42 #[.agg #[.int .i64 x.s, .int .i64 x.b, .int .i64 x.c, .slice x.ao x.n x.cp], .agg #[.int .i64 y.s, .int .i64 y.b, .int .i64 y.c, .slice y.ao y.n y.cp]] w fun e w' => e = .returned (.int .i64 (cmpT x y)) ∧ ∃ q os', w' = grow (w.drewN q) os' := by
 obtain ⟨xs, xb, xc, xa, xn, xp, xl⟩ := x
 obtain ⟨ys, yb, yc, ya, yn, yp, yl⟩ := y
 have CC := fun w => hid (compare_any xb yb w)
 show Calls _ _ _ _ fun e w' => e = .returned (.int .i64 (compareInt xb yb)) ∧ _
 generalize compareInt xb yb = r at *
 go_enter Try.func42, Try.ntmps42
 go_wp2_with fail
 refine ((CC _).out).mono ?_
 rintro e w' ⟨rfl, rfl⟩
 go_wp2_with fail
 go_ret
 exact ⟨rfl, 0, _, by rw [alloc_eq_grow, alloc_eq_grow, grow_grow]; rfl⟩
theorem csort_any (blk off cap : Nat) (d : Array TxS) (w : World) (hH : HoldsK encT 4 w blk off d) (hblk : blk < w.heap.size) (hsz : d.size < 4611686018427387904) :
  Calls Try.prog 41 #[.slice (some ⟨blk, off, none⟩) d.size cap, .func (.func 42) #[] #[]] w fun e w' => e = .returned (.tuple #[]) ∧ ∃ d' n os, PermIn 0 d.size d d' ∧ SortedIn (ltOf cmpT) 0 d.size d' ∧ w' = sortWorldK encT 4 w blk off n d' os := by
 have eg : ∀ args w, (callFunc 42 args).run Try.prog w = .ok (.enter 42 args) w := enters_of Try.func42 (by kernel_rfl) rfl
 exact AnyQ.slices_SortFunc Try.sortTxn 4 Try.isAgg41 Try.sizeOf41 encT (fun _ => rfl) (fun x v hv => by simp [encT] at hv; rcases hv with rfl | rfl | rfl | rfl <;> rfl) cmpT cmpT_swo 42 #[] blk off cap d w eg (fun _ _ _ _ x y => cclosure_any x y _) hH hblk hsz
theorem tinsNone (p : Option Addr) (cap : Nat) (fv : Value) (w : World) : Calls Try.prog 69 #[.slice p 0 cap, .int .i64 0, .int .i64 0, fv] w fun e w' => e = .returned (.tuple #[]) ∧ w = w' := by
 go_enter Try.func69, Try.ntmps69
 go_wp2_with fail
 refine wp_loop_rounds 1 ?_
 rw [rounds_succ]
 go_wp2_with fail
 go_end0
 exact ⟨rfl, rfl⟩
theorem tpdqNone (p : Option Addr) (cap : Nat) (lim : Int) (fv : Value) (w : World) : Calls Try.prog 59 #[.slice p 0 cap, .int .i64 0, .int .i64 0, .int .i64 lim, fv] w fun e w' => e = .returned (.tuple #[]) ∧ w = w' := by
 have CI := hid (fun w => tinsNone p cap fv w)
 go_enter Try.func59, Try.ntmps59
 go_wp2_with fail
 refine wp_loop_rounds 1 ?_
 rw [rounds_succ]
 go_wp2_with fail
 refine (CI.out _).mono ?_
 rintro e w' ⟨rfl, rfl⟩
 go_wp2_with fail
 (try simp only [Exit.inBlock, Exit.then]); refine bodyPost_ret (results_none rfl _ _ _) rfl ?_
 exact ⟨rfl, rfl⟩
theorem tsort_none (p : Option Addr) (cap : Nat) (fv : Value) (w : World) : Calls Try.prog 41 #[.slice p 0 cap, fv] w fun e w' => e = .returned (.tuple #[]) ∧ w = w' := by
 have CP := hid (fun lim w => tpdqNone p cap lim fv w)
 have hl : ∀ W, Calls Try.prog 60 #[.int .u64 0] W fun e w' => e = .returned (.int .i64 (Lib.bitLen 0 : Nat)) ∧ w' = W := fun W =>
  Any.bits_Len (SlLaysF0.n15.bits (P := Try.prog) (ρ := Try.sortTxn_ren) { Try.sortTxn with }) 0 W (by omega) (by omega)
 have CL := hid hl
 clear hl
 go_enter Try.func41, Try.ntmps41
 go_wp2_with fail
 refine (CL.out _).mono ?_
 rintro e w' ⟨rfl, rfl⟩
 go_wp2_with fail
 refine (CP.out _ _).mono ?_
 rintro e w' ⟨rfl, rfl⟩
 go_wp2_with fail
 go_end0
 exact ⟨rfl, rfl⟩
theorem flat_txV (l : List TxS) : flatK encT 4 l.toArray = (txV (l.map TxS.t)).toArray := by
 apply Array.ext
 ·simp [txV_len]
 ·intro t h1 h2
  have ht : t < l.length * 4 := by simpa using h1
  have hk : t / 4 < l.length := by omega
  have hk2 : t / 4 < (l.map TxS.t).length := by simpa using hk
  obtain ⟨e0, e1, e2, e3⟩ := txV_at (l.map TxS.t) (t / 4) hk2
  rw [List.getElem_map] at e0 e1 e2 e3
  have hx : l.toArray[t / 4]! = l[t / 4] := by simp [hk]
  have h3 : (flatK encT 4 l.toArray)[t]! = (encT l[t / 4])[t % 4]! := by rw [get_flatK _ _ _ t (by simpa using ht), hx]
  rw [← getElem!_pos _ t h1, h3]
  have hm3 : t % 4 = 0 ∨ t % 4 = 1 ∨ t % 4 = 2 ∨ t % 4 = 3 := by omega
  have hr : ∀ x, (txV (l.map TxS.t))[t]? = some x → (txV (l.map TxS.t)).toArray[t] = x := fun x hx => by
   have := List.getElem?_eq_some_iff.1 hx
   simpa using this.2
  rcases hm3 with h | h | h | h
  ·rw [hr _ (by rw [show t = t / 4 * 4 from by omega]; exact e0), h]; rfl
  ·rw [hr _ (by rw [show t = t / 4 * 4 + 1 from by omega]; exact e1), h]; rfl
  ·rw [hr _ (by rw [show t = t / 4 * 4 + 2 from by omega]; exact e2), h]; rfl
  ·rw [hr _ (by rw [show t = t / 4 * 4 + 3 from by omega]; exact e3), h]; rfl
theorem town_sorted {w : World} {base g cap n : Nat} {os : Array Obj} {l ts : List TxS} (hl : ts.length = l.length) (h : OwnT w base (.slice (some ⟨g, 0, none⟩) l.length cap) (l.map TxS.t)) :
  OwnT (sortWorldK encT 4 w g 0 n ts.toArray os) base (.slice (some ⟨g, 0, none⟩) l.length cap) (ts.map TxS.t) ∧ w.grownBy (sortWorldK encT 4 w g 0 n ts.toArray os) (some g) := by
 unfold OwnT at h
 rw [List.length_map] at h
 obtain ⟨h1, h2⟩ := h
 rcases h2 with ⟨h2, _⟩ | ⟨g', cap', cur, e1, e2, hb, e3, e4, e5, e6⟩
 ·cases h2
 cases e1
 have hg : g < w.heap.size := (Array.getElem?_eq_some_iff.1 hb).1
 have ew : sortWorldK encT 4 w g 0 n ts.toArray os = grow (putRow id (Sort.ahead w n) g 0 (txV (ts.map TxS.t)).toArray) os := by
  unfold sortWorldK putRowK; rw [flat_txV]
 rw [ew]
 have hh : (grow (putRow id (Sort.ahead w n) g 0 (txV (ts.map TxS.t)).toArray) os).heap[g]? = some (.cells (putCells id 0 (txV (ts.map TxS.t)).toArray cur) 41 (0, 0)) := by
  rw [heap_grown (by simpa using hg)]
  simp [putRow, mapBlock, Sort.ahead, Array.getElem?_modify, hb, onCells]
 refine ⟨⟨by rw [txV_len], .inr ⟨g, cap, _, by rw [List.length_map, hl], e2, hh, by rw [List.length_map]; omega, e4, by simp [putCells, e5], ?_⟩⟩, rfl, rfl, rfl, by simp, fun k hk hne => ?_⟩
 ·have := take_put cur (txV (ts.map TxS.t)) (by rw [txV_len, List.length_map]; omega)
  rwa [txV_len] at this
 ·rw [heap_grown (by simpa using hk)]
  have : g ≠ k := fun e => hne (by rw [e])
  simp [putRow, mapBlock, Sort.ahead, Array.getElem?_modify, this]
theorem town_holds {w : World} {base g cap : Nat} {l : List TxS} (h : OwnT w base (.slice (some ⟨g, 0, none⟩) l.length cap) (l.map TxS.t)) : HoldsK encT 4 w g 0 l.toArray ∧ g < w.heap.size ∧ base ≤ g := by
 unfold OwnT at h
 rw [List.length_map] at h
 obtain ⟨h1, h2⟩ := h
 rcases h2 with ⟨h2, _⟩ | ⟨g', cap', cur, e1, e2, hb, e3, e4, e5, e6⟩
 ·cases h2
 cases e1
 refine ⟨?_, (Array.getElem?_eq_some_iff.1 hb).1, e2⟩
 show Holds id w g 0 _
 rw [flat_txV]
 exact holds_cells hb (by rw [txV_len, List.length_map]; exact e6)
theorem tsort_own (base : Nat) (v : Value) (h : List TxnV) (w : World) (hO : OwnT w base v h) (hv : ∀ t ∈ h, ∃ ao n cp, t.v = .slice ao n cp) (hn : (h.map (·.b)).Nodup) (hl : h.length ≤ 100000) :
  Calls Try.prog 41 #[v, .func (.func 42) #[] #[]] w fun e w' => e = .returned (.tuple #[]) ∧ ∃ s, IsSrt h s ∧ OwnT w' base v s ∧ w.grownBy w' v.ownBlock := by
 rcases hO.split with ⟨rfl, rfl⟩ | ⟨g, cap, rfl, hg⟩
 ·refine (tsort_none none 0 _ w).mono ?_
  rintro e w' ⟨rfl, rfl⟩
  exact ⟨rfl, [], ⟨List.Perm.refl _, List.Pairwise.nil⟩, hO, ⟨rfl, rfl, rfl, Nat.le_refl _, fun _ _ _ => rfl⟩⟩
 ·obtain ⟨l, rfl⟩ := txS_of hv
  rw [List.length_map] at *
  obtain ⟨hH, hgl, _⟩ := town_holds hO
  have hsz : l.toArray.size = l.length := by simp
  have C := csort_any g 0 cap l.toArray w hH hgl (by rw [hsz]; omega)
  rw [hsz] at C
  refine C.mono ?_
  rintro e w' ⟨rfl, d', n, os, ⟨hs1, _, hperm⟩, hs, rfl⟩
  have hs1 : d'.size = l.length := by rw [hs1]; simp
  have hp2 : d'.toList.Perm l := by
   rw [← hs1] at hperm
   rw [extract_all] at hperm
   rw [show (l.toArray.extract 0 d'.size).toList = l from by rw [hs1]; simp] at hperm
   exact hperm
  obtain ⟨q1, q2⟩ := town_sorted (n := n) (os := os) (ts := d'.toList) hp2.length_eq hO
  refine ⟨rfl, d'.toList.map TxS.t, ⟨hp2.map _, ?_⟩, q1, q2⟩
  have hnd : ((d'.toList.map TxS.t).map (·.b)).Nodup := ((hp2.map TxS.t).map (·.b)).nodup_iff.2 hn
  rw [List.nodup_iff_pairwise_ne, List.pairwise_map, List.pairwise_map] at hnd
  rw [List.pairwise_map, List.pairwise_iff_getElem]
  rw [List.pairwise_iff_getElem] at hnd
  intro i j hi hj hij
  have h1 := hnd i j hi hj hij
  have hj' : j < d'.size := by simpa using hj
  have hi' : i < d'.size := by simpa using hi
  have h2 := hs i j (Nat.zero_le _) hij (by rw [← hs1]; exact hj')
  rw [cmpT_lt, getElem!_pos d' i hi', getElem!_pos d' j hj'] at h2
  have h3 : ¬ d'[j].b < d'[i].b := by simpa using h2
  simp only [Array.getElem_toList] at h1 ⊢
  have h1 : d'[i].b ≠ d'[j].b := h1
  show d'[i].b < d'[j].b
  omega
end

section
open Go.RowKit
theorem below_app0 {B B' : Nat} {W wr w1 : World} {o : Obj} {e : TypeId} {n size : Nat} {v : Value} {xs : List Value} (hb : Below B W wr) (hB : B ≤ W.heap.size) (hown : wr.ownsRow B' e size v n xs) (hBB : B ≤ B')
  (hg : (wr.alloc o).grownBy w1 v.ownBlock) : Below B W w1 :=
 (hb.alloc (Nat.le_trans hB hb.size) o).grown hg (by have := hb.size; simp; omega) fun k hk => Nat.le_trans hBB (hown.lt k hk).1
theorem infoIntL : (Try.prog.info? 3).map (fun i => (i.zero, i.size, i.bytes)) = some (some (.int .i64 0), 1, 8) := by kernel_rfl
end

section
open Go.RowKit Go.Lib Go.Sort Go.Shelf
theorem holdsI {w : World} {g : Nat} {cur : Array Value} {e : TypeId} {l : List Int} (hb : w.heap[g]? = some (.cells cur e (0, 0))) (ht : cur.toList.take l.length = l.map (Value.int .i64)) : Holds (Value.int .i64) w g 0 l.toArray := by
 intro j hj
 have hj' : j < l.length := by simpa using hj
 refine ⟨?_, by simp [World.frozen?, hb]⟩
 have h1 : (cur.toList.take l.length)[j]? = (l.map (Value.int .i64))[j]? := by rw [ht]
 rw [List.getElem?_take_of_lt hj'] at h1
 simp only [World.cell?, hb, Nat.zero_add]
 simp only [Option.isSome_none, Bool.false_eq_true, if_false]
 rw [← Array.getElem?_toList, h1]
 simp [hj']
theorem take_putI (cur : Array Value) (l : List Int) (h : l.length ≤ cur.size) : (putCells (Value.int .i64) 0 l.toArray cur).toList.take l.length = l.map (Value.int .i64) := by
 apply List.ext_getElem?
 intro j
 by_cases hj : j < l.length
 ·rw [List.getElem?_take_of_lt hj, Array.getElem?_toList]
  simp [putCells, hj, show j < cur.size by omega]
 ·rw [List.getElem?_take_eq_none (by omega), List.getElem?_eq_none (by simp; omega)]
theorem isorted {w : World} {base g cap n : Nat} {os : Array Obj} {l ts : List Int} (hl : ts.length = l.length) (h : w.ownsRow base 3 1 (.slice (some ⟨g, 0, none⟩) l.length cap) l.length (l.map (Value.int .i64))) :
  (grow (putRow (Value.int .i64) (Sort.ahead w n) g 0 ts.toArray) os).ownsRow base 3 1 (.slice (some ⟨g, 0, none⟩) l.length cap) l.length (ts.map (Value.int .i64)) ∧ w.grownBy (grow (putRow (Value.int .i64) (Sort.ahead w n) g 0 ts.toArray) os) (some g) := by
 obtain ⟨h1, h2⟩ := h
 rcases h2 with ⟨h2, _⟩ | ⟨g', cap', cur, e1, e2, hb, e3, e4, e5, e6⟩
 ·cases h2
 cases e1
 have hg : g < w.heap.size := (Array.getElem?_eq_some_iff.1 hb).1
 have hh : (grow (putRow (Value.int .i64) (Sort.ahead w n) g 0 ts.toArray) os).heap[g]? = some (.cells (putCells (Value.int .i64) 0 ts.toArray cur) 3 (0, 0)) := by
  rw [heap_grown (by simpa using hg)]
  simp [putRow, mapBlock, Sort.ahead, Array.getElem?_modify, hb, onCells]
 refine ⟨⟨by simp [hl], .inr ⟨g, cap, _, rfl, e2, hh, by omega, e4, by simp [putCells, e5], ?_⟩⟩, rfl, rfl, rfl, by simp, fun k hk hne => ?_⟩
 ·have := take_putI cur ts (by omega)
  rw [hl] at this
  simpa using this
 ·rw [heap_grown (by simpa using hk)]
  have : g ≠ k := fun e => hne (by rw [e])
  simp [putRow, mapBlock, Sort.ahead, Array.getElem?_modify, this]
theorem isort_own (base : Nat) (v : Value) (l : List Int) (w : World) (hO : w.ownsRow base 3 1 v l.length (l.map (Value.int .i64))) (hl : l.length ≤ 1000000) :
  Calls Try.prog 62 #[v] w fun e w' => e = .returned (.tuple #[]) ∧ w'.ownsRow base 3 1 v l.length ((l.mergeSort fun x y => decide (x ≤ y)).map (Value.int .i64)) ∧ w.grownBy w' v.ownBlock := by
 have hO2 := hO
 obtain ⟨h1, h2⟩ := hO2
 rcases h2 with ⟨rfl, h2⟩ | ⟨g, cap, cur, rfl, e2, hb, e3, e4, e5, e6⟩
 ·have hl0 : l.length = 0 := by simpa using h2
  have : l = [] := List.eq_nil_of_length_eq_zero hl0
  subst this
  refine (AnyM.slices_Sort_int_none Try.sortInt none 0 w).mono ?_
  rintro e w' ⟨rfl, rfl⟩
  refine ⟨rfl, ?_, rfl, rfl, rfl, Nat.le_refl _, fun _ _ _ => rfl⟩
  simpa using hO
 ·refine (AnyM.slices_Sort_int Try.sortInt g 0 cap l w (holdsI hb (by simpa using e6)) (Array.getElem?_eq_some_iff.1 hb).1 (by omega)).mono ?_
  rintro e w' ⟨rfl, n, os, rfl⟩
  obtain ⟨q1, q2⟩ := isorted (n := n) (os := os) (ts := l.mergeSort fun x y => decide (x ≤ y)) (by simp) hO
  exact ⟨rfl, q1, q2⟩
def nameF (L : List Int) : Int → Option Int := fun x => if x ∈ L then some ((posL L x : Nat) : Int) else none
theorem nameF_yes {L : List Int} {x : Int} (h : x ∈ L) : nameF L x = some ((posL L x : Nat) : Int) := if_pos h
theorem nameF_no {L : List Int} {x : Int} (h : x ∉ L) : nameF L x = none := if_neg h
theorem nameF_put {L : List Int} {x : Int} (h : x ∉ L) : putF (nameF L) x (L.length : Int) = nameF (L ++ [x]) := by
 funext y
 unfold putF nameF
 have hp : L <+: L ++ [x] := List.prefix_append _ _
 by_cases e : y = x
 ·subst e
  rw [if_pos rfl, if_pos (by simp)]
  have : posL (L ++ [y]) y = L.length := by
   have h1 := posL_add L y
   unfold addN at h1
   rw [if_neg h] at h1
   rw [h1, posL_new h]
  rw [this]
 ·rw [if_neg e]
  by_cases e2 : y ∈ L
  ·rw [if_pos e2, if_pos (List.mem_append.2 (.inl e2)), posL_prefix hp e2]
  ·rw [if_neg e2, if_neg (by simp [e2, e])]
theorem mapNames : Try.prog.underlying 68 = some (.map 3 3) := Try.underlying68
theorem cof_any (b n : Nat) (L : List Int) (x : Int) (w : World) (hM : MapI eI Try.prog 3 w b n (nameF L) L.length) (hn : n ≤ 1000000) (hx : InI x) :
  Calls Try.prog 45 #[.map (some b), .int .i64 x] w fun e w' => e = .returned (.int .i64 ((posL L x : Nat) : Int)) ∧ MapI eI Try.prog 3 w' b (n + 1) (nameF (addN L x)) (addN L x).length ∧ w.grownBy w' (some b) := by
 by_cases hin : x ∈ L
 ·have hv := nameF_yes hin
  have HA : Hid (addN L x = L) := hid (by unfold addN; rw [if_pos hin])
  have HM := hid (hM.mono (Nat.le_succ n))
  generalize posL L x = p at *
  clear hin
  go_enter Try.func45, Try.ntmps45
  go_wp2_with (first | (at_lookup; refine wpList_lookI_ok _ rfl _ _ 68 rfl 3 3 keyI mapNames 0 (zeroI _) _ _ _ _ rfl hM _ rfl hx ?_; rw [hv]; simp only [Option.getD_some, Option.isSome_some, eI]) | go_in)
  go_ret
  exact ⟨rfl, by rw [HA.out]; exact HM.out, rfl, rfl, rfl, Nat.le_refl _, fun _ _ _ => rfl⟩
 ·have hv := nameF_no hin
  have HA : Hid (addN L x = L ++ [x]) := hid (by unfold addN; rw [if_neg hin])
  have HP : Hid (((posL L x : Nat) : Int) = (L.length : Int)) := hid (by rw [posL_new hin])
  have HN := hid (nameF_put hin)
  rw [HP.out]
  clear hin HP
  go_enter Try.func45, Try.ntmps45
  go_wp2_with (first | (at_lookup; refine wpList_lookI_ok _ rfl _ _ 68 rfl 3 3 keyI mapNames 0 (zeroI _) _ _ _ _ rfl hM _ rfl hx ?_; rw [hv]; simp only [Option.getD_none, Option.isSome_none, eI]) | (with_reducible refine wpList_lenI _ rfl _ 68 rfl 3 3 mapNames _ _ _ _ rfl hM ?_) | (at_mapUpdate; refine wpList_putI _ rfl _ _ _ 68 rfl 3 3 keyI mapNames _ _ _ _ rfl hM (by unfold maxLen; omega) _ rfl hx (L.length : Int) rfl ?_; intro w1 hM4 hgm; go_frame) | go_in)
  have hlen : (addN L x).length = L.length + 1 := by rw [HA.out]; simp
  have HM2 : Hid (MapI eI Try.prog 3 w1 b (n + 1) (nameF (addN L x)) (addN L x).length) := hid (by
   rw [hlen, HA.out, ← HN.out]
   rw [hv] at hM4
   simpa using hM4)
  clear hM4 hlen
  go_wp2_with fail
  go_ret
  exact ⟨rfl, HM2.out, hgm⟩
end

section
open Go.RowKit
theorem sort_two (L : List Int) (hd : L.Nodup) : (L.mergeSort fun x y => decide (x ≤ y)).Pairwise (· < ·) := by
 have hp := List.mergeSort_perm L (fun x y => decide (x ≤ y))
 have hs : (L.mergeSort fun x y => decide (x ≤ y)).Pairwise fun x y => decide (x ≤ y) = true := by
  apply List.pairwise_mergeSort
  ·intro a b c h1 h2; simp at *; omega
  ·intro a b; simp; omega
 have hn := hp.nodup_iff.2 hd
 rw [List.nodup_iff_pairwise_ne, List.pairwise_iff_getElem] at hn
 rw [List.pairwise_iff_getElem] at hs ⊢
 intro i j hi hj hij
 have h1 := hs i j hi hj hij
 have h2 := hn i j hi hj hij
 simp only [decide_eq_true_eq] at h1
 omega
theorem sort_rank {L : List Int} (hd : L.Nodup) {k : Nat} (hk : k < (L.mergeSort fun x y => decide (x ≤ y)).length) : rankN L (L.mergeSort fun x y => decide (x ≤ y))[k] = k := by
 have hp := List.mergeSort_perm L (fun x y => decide (x ≤ y))
 have hs := sort_two L hd
 generalize (L.mergeSort fun x y => decide (x ≤ y)) = T at *
 rw [List.pairwise_iff_getElem] at hs
 unfold rankN
 rw [← hp.countP_eq]
 have h1 : (T.take k).countP (fun y => decide (y < T[k])) = (T.take k).length := by
  rw [List.countP_eq_length]
  intro a ha
  obtain ⟨i, hi, e⟩ := List.mem_take_iff_getElem.1 ha
  have := hs i k (by omega) hk (by omega)
  rw [← e]; simpa using this
 have h2 : (T.drop k).countP (fun y => decide (y < T[k])) = 0 := by
  rw [List.countP_eq_zero]
  intro a ha
  obtain ⟨i, hi, e⟩ := List.mem_drop_iff_getElem.1 ha
  rw [← e]
  by_cases h0 : i = 0
  ·subst h0; simp
  ·have := hs k (k + i) hk (by omega) (by omega)
   simp; omega
 have := congrArg (List.countP fun y => decide (y < T[k])) (List.take_append_drop k T)
 rw [List.countP_append, h1, h2, List.length_take] at this
 omega
def rankF (L T : List Int) : Int → Option Int := fun x => if x ∈ T then some (rankI L x) else none
theorem rankF_put {L : List Int} (hd : L.Nodup) {k : Nat} (hk : k < (L.mergeSort fun x y => decide (x ≤ y)).length) : putF (rankF L ((L.mergeSort fun x y => decide (x ≤ y)).take k)) (L.mergeSort fun x y => decide (x ≤ y))[k] (k : Int) = rankF L ((L.mergeSort fun x y => decide (x ≤ y)).take (k + 1)) := by
 have hr := sort_rank hd hk
 generalize (L.mergeSort fun x y => decide (x ≤ y)) = T at *
 funext y
 unfold putF rankF
 rw [List.take_succ_eq_append_getElem hk]
 by_cases e : y = T[k]
 ·rw [if_pos e, if_pos (List.mem_append.2 (.inr (by rw [e]; exact List.mem_singleton.2 rfl))), e]
  unfold rankI
  rw [hr]
 ·rw [if_neg e]
  by_cases e2 : y ∈ T.take k
  ·rw [if_pos e2, if_pos (List.mem_append.2 (.inl e2))]
  ·rw [if_neg e2, if_neg]
   rw [List.mem_append]
   rintro (q | q)
   ·exact e2 q
   ·exact e (List.mem_singleton.1 q)
theorem rankF_all (L : List Int) : rankF L (L.mergeSort fun x y => decide (x ≤ y)) = rankF L L := by
 funext y
 unfold rankF
 have hp := List.mergeSort_perm L (fun x y => decide (x ≤ y))
 by_cases e : y ∈ L
 ·rw [if_pos e, if_pos (hp.mem_iff.2 e)]
 ·rw [if_neg e, if_neg (fun q => e (hp.mem_iff.1 q))]
theorem stL_len (h : List TxnV) : (stL h).length = 2 * h.length := by
 unfold stL
 induction h with
 | nil => rfl
 | cons t h ih => rw [List.flatMap_cons, List.length_append, ih]; simp; omega
theorem cranks_any (va : Value) (h : List TxnV) (w : World) (hT : Txns w va h) (hok : ∀ t ∈ h, t.ok) (hd : (stL h).Nodup) (hl : h.length ≤ 1000) :
  Calls Try.prog 44 #[va] w fun e w' => (∃ b n c, e = .returned (.map (some b)) ∧ n ≤ 10000 ∧ w.heap.size ≤ b ∧ MapI eI Try.prog 3 w' b n (rankF (stL h) (stL h)) c) ∧ Below w.heap.size w w' := by
 obtain ⟨i0, hi, hz0, hz1, hz2⟩ := info_parts infoIntL
 have HH := hid (fun wx (hx : Below w.heap.size w wx) => hT.below hx)
 obtain ⟨ao, cap, rfl, hal⟩ := hT.form
 have HD := hid hd
 have HOK := hid hok
 clear hT hd hok
 go_enter Try.func44, Try.ntmps44
 go_wp2_with fail
 go_loopw [3, 11] (fun v i wr => ∃ k : Nat, k ≤ h.length ∧ i = .int .i64 (k : Int) ∧ Hid (wr.ownsRow w.heap.size 3 1 v (stL (h.take k)).length ((stL (h.take k)).map (Value.int .i64))) ∧ Hid (Below w.heap.size w wr)) (fun _ i _ => h.length - (intOf i).toNat)
 case atStart => exact ⟨0, by omega, rfl, hid (World.ownsRow_nil _ _ _ _), hid (Below.refl _ _)⟩
 case round =>
  obtain ⟨k, hk, rfl, HO, HB⟩ := hrel
  by_cases hlt : k < h.length
  ·have hki : (k : Int) < (h.length : Int) := by omega
   obtain ⟨g, o, hao, d0, d1, d2, d3⟩ := (HH.out _ HB.out).at hlt
   cases hao
   have HL := hid (stL_succ h k hlt)
   have hsl : (stL (h.take k)).length ≤ 2000 := by rw [stL_len, List.length_take]; omega
   obtain ⟨_, ua, uc, hu, _⟩ := (HH.out _ HB.out).ops hlt
   rw [hu] at d3
   clear hu
   generalize h[k] = t at *
   obtain ⟨s, b, cc, v9, l⟩ := t
   simp only at d0 d1 d2 d3 HL
   have hown := HO.out.alloc (.cells #[.int .i64 s, .int .i64 b, .int .i64 cc, .slice ua l.length uc] 41)
   have HB2 := HB.out.alloc HB.out.size (.cells #[.int .i64 s, .int .i64 b, .int .i64 cc, .slice ua l.length uc] 41)
   have hsz := HB.out.size
   generalize stL (h.take k) = S at *
   clear HO
   go_wp2_with (first | (at_builtin; refine wpList_append_own _ rfl _ _ 29 rfl w.heap.size 3 i0 (.int .i64 0) 1 8 Try.underlying29 hi hz0 hz1 hz2 rfl (by decide) _ _ _ rfl (hown.alloc _) ⟨_, 0, none⟩ 2 2 [.int .i64 b, .int .i64 cc] rfl rfl ?c1 ?c2 ?c3 ?c4 ?c5 ?_) | go_in)
   try case c1 => first | (simp [Addr.add]; done) | (intro j u hu; rcases j with _ | _ | j <;> first | (cases hu; simp [Addr.add]; done) | (simp at hu; done))
   case c2 => first | exact ⟨rfl, rfl⟩ | (intro u hu; simp at hu; rcases hu with rfl | rfl <;> rfl)
   case c3 => unfold maxLen; omega
   case c4 => omega
   case c5 => first | omega | (simp; omega)
   intro v10 w10 hown10 hg10 _
   have HO10 : Hid (w10.ownsRow w.heap.size 3 1 v10 (stL (h.take (k + 1))).length ((stL (h.take (k + 1))).map (Value.int .i64))) := hid (by
    rw [HL.out, List.length_append, List.map_append]
    exact hown10)
   have HB10 : Hid (Below w.heap.size w w10) := hid (below_app0 HB2 (Nat.le_refl _) hown (Nat.le_refl _) hg10)
   clear hown10 hg10 hown HL HB2
   go_wp2_with fail
   go_roundw
   case rel => exact ⟨k + 1, by omega, by go_num, HO10, HB10⟩
   case measure => simp [intOf]; omega
  ·obtain rfl : k = h.length := by omega
   have hki : ¬ (h.length : Int) < (h.length : Int) := by omega
   have hO := HO.out
   rw [List.take_length] at hO
   have hsl : (stL h).length ≤ 2000 := by rw [stL_len]; omega
   have CS := hid (isort_own w.heap.size _ (stL h) wr hO (by omega))
   have HLO := hid (fun b hb => (World.ownsRow.lt hO b hb).1)
   have HIN : Hid (∀ x ∈ stL h, InI x) := hid (fun x hx => by
    obtain ⟨t, ht, e⟩ := stL_mem.1 hx
    have := (HOK.out t ht).1
    rcases e with rfl | rfl
    ·exact inI_of this.2.1
    ·exact inI_of this.2.2)
   have HPT := hid (List.mergeSort_perm (stL h) (fun x y => decide (x ≤ y)))
   have HPUT := hid (fun k hk => rankF_put HD.out (k := k) hk)
   have HALL := hid (rankF_all (stL h))
   clear hO HO
   go_wp2_with fail
   refine CS.out.mono ?_
   rintro e w5 ⟨rfl, hO5, hg5⟩
   have hb5 := HB.out.grown hg5 HB.out.size (fun j hj => HLO.out j hj)
   obtain ⟨_, so, scap, rfl, _⟩ := Row.of_owns hO5
   generalize hS : stL h = S at *
   generalize hT : (S.mergeSort fun x y => decide (x ≤ y)) = T at *
   have hTl : T.length = S.length := HPT.out.length_eq
   rw [← hTl]
   have hI5 : Ints w5 (.slice so T.length scap) T := by
    have h1 := Row.of_owns hO5
    rw [← hTl] at h1
    exact h1
   have hm0 := MapI.made eI Try.prog 3 w5
   have hxA := box_below w5 (.map #[] 0)
   have HI5 := hid (fun wx (hx : Below w5.heap.size w5 wx) => hI5.below hx)
   have hI6 := hid (hI5.below hxA)
   have HF0 : Hid (rankF S (T.take 0) = fun _ => none) := hid (by funext x; unfold rankF; simp)
   have hmm := @run_makeMap Try.prog
   have HB5 := hid hb5
   have HX5 := hid hxA
   clear hI5 hxA hb5
   generalize w5 = w5x at *
   go_wp2_with fail
   clear hmm
   go_loopw [28] (fun i wr => ∃ k n c : Nat, k ≤ T.length ∧ i = .int .i64 (k : Int) ∧ n ≤ k ∧ MapI eI Try.prog 3 wr w5x.heap.size n (rankF S (T.take k)) c ∧ Hid (Below w5x.heap.size w5x wr)) (fun i _ => T.length - (intOf i).toNat)
   case atStart => exact ⟨0, 0, 0, by omega, rfl, by omega, by rw [HF0.out]; exact hm0, HX5⟩
   case round =>
    obtain ⟨k, n, c, hk, rfl, hn, hM, HB6⟩ := hrel
    clear hm0
    by_cases hlt : k < T.length
    ·have hki2 : (k : Int) < (T.length : Int) := by omega
     obtain ⟨g, o, hao, hc⟩ := (HI5.out _ HB6.out).at hlt
     cases hao
     have hkx := HIN.out T[k] (HPT.out.mem_iff.1 (List.getElem_mem hlt))
     have HP := hid (HPUT.out k hlt)
     have hbz := HB6.out.size
     have HB7 := hid HB6.out
     clear HB6
     generalize T[k] = y at *
     go_wp2_with (first | (at_mapUpdate; refine wpList_putI _ rfl _ _ _ 35 rfl 3 3 keyI mapII _ _ _ _ rfl hM (by unfold maxLen; omega) _ rfl hkx (k : Int) rfl ?_; intro w1 hM4 hgm; go_frame) | go_in)
     have HB8 := hid (HB7.out.grown hgm HB7.out.size (fun j hj => by cases hj; omega))
     rw [HP.out] at hM4
     go_wp2_with fail
     go_roundw
     case rel => exact ⟨k + 1, n + 1, _, by omega, by go_num, by omega, hM4, HB8⟩
     case measure => simp [intOf]; omega
    ·obtain rfl : k = T.length := by omega
     have hki2 : ¬ (T.length : Int) < (T.length : Int) := by omega
     rw [List.take_length, HALL.out] at hM
     have HM := hid hM
     have HB7 := hid (below_then HB5.out HB6.out)
     have hz := HB5.out.size
     clear HB6 hM
     go_wp2_with fail
     go_ret
     exact ⟨⟨_, rfl, n, by omega, hz, c, HM.out⟩, HB7.out⟩
end

section
open Go.RowKit
theorem owns_set {w : World} {base : Nat} {e : TypeId} {size g cap n : Nat} {xs : List Value} (h : w.ownsRow base e size (.slice (some ⟨g, 0, none⟩) n cap) n xs) (j : Nat) (u : Value) :
  (w.setCell ⟨g, j, none⟩ u).ownsRow base e size (.slice (some ⟨g, 0, none⟩) n cap) n (xs.set j u) := by
 obtain ⟨h1, h2⟩ := h
 rcases h2 with ⟨h2, _⟩ | ⟨g', cap', cur, e1, e2, hb, e3, e4, e5, e6⟩
 ·cases h2
 cases e1
 refine ⟨by simp [h1], .inr ⟨g, cap, cur.setIfInBounds j u, rfl, e2, ?_, e3, e4, by simpa using e5, ?_⟩⟩
 ·rw [Sort.setCell_eq]
  simp [Sort.mapBlock, Array.getElem?_modify, hb, Sort.onCells]
 ·rw [Array.toList_setIfInBounds, List.take_set, e6]
theorem opV_set : ∀ (l : List OpV) (k : Nat) (_ : k < l.length) (o : OpV), opV (l.set k o) = (((opV l).set (k * 3) (.bool o.wr)).set (k * 3 + 1) (.int .i64 o.key)).set (k * 3 + 2) (.int .i64 o.val)
 | a :: l, 0, _, o => rfl
 | a :: l, k + 1, hk, o => by
  have ih := opV_set l k (by simpa using hk) o
  rw [show (k + 1) * 3 + 2 = (k * 3 + 2) + 1 + 1 + 1 from by omega, show (k + 1) * 3 + 1 = (k * 3 + 1) + 1 + 1 + 1 from by omega, show (k + 1) * 3 = (k * 3) + 1 + 1 + 1 from by omega]
  show opV (a :: l.set k _) = (((Value.bool a.wr :: .int .i64 a.key :: .int .i64 a.val :: opV l).set _ _).set _ _).set _ _
  simp only [List.set_cons_succ]
  rw [← ih]; rfl
theorem Own.store {w : World} {base g cap n : Nat} {l : List OpV} (h : Own w base (.slice (some ⟨g, 0, none⟩) n cap) l) {k : Nat} (hk : k < l.length) (o : OpV) :
  Own (w.setCells g (k * 3) [.bool o.wr, .int .i64 o.key, .int .i64 o.val]) base (.slice (some ⟨g, 0, none⟩) n cap) (l.set k o) := by
 unfold Own at h ⊢
 obtain ⟨x, y⟩ := h
 have hn : n = l.length := by
  rcases y with ⟨y, _⟩ | ⟨g', cap', cur, e1, _⟩
  ·cases y
  ·exact (Value.slice.inj e1).2.1
 subst hn
 have := owns_set (owns_set (owns_set (w := w) ⟨x, y⟩ (k * 3) (.bool o.wr)) (k * 3 + 1) (.int .i64 o.key)) (k * 3 + 2) (.int .i64 o.val)
 rw [← opV_set l k hk o] at this
 rw [List.length_set]
 exact this
def valP (l : List Int) : List Int := l.filter fun v => v != 0
theorem pos_cons {x : Int} (L : List Int) (h : x ≠ 0) : posL (0 :: L) x = posL L x + 1 := by
 unfold posL
 rw [List.findIdx_cons]
 have : ((0 : Int) == x) = false := by simpa using Ne.symm h
 rw [this]; rfl
theorem pos_zero (L : List Int) : posL (0 :: L) 0 = 0 := by
 unfold posL
 rw [List.findIdx_cons]; rfl
theorem addN_val (q : List Int) (x : Int) : addN (0 :: firsts (valP q)) x = 0 :: firsts (valP (q ++ [x])) := by
 unfold valP
 rw [List.filter_append]
 by_cases h : x = 0
 ·subst h
  rw [show List.filter (fun v => v != 0) [(0 : Int)] = [] from rfl, List.append_nil]
  unfold addN
  rw [if_pos (List.mem_cons_self ..)]
 ·have h1 : List.filter (fun v => v != 0) [x] = [x] := by simp [h]
  rw [h1, firsts_snoc]
  unfold addN
  by_cases h2 : x ∈ firsts (q.filter fun v => v != 0)
  ·rw [if_pos (List.mem_cons_of_mem _ h2), if_pos h2]
  ·rw [if_neg (by simp [h, h2]), if_neg h2]; rfl
section
variable {E : List ETx}
theorem op_ren {p q : List Int} {o : OpV} (hp : p ++ [o.key] <+: keyE E) (hq : q ++ [o.val] <+: valA E) :
  (⟨o.wr, ((posL (firsts p) o.key : Nat) : Int), ((posL (0 :: firsts (valP q)) o.val : Nat) : Int)⟩ : OpV) = renO (noI (keyE E)) (noV (valE E)) o := by
 unfold renO noI noV
 rw [posL_time hp]
 congr 1
 by_cases h : o.val = 0
 ·rw [if_pos h, h, pos_zero]; rfl
 ·rw [if_neg h, pos_cons _ h]
  unfold noI
  have hf : valP q ++ [o.val] <+: valE E := by
   obtain ⟨r, hr⟩ := hq
   refine ⟨valP r, ?_⟩
   unfold valP valE
   rw [← hr, List.filter_append, List.filter_append]
   have h1 : List.filter (fun v => v != 0) [o.val] = [o.val] := by simp [h]
   rw [h1]
  rw [posL_time hf]
  omega
theorem flat_prefix {f : ETx → List Int} {i : Nat} (hi : i < E.length) {k : Nat} (hk : k < (f E[i]).length) : (E.take i).flatMap f ++ (f E[i]).take k ++ [(f E[i])[k]] <+: E.flatMap f := by
 refine ⟨(f E[i]).drop (k + 1) ++ (E.drop (i + 1)).flatMap f, ?_⟩
 have h1 : E.flatMap f = (E.take i).flatMap f ++ (f E[i] ++ (E.drop (i + 1)).flatMap f) := by
  have := congrArg (List.flatMap f) (List.take_append_drop i E)
  rw [← this, List.flatMap_append, List.drop_eq_getElem_cons hi, List.flatMap_cons]
 have h2 : f E[i] = (f E[i]).take k ++ [(f E[i])[k]] ++ (f E[i]).drop (k + 1) := by
  rw [List.append_assoc, List.singleton_append, ← List.drop_eq_getElem_cons hk, List.take_append_drop]
 rw [h1]
 conv => rhs; rw [h2]
 simp only [List.append_assoc]
end
end

section
open Go.RowKit
def cOp (E : List ETx) (o : OpV) : OpV := renO (noI (keyE E)) (noV (valE E)) o
def cTx (E : List ETx) (t : TxnV) : TxnV := ⟨noI (sesE E) t.s, rankI (stE E) t.b, rankI (stE E) t.c, t.v, t.l.map (cOp E)⟩
theorem cTx_canE (s : List TxnV) : (s.map (cTx (s.map txE))).map txE = canE (s.map txE) := by
 unfold canE
 rw [List.map_map, List.map_map]; rfl
def outTo (s : List TxnV) (i : Nat) : List TxnV := (s.take i).map (cTx (s.map txE)) ++ s.drop i
def opsTo (s : List TxnV) (i k j : Nat) : List OpV := if j < i then (opsAt s j).map (cOp (s.map txE)) else if j = i then ((opsAt s j).take k).map (cOp (s.map txE)) ++ (opsAt s j).drop k else opsAt s j
def sTo (s : List TxnV) (i : Nat) : List Int := (sesE (s.map txE)).take i
def kTo (s : List TxnV) (i k : Nat) : List Int := keyE ((s.map txE).take i) ++ ((opsAt s i).take k).map (·.key)
def vTo (s : List TxnV) (i k : Nat) : List Int := valA ((s.map txE).take i) ++ ((opsAt s i).take k).map (·.val)
section
variable {s : List TxnV} {i k : Nat}
theorem outTo_len (hi : i ≤ s.length) : (outTo s i).length = s.length := by unfold outTo; simp; omega
theorem outTo_zero : outTo s 0 = s := by unfold outTo; simp
theorem outTo_all : outTo s s.length = s.map (cTx (s.map txE)) := by unfold outTo; simp
theorem outTo_at (hi : i < s.length) (hi2 : i < (outTo s i).length) : (outTo s i)[i] = s[i] := by
 have h1 : ((s.take i).map (cTx (s.map txE))).length = i := by simp; omega
 have : (outTo s i)[i]? = some s[i] := by
  unfold outTo
  rw [List.getElem?_append_right (by omega), h1, Nat.sub_self, List.getElem?_drop, Nat.add_zero, List.getElem?_eq_getElem hi]
 rw [List.getElem?_eq_getElem hi2] at this
 exact Option.some.inj this
theorem outTo_succ (hi : i < s.length) : outTo s (i + 1) = (outTo s i).set i (cTx (s.map txE) s[i]) := by
 have h1 : ((s.take i).map (cTx (s.map txE))).length = i := by simp; omega
 unfold outTo
 rw [List.take_succ_eq_append_getElem hi, List.map_append, List.set_append_right _ _ (by omega), h1, Nat.sub_self, List.drop_eq_getElem_cons hi, List.set_cons_zero, List.append_assoc]
 rfl
theorem txV_all (l : List TxnV) (i : Nat) (hi : i < l.length) (x y z : Int) (m : List OpV) : txV (l.set i ⟨x, y, z, l[i].v, m⟩) = (((txV l).set (i * 4) (.int .i64 x)).set (i * 4 + 1) (.int .i64 y)).set (i * 4 + 2) (.int .i64 z) := by
 induction l generalizing i with
 | nil => cases hi
 | cons a l ih =>
  cases i with
  | zero => rfl
  | succ i =>
   have := ih i (by simpa using hi)
   rw [show (i + 1) * 4 + 2 = (i * 4 + 2) + 1 + 1 + 1 + 1 from by omega, show (i + 1) * 4 + 1 = (i * 4 + 1) + 1 + 1 + 1 + 1 from by omega, show (i + 1) * 4 = (i * 4) + 1 + 1 + 1 + 1 from by omega]
   show txV (a :: l.set i _) = (((Value.int .i64 a.s :: .int .i64 a.b :: .int .i64 a.c :: a.v :: txV l).set _ _).set _ _).set _ _
   simp only [List.set_cons_succ]
   rw [← this]; rfl
theorem opsTo_now : opsTo s i k i = ((opsAt s i).take k).map (cOp (s.map txE)) ++ (opsAt s i).drop k := by
 unfold opsTo; rw [if_neg (by omega), if_pos rfl]
theorem opsTo_len (j : Nat) : (opsTo s i k j).length = (opsAt s j).length := by
 unfold opsTo
 split
 ·simp
 ·split
  ·simp; omega
  ·rfl
theorem opsTo_at (hk : k < (opsAt s i).length) (hk2 : k < (opsTo s i k i).length) : (opsTo s i k i)[k] = (opsAt s i)[k] := by
 have h1 : (((opsAt s i).take k).map (cOp (s.map txE))).length = k := by simp; omega
 have : (opsTo s i k i)[k]? = some (opsAt s i)[k] := by
  rw [opsTo_now, List.getElem?_append_right (by omega), h1, Nat.sub_self, List.getElem?_drop, Nat.add_zero, List.getElem?_eq_getElem hk]
 rw [List.getElem?_eq_getElem hk2] at this
 exact Option.some.inj this
theorem opsTo_succ (hk : k < (opsAt s i).length) : opsTo s i (k + 1) i = (opsTo s i k i).set k (cOp (s.map txE) (opsAt s i)[k]) := by
 have h1 : (((opsAt s i).take k).map (cOp (s.map txE))).length = k := by simp; omega
 rw [opsTo_now, opsTo_now, List.take_succ_eq_append_getElem hk, List.map_append, List.set_append_right _ _ (by omega), h1, Nat.sub_self, List.drop_eq_getElem_cons hk, List.set_cons_zero, List.append_assoc]
 rfl
theorem opsTo_other {j : Nat} (h : j ≠ i) : opsTo s i (k + 1) j = opsTo s i k j := by
 unfold opsTo; rw [if_neg h, if_neg h]
theorem opsTo_done (j : Nat) : opsTo s i (opsAt s i).length j = opsTo s (i + 1) 0 j := by
 unfold opsTo
 by_cases h1 : j < i
 ·rw [if_pos h1, if_pos (by omega)]
 ·rw [if_neg h1]
  by_cases h2 : j = i
  ·subst h2; rw [if_pos rfl, if_pos (by omega)]; simp
  ·rw [if_neg h2, if_neg (by omega)]
   by_cases h3 : j = i + 1
   ·rw [if_pos h3]; simp
   ·rw [if_neg h3]
theorem sTo_succ (hi : i < s.length) : sTo s (i + 1) = sTo s i ++ [s[i].s] := by
 unfold sTo
 rw [List.take_succ_eq_append_getElem (by unfold sesE; simpa using hi)]
 congr 1
 unfold sesE
 simp [txE]
theorem kTo_succ (hk : k < (opsAt s i).length) : kTo s i (k + 1) = kTo s i k ++ [(opsAt s i)[k].key] := by
 unfold kTo
 rw [List.take_succ_eq_append_getElem hk, List.map_append, List.append_assoc]; rfl
theorem vTo_succ (hk : k < (opsAt s i).length) : vTo s i (k + 1) = vTo s i k ++ [(opsAt s i)[k].val] := by
 unfold vTo
 rw [List.take_succ_eq_append_getElem hk, List.map_append, List.append_assoc]; rfl
theorem take_txE (hi : i < s.length) : (s.map txE).take (i + 1) = (s.map txE).take i ++ [txE s[i]] := by
 rw [List.take_succ_eq_append_getElem (by simpa using hi)]; simp
theorem kTo_done (hi : i < s.length) : kTo s i (opsAt s i).length = kTo s (i + 1) 0 := by
 unfold kTo
 rw [take_txE hi, List.take_length, List.take_zero, List.map_nil, List.append_nil, opsAt_eq hi]
 unfold keyE
 rw [List.flatMap_append]; simp [txE]
theorem vTo_done (hi : i < s.length) : vTo s i (opsAt s i).length = vTo s (i + 1) 0 := by
 unfold vTo
 rw [take_txE hi, List.take_length, List.take_zero, List.map_nil, List.append_nil, opsAt_eq hi]
 unfold valA
 rw [List.flatMap_append]; simp [txE]
theorem cOp_now (hi : i < s.length) (hk : k < (opsAt s i).length) : (⟨(opsAt s i)[k].wr, ((posL (firsts (kTo s i k)) (opsAt s i)[k].key : Nat) : Int), ((posL (0 :: firsts (valP (vTo s i k))) (opsAt s i)[k].val : Nat) : Int)⟩ : OpV) = cOp (s.map txE) (opsAt s i)[k] := by
 have hiE : i < (s.map txE).length := by simpa using hi
 have eE : (txE s[i]).2.2.2 = opsAt s i := (opsAt_eq hi).symm
 have e1 : ((opsAt s i).take k).map (·.key) = ((opsAt s i).map (·.key)).take k := List.map_take
 have e2 : ((opsAt s i).take k).map (·.val) = ((opsAt s i).map (·.val)).take k := List.map_take
 unfold cOp
 refine op_ren ?_ ?_
 ·have := flat_prefix (E := s.map txE) (f := fun e => e.2.2.2.map (·.key)) hiE (k := k) (by simp only [List.getElem_map, eE, List.length_map]; exact hk)
  simp only [List.getElem_map, eE] at this
  unfold kTo
  rw [e1]
  exact this
 ·have := flat_prefix (E := s.map txE) (f := fun e => e.2.2.2.map (·.val)) hiE (k := k) (by simp only [List.getElem_map, eE, List.length_map]; exact hk)
  simp only [List.getElem_map, eE] at this
  unfold vTo
  rw [e2]
  exact this
theorem ses_now (hi : i < s.length) : ((posL (firsts (sTo s i)) s[i].s : Nat) : Int) = noI (sesE (s.map txE)) s[i].s := by
 have h : sTo s i ++ [s[i].s] <+: sesE (s.map txE) := by
  rw [← sTo_succ hi]
  exact List.take_prefix _ _
 unfold noI
 rw [posL_time h]
theorem rank_now (x : Int) : rankI (stL s) x = rankI (stE (s.map txE)) x := by rw [stE_txE]
end
end

section
open Go.RowKit
structure CanF (s : List TxnV) (g base base2 bM bS bK bV : Nat) : Prop where
 g2 : g < base2
 bg : base ≤ g
 ops : ∀ t ∈ s, ∀ b, t.v.ownBlock = some b → base2 ≤ b ∧ b < bM
 apart : s.Pairwise ApartT
 gM : g < bM
 MS : bM < bS
 SK : bS < bK
 KV : bK < bV
structure CanI (s : List TxnV) (g cap base base2 bM bS bK bV nM cM : Nat) (i k iO iS kK kV : Nat) (W : World) : Prop where
 own : OwnT W base (.slice (some ⟨g, 0, none⟩) s.length cap) (outTo s iO)
 ops : ∀ j (hj : j < s.length), Own W base2 s[j].v (opsTo s i k j)
 mM : MapI eI Try.prog 3 W bM nM (rankF (stL s) (stL s)) cM
 mS : MapI eI Try.prog 3 W bS iS (nameF (firsts (sTo s iS))) (firsts (sTo s iS)).length
 mK : MapI eI Try.prog 3 W bK (opsN (s.take i) + kK) (nameF (firsts (kTo s i kK))) (firsts (kTo s i kK)).length
 mV : MapI eI Try.prog 3 W bV (opsN (s.take i) + kV + 1) (nameF (0 :: firsts (valP (vTo s i kV)))) (0 :: firsts (valP (vTo s i kV))).length
section
variable {s : List TxnV} {g cap base base2 bM bS bK bV nM cM : Nat} {i k iO iS kK kV : Nat} {W W1 : World}
theorem CanI.below (q : CanI s g cap base base2 bM bS bK bV nM cM i k iO iS kK kV W) (hb : Below W.heap.size W W1) : CanI s g cap base base2 bM bS bK bV nM cM i k iO iS kK kV W1 :=
 ⟨q.own.below hb, fun j hj => (q.ops j hj).below hb, q.mM.below hb, q.mS.below hb, q.mK.below hb, q.mV.below hb⟩
theorem CanF.op (f : CanF s g base base2 bM bS bK bV) {j : Nat} (hj : j < s.length) {b : Nat} (hb : s[j].v.ownBlock = some b) : base2 ≤ b ∧ b < bM := f.ops _ (List.getElem_mem hj) b hb
theorem CanI.ses (f : CanF s g base base2 bM bS bK bV) (q : CanI s g cap base base2 bM bS bK bV nM cM i k iO i kK kV W) (hi : i < s.length)
  (hM : MapI eI Try.prog 3 W1 bS (i + 1) (nameF (addN (firsts (sTo s i)) s[i].s)) (addN (firsts (sTo s i)) s[i].s).length) (hg : W.grownBy W1 (some bS)) : CanI s g cap base base2 bM bS bK bV nM cM i k iO (i + 1) kK kV W1 := by
 have h1 := f.gM; have h2 := f.MS; have h3 := f.SK; have h4 := f.KV
 rw [← firsts_snoc, ← sTo_succ hi] at hM
 refine ⟨World.ownsRow.kept q.own hg (.inr (fun e => by simp [Value.ownBlock] at e; omega)), fun j hj => World.ownsRow.kept (q.ops j hj) hg (.inr (fun e => by have := (f.op hj e).2; omega)),
  q.mM.kept hg (fun e => by cases e; omega), hM, q.mK.kept hg (fun e => by cases e; omega), q.mV.kept hg (fun e => by cases e; omega)⟩
theorem CanI.key (f : CanF s g base base2 bM bS bK bV) (q : CanI s g cap base base2 bM bS bK bV nM cM i k iO iS k kV W) (hk : k < (opsAt s i).length)
  (hM : MapI eI Try.prog 3 W1 bK (opsN (s.take i) + k + 1) (nameF (addN (firsts (kTo s i k)) (opsAt s i)[k].key)) (addN (firsts (kTo s i k)) (opsAt s i)[k].key).length) (hg : W.grownBy W1 (some bK)) : CanI s g cap base base2 bM bS bK bV nM cM i k iO iS (k + 1) kV W1 := by
 have h1 := f.gM; have h2 := f.MS; have h3 := f.SK; have h4 := f.KV
 rw [← firsts_snoc, ← kTo_succ hk] at hM
 refine ⟨World.ownsRow.kept q.own hg (.inr (fun e => by simp [Value.ownBlock] at e; omega)), fun j hj => World.ownsRow.kept (q.ops j hj) hg (.inr (fun e => by have := (f.op hj e).2; omega)),
  q.mM.kept hg (fun e => by cases e; omega), q.mS.kept hg (fun e => by cases e; omega), hM, q.mV.kept hg (fun e => by cases e; omega)⟩
theorem CanI.val (f : CanF s g base base2 bM bS bK bV) (q : CanI s g cap base base2 bM bS bK bV nM cM i k iO iS kK k W) (hk : k < (opsAt s i).length)
  (hM : MapI eI Try.prog 3 W1 bV (opsN (s.take i) + k + 1 + 1) (nameF (addN (0 :: firsts (valP (vTo s i k))) (opsAt s i)[k].val)) (addN (0 :: firsts (valP (vTo s i k))) (opsAt s i)[k].val).length) (hg : W.grownBy W1 (some bV)) : CanI s g cap base base2 bM bS bK bV nM cM i k iO iS kK (k + 1) W1 := by
 have h1 := f.gM; have h2 := f.MS; have h3 := f.SK; have h4 := f.KV
 rw [addN_val, ← vTo_succ hk] at hM
 refine ⟨World.ownsRow.kept q.own hg (.inr (fun e => by simp [Value.ownBlock] at e; omega)), fun j hj => World.ownsRow.kept (q.ops j hj) hg (.inr (fun e => by have := (f.op hj e).2; omega)),
  q.mM.kept hg (fun e => by cases e; omega), q.mS.kept hg (fun e => by cases e; omega), q.mK.kept hg (fun e => by cases e; omega), hM⟩
theorem CanI.cells (q : CanI s g cap base base2 bM bS bK bV nM cM i k i iS kK kV W) (hi : i < s.length) :
  (W.cell? ⟨g, i * 4, none⟩ = some (.int .i64 s[i].s) ∧ W.frozen? ⟨g, i * 4, none⟩ = false) ∧ (W.cell? ⟨g, i * 4 + 1, none⟩ = some (.int .i64 s[i].b) ∧ W.frozen? ⟨g, i * 4 + 1, none⟩ = false) ∧ (W.cell? ⟨g, i * 4 + 2, none⟩ = some (.int .i64 s[i].c) ∧ W.frozen? ⟨g, i * 4 + 2, none⟩ = false) ∧ W.cell? ⟨g, i * 4 + 3, none⟩ = some s[i].v := by
 have hl := outTo_len (s := s) (i := i) (by omega)
 have ho : OwnT W base (.slice (some ⟨g, 0, none⟩) (outTo s i).length cap) (outTo s i) := by rw [hl]; exact q.own
 have hi2 : i < (outTo s i).length := by omega
 obtain ⟨q0, q1, q2, q3⟩ := txV_at (outTo s i) i hi2
 rw [outTo_at hi hi2] at q0 q1 q2 q3
 have a0 := ho.at (j := i * 4) (by omega)
 have a1 := ho.at (j := i * 4 + 1) (by omega)
 have a2 := ho.at (j := i * 4 + 2) (by omega)
 have a3 := ho.at (j := i * 4 + 3) (by omega)
 rw [q0] at a0
 rw [q1] at a1
 rw [q2] at a2
 rw [q3] at a3
 exact ⟨a0, a1, a2, a3.1⟩
theorem CanI.cell (f : CanF s g base base2 bM bS bK bV) (q : CanI s g cap base base2 bM bS bK bV nM cM i k i iS kK kV W) (hi : i < s.length) (x y z : Int) (hx : x = noI (sesE (s.map txE)) s[i].s) (hy : y = rankI (stE (s.map txE)) s[i].b) (hz : z = rankI (stE (s.map txE)) s[i].c) :
  CanI s g cap base base2 bM bS bK bV nM cM i k (i + 1) iS kK kV (((W.setCell ⟨g, i * 4, none⟩ (.int .i64 x)).setCell ⟨g, i * 4 + 1, none⟩ (.int .i64 y)).setCell ⟨g, i * 4 + 2, none⟩ (.int .i64 z)) := by
 have h1 := f.gM; have h2 := f.MS; have h3 := f.SK; have h4 := f.KV; have h5 := f.g2
 have hl := outTo_len (s := s) (i := i) (by omega)
 have hi2 : i < (outTo s i).length := by omega
 have hset : outTo s (i + 1) = (outTo s i).set i ⟨x, y, z, (outTo s i)[i].v, s[i].l.map (cOp (s.map txE))⟩ := by
  rw [outTo_succ hi, outTo_at hi hi2, hx, hy, hz]; rfl
 refine ⟨?_, fun j hj => owns_cell_any (owns_cell_any (owns_cell_any (q.ops j hj) (by exact h5) _) (by exact h5) _) (by exact h5) _,
  ((q.mM.cell (by show bM ≠ g; omega) _).cell (by show bM ≠ g; omega) _).cell (by show bM ≠ g; omega) _, ((q.mS.cell (by show bS ≠ g; omega) _).cell (by show bS ≠ g; omega) _).cell (by show bS ≠ g; omega) _,
  ((q.mK.cell (by show bK ≠ g; omega) _).cell (by show bK ≠ g; omega) _).cell (by show bK ≠ g; omega) _, ((q.mV.cell (by show bV ≠ g; omega) _).cell (by show bV ≠ g; omega) _).cell (by show bV ≠ g; omega) _⟩
 have ho := q.own
 unfold OwnT at ho ⊢
 rw [hl] at ho
 have := owns_set (owns_set (owns_set ho (i * 4) (.int .i64 x)) (i * 4 + 1) (.int .i64 y)) (i * 4 + 2) (.int .i64 z)
 rw [hset, List.length_set, hl, txV_all _ _ hi2]
 exact this
end
end

section
open Go.RowKit
theorem grown_cells {g : Nat} : ∀ (vs : List Value) (o : Nat) (w : World), w.grownBy (w.setCells g o vs) (some g)
 | [], _, _ => ⟨rfl, rfl, rfl, Nat.le_refl _, fun _ _ _ => rfl⟩
 | x :: r, o, w => by rw [World.setCells]; exact (grown_setC w ⟨g, o, none⟩ x).trans (grown_cells r (o + 1) _)
theorem own_first {w : World} {base : Nat} {v : Value} {l : List OpV} (h : Own w base v l) (hl : 0 < l.length) : ∃ g2 cp2, v = .slice (some ⟨g2, 0, none⟩) l.length cp2 ∧ base ≤ g2 := by
 obtain ⟨h1, h2⟩ := h
 rcases h2 with ⟨_, h2⟩ | ⟨g, cap, cur, e1, e2, _⟩
 ·rw [h2] at hl; cases hl
 ·exact ⟨g, cap, e1, e2⟩
section
variable {s : List TxnV} {g cap base base2 bM bS bK bV nM cM : Nat} {i k iO iS kK kV : Nat} {W : World}
theorem CanF.apart_at (f : CanF s g base base2 bM bS bK bV) {j : Nat} (hi : i < s.length) (hj : j < s.length) (hne : j ≠ i) {b : Nat} (hb : s[i].v.ownBlock = some b) : s[j].v.ownBlock ≠ some b := by
 have ha := List.pairwise_iff_getElem.1 f.apart
 rcases Nat.lt_or_ge j i with e | e
 ·intro h; exact ha j i hj hi e b h hb
 ·exact ha i j hi hj (by omega) b hb
theorem CanI.op (f : CanF s g base base2 bM bS bK bV) (q : CanI s g cap base base2 bM bS bK bV nM cM i k iO iS (k + 1) (k + 1) W) (hi : i < s.length) (hk : k < (opsAt s i).length) {g2 n2 cp2 : Nat} (hv : s[i].v = .slice (some ⟨g2, 0, none⟩) n2 cp2) (o : OpV) (ho : o = cOp (s.map txE) (opsAt s i)[k]) :
  CanI s g cap base base2 bM bS bK bV nM cM i (k + 1) iO iS (k + 1) (k + 1) (W.setCells g2 (k * 3) [.bool o.wr, .int .i64 o.key, .int .i64 o.val]) := by
 have h1 := f.gM; have h2 := f.MS; have h3 := f.SK; have h4 := f.KV; have h5 := f.g2
 have hgr := grown_cells (g := g2) [.bool o.wr, .int .i64 o.key, .int .i64 o.val] (k * 3) W
 have hb2 := f.op hi (b := g2) (by rw [hv]; rfl)
 have hkl : k < (opsTo s i k i).length := by rw [opsTo_len]; exact hk
 refine ⟨World.ownsRow.kept q.own hgr (.inr (fun e => by simp [Value.ownBlock] at e; omega)), fun j hj => ?_, q.mM.kept hgr (fun e => by cases e; omega), q.mS.kept hgr (fun e => by cases e; omega), q.mK.kept hgr (fun e => by cases e; omega), q.mV.kept hgr (fun e => by cases e; omega)⟩
 by_cases e : j = i
 ·subst e
  have hq := q.ops j hj
  rw [hv] at hq ⊢
  rw [opsTo_succ hk, ← ho]
  exact hq.store hkl o
 ·rw [opsTo_other e]
  exact World.ownsRow.kept (q.ops j hj) hgr (.inr (f.apart_at hi hj e (by rw [hv]; rfl)))
theorem CanI.done (q : CanI s g cap base base2 bM bS bK bV nM cM i (opsAt s i).length (i + 1) (i + 1) (opsAt s i).length (opsAt s i).length W) (hi : i < s.length) : CanI s g cap base base2 bM bS bK bV nM cM (i + 1) 0 (i + 1) (i + 1) 0 0 W := by
 have hn : opsN (s.take i) + (opsAt s i).length = opsN (s.take (i + 1)) := by rw [opsN_take s i hi, opsAt_eq hi]
 refine ⟨q.own, fun j hj => by rw [← opsTo_done]; exact q.ops j hj, q.mM, q.mS, ?_, ?_⟩
 ·have := q.mK
  rw [kTo_done hi, hn] at this
  exact this
 ·have := q.mV
  rw [vTo_done hi, hn] at this
  exact this
theorem nameF_nil : nameF [] = fun _ => none := by funext x; unfold nameF; simp
theorem nameF_zero : nameF [0] = putF (fun _ => none) 0 0 := by
 funext x
 unfold nameF putF
 by_cases e : x = 0
 ·subst e; simp [posL]
 ·rw [if_neg (by simpa using e), if_neg e]
theorem sTo_zero : sTo s 0 = [] := by unfold sTo; simp
theorem kTo_zero : kTo s 0 0 = [] := by unfold kTo; simp [keyE]
theorem vTo_zero : vTo s 0 0 = [] := by unfold vTo; simp [valA]
theorem opsTo_zero (j : Nat) : opsTo s 0 0 j = opsAt s j := by
 unfold opsTo
 rw [if_neg (by omega)]
 split
 ·simp
 ·rfl
theorem CanI.start (hO : OwnT W base (.slice (some ⟨g, 0, none⟩) s.length cap) s) (hP : ∀ t ∈ s, Own W base2 t.v t.l) (hM : MapI eI Try.prog 3 W bM nM (rankF (stL s) (stL s)) cM) (hS : MapI eI Try.prog 3 W bS 0 (fun _ => none) 0) (hK : MapI eI Try.prog 3 W bK 0 (fun _ => none) 0) (hV : MapI eI Try.prog 3 W bV 1 (putF (fun _ => none) 0 0) 1) :
  CanI s g cap base base2 bM bS bK bV nM cM 0 0 0 0 0 0 W := by
 refine ⟨by rw [outTo_zero]; exact hO, fun j hj => ?_, hM, ?_, ?_, ?_⟩
 ·rw [opsTo_zero, opsAt_eq hj]; exact hP _ (List.getElem_mem hj)
 ·rw [sTo_zero]
  show MapI _ _ _ _ _ _ (nameF []) _
  rw [nameF_nil]; exact hS
 ·rw [kTo_zero]
  show MapI _ _ _ _ _ _ (nameF []) _
  rw [nameF_nil]; exact hK
 ·rw [vTo_zero]
  show MapI _ _ _ _ _ _ (nameF [0]) _
  rw [nameF_zero]; exact hV
theorem CanI.copy (f : CanF s g base base2 bM bS bK bV) (hbs : base ≤ base2) (hb2 : base2 ≤ W.heap.size) (q : CanI s g cap base base2 bM bS bK bV nM cM s.length 0 s.length s.length 0 0 W) : CopyOf W base (.slice (some ⟨g, 0, none⟩) s.length cap) (s.map (cTx (s.map txE))) := by
 have ho := q.own
 rw [outTo_all] at ho
 refine ⟨base2, ⟨hbs, hb2⟩, ho, fun b hb => by simp [Value.ownBlock] at hb; have := f.g2; omega, fun t ht => ?_, ?_⟩
 ·obtain ⟨u, hu, rfl⟩ := List.mem_map.1 ht
  obtain ⟨j, hj, rfl⟩ := List.mem_iff_getElem.1 hu
  have := q.ops j hj
  unfold opsTo at this
  rw [if_pos hj, opsAt_eq hj] at this
  exact this
 ·rw [List.pairwise_map]
  exact f.apart
end
end

section
open Go.RowKit
theorem CopyOf.txns {w : World} {base : Nat} {v : Value} {c : List TxnV} (h : CopyOf w base v c) : Txns w v c := by
 obtain ⟨b2, h1, h2, h3, h4, h5⟩ := h
 exact ⟨h2.row, fun t ht => (h4 t ht).ops⟩
end

section
open Go.RowKit
def zT (t : TxnV) : TxnV := ⟨t.s, t.b, t.c, .slice none 0 0, t.l⟩
theorem zT_of {c h : List TxnV} (e : c.map txE = h.map txE) : c.map zT = h.map zT := by
 have k : ∀ l : List TxnV, l.map zT = (l.map txE).map fun q => (⟨q.1, q.2.1, q.2.2.1, .slice none 0 0, q.2.2.2⟩ : TxnV) := fun l => by rw [List.map_map]; rfl
 rw [k, k, e]
theorem opsN_z (h : List TxnV) : opsN (h.map zT) = opsN h := by unfold opsN; rw [List.map_map]; rfl
theorem partsB_z (h : List TxnV) : partsB (h.map zT) = partsB h := by unfold partsB; rw [List.all_map]; rfl
theorem wvH_z (h : List TxnV) : wvH (h.map zT) = wvH h := by unfold wvH; rw [List.flatMap_map]; rfl
theorem opsAt_z (h : List TxnV) (k : Nat) : opsAt (h.map zT) k = opsAt h k := by unfold opsAt; rw [List.getElem?_map]; cases h[k]? <;> rfl
theorem wrTo_z (h : List TxnV) (k : Nat) : wrTo (h.map zT) k = wrTo h k := by
 unfold wrTo
 congr 1
 funext F j
 rw [opsAt_z]
theorem valuesB_z (h : List TxnV) : valuesB (h.map zT) = valuesB h := by
 unfold valuesB okW
 rw [wvH_z, List.all_map, List.length_map, wrTo_z]; rfl
theorem stampsB_z (h : List TxnV) : stampsB (h.map zT) = stampsB h := by
 have : stL (h.map zT) = stL h := by unfold stL; rw [List.flatMap_map]; rfl
 unfold stampsB; rw [this]
theorem endF_z (h : List TxnV) : endF (h.map zT) = endF h := by
 funext x
 unfold endF
 rw [List.filter_map, List.getLast?_map, Option.map_map]; rfl
theorem sesOk_z (h : List TxnV) (k : Nat) : sesOk (h.map zT) k = sesOk h k := by
 unfold sesOk
 rw [List.getElem?_map, ← List.map_take, endF_z]
 cases h[k]? <;> rfl
theorem sesB_z (h : List TxnV) : sesB (h.map zT) = sesB h := by
 unfold sesB
 rw [List.length_map]
 congr 1
 funext k
 exact sesOk_z h k
theorem checkI_z (h : List TxnV) : checkI (h.map zT) = checkI h := by
 unfold checkI rightB
 rw [List.length_map, opsN_z, partsB_z, valuesB_z, stampsB_z, sesB_z]
theorem checkI_txE {c h : List TxnV} (e : c.map txE = h.map txE) : checkI c = checkI h := by
 rw [← checkI_z c, ← checkI_z h, zT_of e]
end

section
open Go.RowKit
section
variable {w w' : World} {b0 base : Nat} {v v' u : Value} {c : List TxnV}
end
section
variable {w w' : World} {gv b0 k : Nat} {D : List TxnV}
end
theorem txE_mem {c h : List TxnV} (e : c.map txE = h.map txE) {t : TxnV} (ht : t ∈ c) : ∃ u ∈ h, txE u = txE t := by
 have : txE t ∈ h.map txE := by rw [← e]; exact List.mem_map.2 ⟨t, ht, rfl⟩
 obtain ⟨u, hu, h2⟩ := List.mem_map.1 this
 exact ⟨u, hu, h2⟩
theorem ok_txE {c h : List TxnV} (e : c.map txE = h.map txE) (hok : ∀ t ∈ h, t.ok) : ∀ t ∈ c, t.ok := fun t ht => by
 obtain ⟨u, hu, h2⟩ := txE_mem e ht
 have h3 := hok u hu
 unfold txE at h2
 simp only [Prod.mk.injEq] at h2
 obtain ⟨q1, q2, q3, q4⟩ := h2
 unfold TxnV.ok at *
 rw [← q1, ← q2, ← q3, ← q4]; exact h3
end

section
theorem zA {α : Type _} (l : List α) (i : Nat) (a : α) : l.toArray.setIfInBounds i a = (l.set i a).toArray := List.setIfInBounds_toArray ..
theorem zB {α : Type _} {x : α} {xs : List α} {a : α} : (x :: xs).set 0 a = a :: xs := List.set_cons_zero
theorem zC {α : Type _} {x : α} {xs : List α} {i : Nat} {a : α} : (x :: xs).set (i + 1) a = x :: xs.set i a := List.set_cons_succ
end
section
theorem tG {P : Program} {ops : Array Oper} {Q : Exit → Act → World → Prop} {md : Region.Mode} {S : World → Prop} (d : Option Tmp) (i : Nat) {oi : Oper} (v : Value) {fuel : Nat} {listed : Array Bool} {a : Act} {w : World} (hi : ops[i]? = some oi) (hd : oi.dst = d)
 (hy : YieldsIf P ops S oi v a) (hS : S w) (h : wpAnyH P md ops Q S fuel (listed.setIfInBounds i true) (a.put d v) w)
 (hs : Region.noSelect ops = true := by kernel_rfl) (hf : Region.free md ops listed i = true := by kernel_rfl) (hr : (Region.ready md ops listed).contains i = true := by kernel_rfl)
 (hQ : ∀ c a w, Q (.panic c) (a.put oi.dst v) w → Q (.panic c) a w := by exact fun _ _ _ h => h) : wpAnyH P md ops Q S (fuel + 1) listed a w := takeG d hi hd hs hf hr hQ hy hS h
theorem tA {P : Program} {ops : Array Oper} {Q : Exit → Act → World → Prop} {md : Region.Mode} {S : World → Prop} (d : Option Tmp) (i : Nat) {oi : Oper} {v : Value} {fuel : Nat} {listed : Array Bool} {a : Act} {w : World} (hi : ops[i]? = some oi) (hd : oi.dst = d)
 (hS : S w) (h : wpAnyH P md ops Q S fuel (listed.setIfInBounds i true) (a.put d v) w)
 (hy : YieldsIf P ops S oi v a := by exact Or.inl ⟨by rfl, by intro w _; go_simp; try (with_reducible rfl)⟩)
 (hs : Region.noSelect ops = true := by kernel_rfl) (hf : Region.free md ops listed i = true := by kernel_rfl) (hr : (Region.ready md ops listed).contains i = true := by kernel_rfl)
 (hQ : ∀ c a w, Q (.panic c) (a.put oi.dst v) w → Q (.panic c) a w := by exact fun _ _ _ h => h) : wpAnyH P md ops Q S (fuel + 1) listed a w := takeG d hi hd hs hf hr hQ hy hS h
end
section
theorem rD {P : Program} {ops : Array Oper} {Q : Exit → Act → World → Prop} {md : Region.Mode} {S : World → Prop} {fuel : Nat} {listed : Array Bool} {a : Act} {w : World} (i : Nat) {o : Oper} (ho : ops[i]? = some o)
 (h : ∀ K' : Act → World → Prop, Go.Shut (∀ a w, S w → (S w → wpAnyH P md ops Q S fuel (listed.setIfInBounds i true) a w) → K' a w) → if Region.wanted o (yielded ops a.tmps) = true then Oper.wp P o a w K' Q else K' (a.put o.dst undef) w)
 (hr : Region.ready md ops listed = [i] := by kernel_rfl) : wpAnyH P md ops Q S (fuel + 1) listed a w := wpAnyH_ready hr (by simp) (AllReadyH.cons ho h AllReadyH.nil)
end
section
open Go.RowKit
theorem perm_lift {α β : Type} (f : α → β) {L M : List β} (p : L.Perm M) : ∀ h : List α, h.map f = M → ∃ s : List α, s.Perm h ∧ s.map f = L := by
 induction p with
 | nil => intro h e; exact ⟨[], by rw [List.map_eq_nil_iff.1 e], rfl⟩
 | cons x _ ih =>
  intro h e
  obtain ⟨a, t, rfl, e1, e2⟩ := List.map_eq_cons_iff.1 e
  obtain ⟨s, p, e3⟩ := ih t e2
  exact ⟨a :: s, p.cons a, by rw [List.map_cons, e1, e3]⟩
 | swap x y l =>
  intro h e
  obtain ⟨a, t, rfl, e1, e2⟩ := List.map_eq_cons_iff.1 e
  obtain ⟨b, t, rfl, e3, e4⟩ := List.map_eq_cons_iff.1 e2
  exact ⟨b :: a :: t, List.Perm.swap a b t, by rw [List.map_cons, List.map_cons, e1, e3, e4]⟩
 | trans _ _ ih1 ih2 =>
  intro h e
  obtain ⟨s, p, e1⟩ := ih2 h e
  obtain ⟨u, q, e2⟩ := ih1 s e1
  exact ⟨u, q.trans p, e2⟩
theorem srt_lift {h c s : List TxnV} (hce : c.map txE = h.map txE) (hs : IsSrt c s) : ∃ s', IsSrt h s' ∧ s'.map txE = s.map txE := by
 have p := hs.1.map txE
 rw [hce] at p
 obtain ⟨s', q, e⟩ := perm_lift txE p h rfl
 refine ⟨s', ⟨q, ?_⟩, e⟩
 have h1 : (s.map txE).Pairwise fun x y => x.2.1 < y.2.1 := by rw [List.pairwise_map]; exact hs.2
 rw [← e, List.pairwise_map] at h1
 exact h1
theorem stL_perm {s c : List TxnV} (h : s.Perm c) : (stL s).Perm (stL c) := by
 unfold stL
 induction h with
 | nil => exact List.Perm.refl _
 | cons x _ ih => rw [List.flatMap_cons, List.flatMap_cons]; exact ih.append_left _
 | swap x y l =>
  simp only [List.flatMap_cons, ← List.append_assoc]
  exact List.Perm.append_right _ List.perm_append_comm
 | trans _ _ h1 h2 => exact h1.trans h2
theorem opsN_perm {s c : List TxnV} (h : s.Perm c) : opsN s = opsN c := by
 induction h with
 | nil => rfl
 | cons x _ ih => unfold opsN at *; simp only [List.map_cons, List.sum_cons] at *; omega
 | swap x y l => unfold opsN; simp only [List.map_cons, List.sum_cons]; omega
 | trans _ _ h1 h2 => exact h1.trans h2
theorem putI_run {α : Type} {e : α → Value} {P : Program} {k el t : TypeId} {b n c : Nat} {f : Int → Option α} {w : World} (hk : P.underlying k = some (.int .i64)) (ht : P.underlying t = some (.map k el)) (hown : MapI e P k w b n f c) (hn : n < maxLen) {key : Int} (hkey : InI key) (val : α) :
  ∃ w', (Instr.mapUpdate t (.map (some b)) (.int .i64 key) (e val)).run P w = .ok () w' ∧ MapI e P k w' b (n + 1) (putF f key val) (if (f key).isSome then c else c + 1) ∧ w.grownBy w' (some b) := by
 obtain ⟨D, hD, hs, ht2⟩ := hown
 obtain ⟨w', hrun, h1, h2⟩ := hD.update (Maps.int_keyed hk) ht hn (keyOf_I hk hkey) (rdE_mk e val)
 refine ⟨w', hrun, ⟨_, h1, ?_, fun y hy => ?_⟩, h2⟩
 ·rw [Maps.size_put (hD.tidy (Maps.int_keyed hk)), (ht2 key hkey).1, hs]
 ·by_cases he : y = key
  ·subst he
   rw [putF_same]
   exact ⟨Maps.has_put_same hD.isMap (isKey_I y) _, fun u hu z => by cases hu; exact Maps.atKey_put_same hD.isMap (isKey_I y) _ _⟩
  ·have hne : Lit.int .i64 y ≠ .int .i64 key := fun h => he (by cases h; rfl)
   rw [putF_other f val he]
   exact ⟨(Maps.has_put_other hne _).trans (ht2 y hy).1, fun u hu z => (Maps.atKey_put_other hne _ _).trans ((ht2 y hy).2 u hu z)⟩
theorem owns_at {w : World} {base : Nat} {e : TypeId} {size g cap n : Nat} {xs : List Value} (h : w.ownsRow base e size (.slice (some ⟨g, 0, none⟩) n cap) n xs) {j : Nat} (hj : j < n * size) : w.cell? ⟨g, j, none⟩ = xs[j]? ∧ w.frozen? ⟨g, j, none⟩ = false := by
 have hr := Row.of_owns h
 constructor
 ·obtain ⟨_, ao, cap', e1, _, _, hc⟩ := hr
  cases e1
  by_cases hn : 0 < n
  ·obtain ⟨b, off, e2, hcell⟩ := hc hn
   cases e2
   have := hcell j hj
   simpa using this
  ·have : n = 0 := by omega
   subst this; simp at hj
 ·obtain ⟨h1, h2⟩ := h
  rcases h2 with ⟨h2, _⟩ | ⟨g', cap', cur, e1, e2, hb, _⟩
  ·cases h2
  ·cases e1
   simp [World.frozen?, hb]
section
variable {s : List TxnV} {g cap base base2 bM bS bK bV nM cM : Nat} {i k iO iS kK kV : Nat} {W : World}
theorem CanI.cells3 (q : CanI s g cap base base2 bM bS bK bV nM cM i k i iS kK kV W) (hi : i < s.length) (x y : Int) :
  (W.cell? ⟨g, i * 4, none⟩ = some (.int .i64 s[i].s) ∧ W.frozen? ⟨g, i * 4, none⟩ = false) ∧
  ((W.setCell ⟨g, i * 4, none⟩ (.int .i64 x)).cell? ⟨g, i * 4 + 1, none⟩ = some (.int .i64 s[i].b) ∧ (W.setCell ⟨g, i * 4, none⟩ (.int .i64 x)).frozen? ⟨g, i * 4 + 1, none⟩ = false) ∧
  (((W.setCell ⟨g, i * 4, none⟩ (.int .i64 x)).setCell ⟨g, i * 4 + 1, none⟩ (.int .i64 y)).cell? ⟨g, i * 4 + 2, none⟩ = some (.int .i64 s[i].c) ∧ ((W.setCell ⟨g, i * 4, none⟩ (.int .i64 x)).setCell ⟨g, i * 4 + 1, none⟩ (.int .i64 y)).frozen? ⟨g, i * 4 + 2, none⟩ = false) := by
 have hl := outTo_len (s := s) (i := i) (by omega)
 have hi2 : i < (outTo s i).length := by omega
 have ho := q.own
 unfold OwnT at ho
 rw [hl] at ho
 obtain ⟨q0, q1, q2, q3⟩ := txV_at (outTo s i) i hi2
 rw [outTo_at hi hi2] at q0 q1 q2
 have o1 := owns_set ho (i * 4) (.int .i64 x)
 have o2 := owns_set o1 (i * 4 + 1) (.int .i64 y)
 have a0 := owns_at ho (j := i * 4) (by omega)
 have a1 := owns_at o1 (j := i * 4 + 1) (by omega)
 have a2 := owns_at o2 (j := i * 4 + 2) (by omega)
 rw [q0] at a0
 rw [List.getElem?_set_ne (by omega), q1] at a1
 rw [List.getElem?_set_ne (by omega), List.getElem?_set_ne (by omega), q2] at a2
 exact ⟨a0, a1, a2⟩
theorem CanI.vcell (q : CanI s g cap base base2 bM bS bK bV nM cM i k (i + 1) iS kK kV W) (hi : i < s.length) : W.cell? ⟨g, i * 4 + 3, none⟩ = some s[i].v := by
 have hl := outTo_len (s := s) (i := i + 1) (by omega)
 have hi2 : i < (outTo s (i + 1)).length := by omega
 have ho := q.own
 unfold OwnT at ho
 rw [hl] at ho
 obtain ⟨_, _, _, q3⟩ := txV_at (outTo s (i + 1)) i hi2
 have a := (owns_at ho (j := i * 4 + 3) (by omega)).1
 rw [q3] at a
 rw [a]
 have hl0 := outTo_len (s := s) (i := i) (by omega)
 simp only [outTo_succ hi, List.getElem_set_self]
 rfl
end
theorem cnamed_any (va : Value) (h : List TxnV) (w : World) (hT : Txns w va h) (hok : ∀ t ∈ h, t.ok) (hc : checkI h = 0) :
  Calls Try.prog 20 #[va] w fun e w' => (∃ v c s, e = .returned v ∧ CopyOf w' w.heap.size v c ∧ IsSrt h s ∧ c.map txE = canE (s.map txE)) ∧ Below w.heap.size w w' := by
 have h64 := (check_zero hc).1
 have hops := (check_zero hc).2.1
 have HN : Hid (∀ t ∈ h, t.l.length ≤ 1200) := hid (fun t ht => by
  obtain ⟨k, hk, rfl⟩ := List.mem_iff_getElem.1 ht
  have := opsN_at h k hk
  omega)
 have HC := hid hc
 have HOK := hid hok
 have CC := hid (hcopy_any va h w hT (by omega) (fun t ht => Nat.le_trans (HN.out t ht) (by omega)))
 have HOP := hid hops
 clear hT hok hc hops
 go_enter Try.func20, Try.ntmps20
 go_wp2_with fail
 refine CC.out.mono ?_
 rintro e w1 ⟨v1, c, rfl, hce, hC, hb1⟩
 have hcl : c.length = h.length := by have := congrArg List.length hce; simpa using this
 have hcc : checkI c = 0 := by rw [checkI_txE hce]; exact HC.out
 obtain ⟨base2, ⟨hb2a, hb2b⟩, hO, hvb, hown, hap⟩ := hC
 have hsv : ∀ t ∈ c, ∃ ao n cp, t.v = .slice ao n cp := fun t ht => by
  obtain ⟨_, ao, cap, e, _⟩ := (hown t ht).ops
  exact ⟨ao, _, cap, e⟩
 have hnb : (c.map (·.b)).Nodup := begins_nodup (check_rightB hcc).2.2.1
 have CS := hid (tsort_own w.heap.size v1 c w1 hO hsv hnb (by omega))
 have HF : Hid (∀ s w2, IsSrt c s → OwnT w2 w.heap.size v1 s → w1.grownBy w2 v1.ownBlock → (∀ t ∈ s, Own w2 base2 t.v t.l) ∧ s.Pairwise ApartT ∧ Below w.heap.size w w2 ∧ base2 ≤ w2.heap.size ∧ (∀ t ∈ s, t.ok) ∧ (stL s).Nodup ∧ s.length = h.length ∧ opsN s ≤ 1024 ∧ ∃ s', IsSrt h s' ∧ s'.map txE = s.map txE) := hid (fun s w2 hs hO2 hg => by
  have hp : s.Perm c := hs.1
  have hok2 : ∀ t ∈ c, t.ok := ok_txE hce HOK.out
  refine ⟨fun t ht => ?_, ?_, ?_, ?_, fun t ht => hok2 t (hp.mem_iff.1 ht), ?_, by rw [hp.length_eq, hcl], ?_, srt_lift hce hs⟩
  ·exact World.ownsRow.kept (hown t (hp.mem_iff.1 ht)) hg (by
    cases hvo : v1.ownBlock with
    | none =>
     cases hto : t.v.ownBlock with
     | none => exact .inl rfl
     | some b => exact .inr (fun e => by cases e)
    | some b => exact .inr (fun e => by have h1 := World.ownsRow.lt (hown t (hp.mem_iff.1 ht)) b e; have h2 := hvb b hvo; omega))
  ·exact (hp.pairwise_iff (fun {a b} h q e f => h q f e)).2 hap
  ·exact hb1.grown hg hb1.size (fun j hj => (World.ownsRow.lt hO j hj).1)
  ·exact Nat.le_trans hb2b hg.size
  ·have h1 := (check_rightB hcc).2.2.1
   unfold stampsB at h1
   exact (stL_perm hp).nodup_iff.2 (of_decide_eq_true h1)
  ·rw [opsN_perm hp]
   exact (check_zero hcc).2.1)
 have HVB := hid hvb
 have HB2 := hid hb2a
 clear CC hb1 hce hcl hcc hO hvb hown hap hsv hnb hb2b
 go_wp2_with fail
 refine CS.out.mono ?_
 rintro e w2 ⟨rfl, s, hs, hO2, hg2⟩
 obtain ⟨hP, hap, hb2, hsz2, hok2, hst, hsl, hop, s', hs', hse⟩ := HF.out s w2 hs hO2 hg2
 have HSR := hid (And.intro hs' hse)
 have hTs : Txns w2 v1 s := ⟨Row.of_owns hO2, fun t ht => (hP t ht).ops⟩
 have CR := hid (cranks_any v1 s w2 hTs hok2 hst (by omega))
 have hHc : Hid (checkI c = checkI c) := hid rfl
 clear CS HF hg2 hs hs' hse hHc
 rcases hO2.split with ⟨rfl, rfl⟩ | ⟨g, cap, rfl, hgb⟩
 ·clear hO2 hop hap hP hst hok2 hTs hsl
  go_wp2_with fail
  refine CR.out.mono ?_
  rintro e w3 ⟨⟨bM, nM, cM, rfl, hnM, hbM, hM⟩, h3⟩
  have hmm := @run_makeMap Try.prog
  have hb3 := below_then hb2 h3
  have hs4 : ((w3.alloc (.map #[] 0)).alloc (.map #[] 0)).heap.size = w3.heap.size + 1 + 1 := by simp
  have hs5 : (w3.alloc (.map #[] 0)).heap.size = w3.heap.size + 1 := by simp
  have hm2 := MapI.made eI Try.prog 3 ((w3.alloc (.map #[] 0)).alloc (.map #[] 0))
  rw [hs4] at hm2
  have hx5 : Below w3.heap.size w3 (((w3.alloc (.map #[] 0)).alloc (.map #[] 0)).alloc (.map #[] 0)) := (((Below.refl _ _).alloc (Nat.le_refl _) _).alloc (by rw [hs5]; omega) _).alloc (by rw [hs4]; omega) _
  obtain ⟨w5, hrun, _, hg5⟩ := putI_run keyI mapNames hm2 (by unfold maxLen; omega) (inI_of (x := 0) (by unfold IntOk; omega)) (0 : Int)
  have hrun : Sem.run Try.prog (Instr.mapUpdate 68 (.map (some (w3.heap.size + 1 + 1))) (.int .i64 0) (.int .i64 0)) (((w3.alloc (.map #[] 0)).alloc (.map #[] 0)).alloc (.map #[] 0)) = .ok () w5 := hrun
  have HB5 : Hid (Below w.heap.size w w5) := hid (by
   have h1 := below_then hb3 hx5
   have h2 := hb3.size
   exact h1.grown hg5 h1.size (fun j hj => by cases hj; omega))
  clear hM h3 CR hm2 hx5 hs4 hs5 hg5 hb2 hb3
  go_wp2_with fail
  clear hrun hmm
  go_loopw [24] (fun i wr => i = .int .i64 0 ∧ Hid (Below w.heap.size w wr)) (fun _ _ => 0)
  case atStart => exact ⟨rfl, HB5⟩
  case round =>
   obtain ⟨rfl, HB⟩ := hrel
   have HCP : Hid (CopyOf wr w.heap.size (.slice none 0 0) []) := hid ⟨w.heap.size, ⟨Nat.le_refl _, HB.out.size⟩, World.ownsRow_nil _ _ _ _, fun b hb => (by cases hb), fun t ht => (by cases ht), List.Pairwise.nil⟩
   go_wp2_with fail
   go_ret
   first | exact ⟨⟨_, HCP.out, s', HSR.out.1, by rw [HSR.out.2]; rfl⟩, HB.out⟩ | exact ⟨⟨_, rfl, _, HCP.out, s', HSR.out.1, by rw [HSR.out.2]; rfl⟩, HB.out⟩ | exact ⟨⟨_, _, s', rfl, HCP.out, HSR.out.1, by rw [HSR.out.2]; rfl⟩, HB.out⟩
 ·have HP := hid hP
  have HAP := hid hap
  have HO2 := hid hO2
  have hg2 : g < base2 := HVB.out g rfl
  have HST := hid hst
  have HOK2 := hid hok2
  have HSL := hid hsl
  clear hP hap hO2 hTs hst hok2 hsl
  go_wp2_with fail
  refine CR.out.mono ?_
  rintro e w3 ⟨⟨bM, nM, cM, rfl, hnM, hbM, hM⟩, h3⟩
  have hmm := @run_makeMap Try.prog
  have hlM := hM.lt
  have HM := hid (fun wx (hx : Below w3.heap.size w3 wx) => hM.below hx)
  have HO3 := hid (fun wx (hx : Below w3.heap.size w3 wx) => OwnT.below (OwnT.below HO2.out h3) hx)
  have HP3 := hid (fun wx (hx : Below w3.heap.size w3 wx) t ht => ((HP.out t ht).below h3).below hx)
  have HB3 := hid (below_then hb2 h3)
  have hz3 := h3.size
  have HO2K := HO2
  have HPK := HP
  clear hM h3 CR HO2 HP hb2
  obtain ⟨hbg, hgz⟩ : w.heap.size ≤ g ∧ g < w2.heap.size := World.ownsRow.lt HO2K.out g rfl
  have hF : CanF s g w.heap.size base2 bM w3.heap.size (w3.heap.size + 1) (w3.heap.size + 1 + 1) := ⟨hg2, hbg, fun t ht b hb => by have := World.ownsRow.lt (HPK.out t ht) b hb; omega, HAP.out, by omega, hlM, by omega, by omega⟩
  have hs4 : ((w3.alloc (.map #[] 0)).alloc (.map #[] 0)).heap.size = w3.heap.size + 1 + 1 := by simp
  have hs5 : (w3.alloc (.map #[] 0)).heap.size = w3.heap.size + 1 := by simp
  have hm0 := ((MapI.made eI Try.prog 3 w3).alloc (.map #[] 0)).alloc (.map #[] 0)
  have hm1 := (MapI.made eI Try.prog 3 (w3.alloc (.map #[] 0))).alloc (.map #[] 0)
  have hm2 := MapI.made eI Try.prog 3 ((w3.alloc (.map #[] 0)).alloc (.map #[] 0))
  rw [hs5] at hm1
  rw [hs4] at hm2
  have hx5 : Below w3.heap.size w3 (((w3.alloc (.map #[] 0)).alloc (.map #[] 0)).alloc (.map #[] 0)) := (((Below.refl _ _).alloc (Nat.le_refl _) _).alloc (by rw [hs5]; omega) _).alloc (by rw [hs4]; omega) _
  obtain ⟨w5, hrun, hm3, hg5⟩ := putI_run keyI mapNames hm2 (by unfold maxLen; omega) (inI_of (x := 0) (by unfold IntOk; omega)) (0 : Int)
  have hrun : Sem.run Try.prog (Instr.mapUpdate 68 (.map (some (w3.heap.size + 1 + 1))) (.int .i64 0) (.int .i64 0)) (((w3.alloc (.map #[] 0)).alloc (.map #[] 0)).alloc (.map #[] 0)) = .ok () w5 := hrun
  have HQ0 : Hid (CanI s g cap w.heap.size base2 bM w3.heap.size (w3.heap.size + 1) (w3.heap.size + 1 + 1) nM cM 0 0 0 0 0 0 w5) := hid (CanI.start
   (World.ownsRow.kept (HO3.out _ hx5) hg5 (.inr (fun e => by simp [Value.ownBlock] at e; omega)))
   (fun t ht => World.ownsRow.kept (HP3.out _ hx5 t ht) hg5 (.inr (fun e => by have := World.ownsRow.lt (HPK.out t ht) _ e; omega)))
   ((HM.out _ hx5).kept hg5 (fun e => by injection e with e; omega)) (hm0.kept hg5 (fun e => by injection e with e; omega)) (hm1.kept hg5 (fun e => by injection e with e; omega)) (by simpa using hm3))
  have HB5 : Hid (Below w.heap.size w w5) := hid (by
   have h1 := below_then HB3.out hx5
   exact h1.grown hg5 h1.size (fun j hj => by cases hj; omega))
  have HFF := hid hF
  clear hm0 hm1 hm2 hm3 hx5 hs4 hs5 hg5 HM HO3 HP3 HO2K HPK hF
  go_wp2_with fail
  clear hrun hmm
  generalize w3.heap.size + 1 + 1 = bV at *
  generalize w3.heap.size + 1 = bK at *
  generalize w3.heap.size = bS at *
  go_loopw [24] (fun i wr => ∃ i' : Nat, i' ≤ s.length ∧ i = .int .i64 (i' : Int) ∧ Hid (CanI s g cap w.heap.size base2 bM bS bK bV nM cM i' 0 i' i' 0 0 wr) ∧ Hid (Below w.heap.size w wr)) (fun i _ => s.length - (intOf i).toNat)
  case atStart => exact ⟨0, by omega, rfl, HQ0, HB5⟩
  case round =>
   obtain ⟨i, hi, rfl, HQ, HB⟩ := hrel
   by_cases hlt : i < s.length
   ·have hki : (i : Int) < (s.length : Int) := by omega
    have hi9 := hlt
    have hq := HQ.out
    have hpV := hq.mV.lt
    have hMS := HFF.out.MS
    have hSK := HFF.out.SK
    have hKV := HFF.out.KV
    have hgM := HFF.out.gM
    obtain ⟨⟨a0, _⟩, ⟨a1, _⟩, ⟨a2, _⟩, a3⟩ := hq.cells hlt
    have hOi := hq.ops i hlt
    rw [opsTo_now, List.take_zero, List.map_nil, List.nil_append, List.drop_zero] at hOi
    obtain ⟨ua, uc, hu, _⟩ := hOi.ops.form
    have htb := HOK2.out s[i] (List.getElem_mem hlt)
    have hsl7 : s.length ≤ 64 := by have := HSL.out; omega
    have LK : ∀ x, x ∈ stL s → InI x → ∀ wx, MapI eI Try.prog 3 wx bM nM (rankF (stL s) (stL s)) cM → Sem.run Try.prog (Instr.lookup 35 (.map (some bM)) (.int .i64 x) false) wx = .ok (.int .i64 (rankI (stL s) x)) wx := fun x hx hi wx hM => by
     have := lookI_run false keyI mapII 0 (zeroI wx) hM hi
     rw [show rankF (stL s) (stL s) x = some (rankI (stL s) x) from if_pos hx] at this
     exact this
    have HLB := hid (LK s[i].b (stL_mem.2 ⟨_, List.getElem_mem hlt, .inl rfl⟩) (inI_of htb.1.2.1))
    have HLC := hid (LK s[i].c (stL_mem.2 ⟨_, List.getElem_mem hlt, .inr rfl⟩) (inI_of htb.1.2.2))
    have HXO : Hid (∀ o ∈ opsAt s i, InI o.key ∧ InI o.val) := hid (fun o ho => by
     rw [opsAt_eq hi9] at ho
     exact ⟨inI_of (htb.2 o ho).1, inI_of (htb.2 o ho).2⟩)
    have CO8 := hid (fun wx (q : CanI s g cap w.heap.size base2 bM bS bK bV nM cM i 0 i i 0 0 wx) => cof_any bS i (firsts (sTo s i)) s[i].s wx q.mS (by omega) (inI_of htb.1.1))
    have HSS := hid (fun wa wb (q : CanI s g cap w.heap.size base2 bM bS bK bV nM cM i 0 i i 0 0 wa) hM hg => CanI.ses (W1 := wb) HFF.out q hi9 hM hg)
    have HC3 := hid (fun wx (q : CanI s g cap w.heap.size base2 bM bS bK bV nM cM i 0 i (i + 1) 0 0 wx) x y => q.cells3 hi9 x y)
    have HCE := hid (fun wx (q : CanI s g cap w.heap.size base2 bM bS bK bV nM cM i 0 i (i + 1) 0 0 wx) => q.cell HFF.out hi9 _ _ _ (ses_now hi9) (rank_now s[i].b) (rank_now s[i].c))
    have HVC := hid (fun wx k kK kV (q : CanI s g cap w.heap.size base2 bM bS bK bV nM cM i k (i + 1) (i + 1) kK kV wx) => q.vcell hi9)
    have HOW := hid (fun wx k kK kV (q : CanI s g cap w.heap.size base2 bM bS bK bV nM cM i k (i + 1) (i + 1) kK kV wx) => q.ops i hi9)
    have HU2 := hid hu
    rw [hu] at a3
    rw [hu] at HVC
    rw [hu] at HOW
    clear LK hOi htb hu
    generalize s[i].s = sx at *
    generalize s[i].b = bx at *
    generalize s[i].c = cx at *
    generalize rankI (stL s) bx = py at *
    generalize rankI (stL s) cx = pz at *
    generalize ((posL (firsts (sTo s i)) sx : Nat) : Int) = px at *
    obtain ⟨b0, b1, b2, b3⟩ := txnBlock wr (.int .i64 sx) (.int .i64 bx) (.int .i64 cx) (.slice ua (opsAt s i).length uc) 41
    have hq8 := hq.below (box_below wr (.cells #[.int .i64 sx, .int .i64 bx, .int .i64 cx, .slice ua (opsAt s i).length uc] 41))
    have hb8 := HB.out.alloc HB.out.size (.cells #[.int .i64 sx, .int .i64 bx, .int .i64 cx, .slice ua (opsAt s i).length uc] 41)
    clear hq HQ HB
    go_upto_region 8 with fail
    generalize wr.alloc (.cells #[.int .i64 sx, .int .i64 bx, .int .i64 cx, .slice ua (opsAt s i).length uc] 41) = w8 at *
    generalize wr.heap.size = p9 at *
    have kd := (Below.refl w8.heap.size w8).drew
    have HQ8 := hid (hq8.below kd)
    have HB8 := hid hb8.drew
    have b0 := (kd.cell (p := ⟨p9, 0, none⟩) (block_lt b0)).trans b0
    have b1 := (kd.cell (p := ⟨p9, 1, none⟩) (block_lt b1)).trans b1
    have b2 := (kd.cell (p := ⟨p9, 2, none⟩) (block_lt b2)).trans b2
    have b3 := (kd.cell (p := ⟨p9, 3, none⟩) (block_lt b3)).trans b3
    have hd0 : decide ((i : Int) < 0) = false := decide_eq_false (by omega)
    have hd1 : decide ((s.length : Int) ≤ (i : Int)) = false := decide_eq_false (by omega)
    have hd2 : decide (s.length ≤ i) = false := decide_eq_false (by omega)
    have hbgS : w.heap.size ≤ bS := by have := HFF.out.bg; omega
    clear kd hq8 hb8 a0 a1 a2 a3
    refine wp_region_held_drew (S := fun wx => ((wx.cell? ⟨p9, 0, none⟩ = some (.int .i64 sx) ∧ wx.cell? ⟨p9, 1, none⟩ = some (.int .i64 bx) ∧ wx.cell? ⟨p9, 2, none⟩ = some (.int .i64 cx) ∧ wx.cell? ⟨p9, 3, none⟩ = some (.slice ua (opsAt s i).length uc)) ∧ MapI eI Try.prog 3 wx bM nM (rankF (stL s) (stL s)) cM)) (by kernel_rfl) ⟨⟨b0, b1, b2, b3⟩, HQ8.out.mM⟩ (fun hS0 => ?_)
    generalize w8.drew = wd at *
    refine tG (some 29) 0 ?vca0x1 rfl rfl (Or.inl ⟨by rfl, ?hca0x1⟩) hS0 ?rca0x1
    case hca0x1 => (intro w hw; obtain ⟨⟨m0, m1, m2, m3⟩, m4⟩ := hw; have l1 := HLB.out w m4; have l2 := HLC.out w m4; go_simp; try (with_reducible rfl))
    try simp only [Act.put, zA, zB, zC]
    refine tG (some 30) 1 ?vca1x2 rfl rfl (Or.inl ⟨by rfl, ?hca1x2⟩) hS0 ?rca1x2
    case hca1x2 => (intro w hw; obtain ⟨⟨m0, m1, m2, m3⟩, m4⟩ := hw; have l1 := HLB.out w m4; have l2 := HLC.out w m4; go_simp; try (with_reducible rfl))
    try simp only [Act.put, zA, zB, zC]
    refine tG (some 31) 2 ?vca2x3 rfl rfl (Or.inl ⟨by rfl, ?hca2x3⟩) hS0 ?rca2x3
    case hca2x3 => (intro w hw; obtain ⟨⟨m0, m1, m2, m3⟩, m4⟩ := hw; have l1 := HLB.out w m4; have l2 := HLC.out w m4; go_simp; try (with_reducible rfl))
    try simp only [Act.put, zA, zB, zC]
    refine tG (some 32) 3 ?vca3x4 rfl rfl (Or.inl ⟨by rfl, ?hca3x4⟩) hS0 ?rca3x4
    case hca3x4 => (intro w hw; obtain ⟨⟨m0, m1, m2, m3⟩, m4⟩ := hw; have l1 := HLB.out w m4; have l2 := HLC.out w m4; go_simp; try (with_reducible rfl))
    try simp only [Act.put, zA, zB, zC]
    refine tG (some 33) 4 ?vca4x5 rfl rfl (Or.inl ⟨by rfl, ?hca4x5⟩) hS0 ?rca4x5
    case hca4x5 => (intro w hw; obtain ⟨⟨m0, m1, m2, m3⟩, m4⟩ := hw; have l1 := HLB.out w m4; have l2 := HLC.out w m4; go_simp; try (with_reducible rfl))
    try simp only [Act.put, zA, zB, zC]
    refine tG (some 34) 5 ?vca5x6 rfl rfl (Or.inl ⟨by rfl, ?hca5x6⟩) hS0 ?rca5x6
    case hca5x6 => (intro w hw; obtain ⟨⟨m0, m1, m2, m3⟩, m4⟩ := hw; have l1 := HLB.out w m4; have l2 := HLC.out w m4; go_simp; try (with_reducible rfl))
    try simp only [Act.put, zA, zB, zC]
    refine tG (some 35) 6 ?vca6x7 rfl rfl (Or.inl ⟨by rfl, ?hca6x7⟩) hS0 ?rca6x7
    case hca6x7 => (intro w hw; obtain ⟨⟨m0, m1, m2, m3⟩, m4⟩ := hw; have l1 := HLB.out w m4; have l2 := HLC.out w m4; go_simp; try (with_reducible rfl))
    try simp only [Act.put, zA, zB, zC]
    refine tG (some 36) 7 ?vca7x8 rfl rfl (Or.inl ⟨by rfl, ?hca7x8⟩) hS0 ?rca7x8
    case hca7x8 => (intro w hw; obtain ⟨⟨m0, m1, m2, m3⟩, m4⟩ := hw; have l1 := HLB.out w m4; have l2 := HLC.out w m4; go_simp; try (with_reducible rfl))
    try simp only [Act.put, zA, zB, zC]
    refine tG (some 37) 8 ?vca8x9 rfl rfl (Or.inl ⟨by rfl, ?hca8x9⟩) hS0 ?rca8x9
    case hca8x9 => (intro w hw; obtain ⟨⟨m0, m1, m2, m3⟩, m4⟩ := hw; have l1 := HLB.out w m4; have l2 := HLC.out w m4; go_simp; try (with_reducible rfl))
    try simp only [Act.put, zA, zB, zC]
    refine tG (some 39) 10 ?vca10x10 rfl rfl (Or.inl ⟨by rfl, ?hca10x10⟩) hS0 ?rca10x10
    case hca10x10 => (intro w hw; obtain ⟨⟨m0, m1, m2, m3⟩, m4⟩ := hw; have l1 := HLB.out w m4; have l2 := HLC.out w m4; go_simp; try (with_reducible rfl))
    try simp only [Act.put, zA, zB, zC]
    refine tG (some 40) 11 ?vca11x11 rfl rfl (Or.inl ⟨by rfl, ?hca11x11⟩) hS0 ?rca11x11
    case hca11x11 => (intro w hw; obtain ⟨⟨m0, m1, m2, m3⟩, m4⟩ := hw; have l1 := HLB.out w m4; have l2 := HLC.out w m4; go_simp; try (with_reducible rfl))
    try simp only [Act.put, zA, zB, zC]
    refine tG (some 41) 12 ?vca12x12 rfl rfl (Or.inl ⟨by rfl, ?hca12x12⟩) hS0 ?rca12x12
    case hca12x12 => (intro w hw; obtain ⟨⟨m0, m1, m2, m3⟩, m4⟩ := hw; have l1 := HLB.out w m4; have l2 := HLC.out w m4; go_simp; try (with_reducible rfl))
    try simp only [Act.put, zA, zB, zC]
    refine tG (some 42) 13 ?vca13x13 rfl rfl (Or.inl ⟨by rfl, ?hca13x13⟩) hS0 ?rca13x13
    case hca13x13 => (intro w hw; obtain ⟨⟨m0, m1, m2, m3⟩, m4⟩ := hw; have l1 := HLB.out w m4; have l2 := HLC.out w m4; go_simp; try (with_reducible rfl))
    try simp only [Act.put, zA, zB, zC]
    refine tG (some 43) 14 ?vca14x14 rfl rfl (Or.inl ⟨by rfl, ?hca14x14⟩) hS0 ?rca14x14
    case hca14x14 => (intro w hw; obtain ⟨⟨m0, m1, m2, m3⟩, m4⟩ := hw; have l1 := HLB.out w m4; have l2 := HLC.out w m4; go_simp; try (with_reducible rfl))
    try simp only [Act.put, zA, zB, zC]
    refine tG (some 44) 15 ?vca15x15 rfl rfl (Or.inl ⟨by rfl, ?hca15x15⟩) hS0 ?rca15x15
    case hca15x15 => (intro w hw; obtain ⟨⟨m0, m1, m2, m3⟩, m4⟩ := hw; have l1 := HLB.out w m4; have l2 := HLC.out w m4; go_simp; try (with_reducible rfl))
    try simp only [Act.put, zA, zB, zC]
    refine tG (some 45) 16 ?vca16x16 rfl rfl (Or.inl ⟨by rfl, ?hca16x16⟩) hS0 ?rca16x16
    case hca16x16 => (intro w hw; obtain ⟨⟨m0, m1, m2, m3⟩, m4⟩ := hw; have l1 := HLB.out w m4; have l2 := HLC.out w m4; go_simp; try (with_reducible rfl))
    try simp only [Act.put, zA, zB, zC]
    refine tG (some 46) 17 ?vca17x17 rfl rfl (Or.inl ⟨by rfl, ?hca17x17⟩) hS0 ?rca17x17
    case hca17x17 => (intro w hw; obtain ⟨⟨m0, m1, m2, m3⟩, m4⟩ := hw; have l1 := HLB.out w m4; have l2 := HLC.out w m4; go_simp; try (with_reducible rfl))
    try simp only [Act.put, zA, zB, zC]
    refine rD 9 rfl (fun K hK => ?_)
    go_simp
    refine (CO8.out _ HQ8.out).mono ?_
    rintro e wA ⟨rfl, hMA, hgA⟩
    have HQA := hid (HSS.out _ _ HQ8.out hMA hgA)
    have sA : ((wA.cell? ⟨p9, 0, none⟩ = some (.int .i64 sx) ∧ wA.cell? ⟨p9, 1, none⟩ = some (.int .i64 bx) ∧ wA.cell? ⟨p9, 2, none⟩ = some (.int .i64 cx) ∧ wA.cell? ⟨p9, 3, none⟩ = some (.slice ua (opsAt s i).length uc)) ∧ MapI eI Try.prog 3 wA bM nM (rankF (stL s) (stL s)) cM) := ⟨⟨hgA.cell hS0.1.1 (fun e => absurd (Option.some.inj e) (by show p9 ≠ bS; omega)), hgA.cell hS0.1.2.1 (fun e => absurd (Option.some.inj e) (by show p9 ≠ bS; omega)), hgA.cell hS0.1.2.2.1 (fun e => absurd (Option.some.inj e) (by show p9 ≠ bS; omega)), hgA.cell hS0.1.2.2.2 (fun e => absurd (Option.some.inj e) (by show p9 ≠ bS; omega))⟩, HQA.out.mM⟩
    have HBA := hid (HB8.out.grown hgA HB8.out.size (fun j hj => by cases hj; omega))
    show K _ _
    refine hK.out _ _ sA (fun _ => ?_)
    clear hK K hMA hgA
    refine tG (some 47) 18 ?vca18x19 rfl rfl (Or.inl ⟨by rfl, ?hca18x19⟩) sA ?rca18x19
    case hca18x19 => (intro w hw; obtain ⟨⟨m0, m1, m2, m3⟩, m4⟩ := hw; have l1 := HLB.out w m4; have l2 := HLC.out w m4; go_simp; try (with_reducible rfl))
    try simp only [Act.put, zA, zB, zC]
    refine tG (some 48) 19 ?vca19x20 rfl rfl (Or.inl ⟨by rfl, ?hca19x20⟩) sA ?rca19x20
    case hca19x20 => (intro w hw; obtain ⟨⟨m0, m1, m2, m3⟩, m4⟩ := hw; have l1 := HLB.out w m4; have l2 := HLC.out w m4; go_simp; try (with_reducible rfl))
    try simp only [Act.put, zA, zB, zC]
    refine rD 20 rfl (fun K hK => ?_)
    have hc3 := HC3.out _ HQA.out px py
    have hc0 := hc3.1.1
    have hf0 := hc3.1.2
    go_simp
    have sB : (((wA.setCell ⟨g, i * 4, none⟩ (.int .i64 px)).cell? ⟨p9, 0, none⟩ = some (.int .i64 sx) ∧ (wA.setCell ⟨g, i * 4, none⟩ (.int .i64 px)).cell? ⟨p9, 1, none⟩ = some (.int .i64 bx) ∧ (wA.setCell ⟨g, i * 4, none⟩ (.int .i64 px)).cell? ⟨p9, 2, none⟩ = some (.int .i64 cx) ∧ (wA.setCell ⟨g, i * 4, none⟩ (.int .i64 px)).cell? ⟨p9, 3, none⟩ = some (.slice ua (opsAt s i).length uc)) ∧ MapI eI Try.prog 3 (wA.setCell ⟨g, i * 4, none⟩ (.int .i64 px)) bM nM (rankF (stL s) (stL s)) cM) := ⟨⟨(World.cell?_setCell_other _ _ _ _ (fun e => by injection e with e; omega)).trans sA.1.1, (World.cell?_setCell_other _ _ _ _ (fun e => by injection e with e; omega)).trans sA.1.2.1, (World.cell?_setCell_other _ _ _ _ (fun e => by injection e with e; omega)).trans sA.1.2.2.1, (World.cell?_setCell_other _ _ _ _ (fun e => by injection e with e; omega)).trans sA.1.2.2.2⟩, sA.2.cell (by show bM ≠ g; omega) _⟩
    refine hK.out _ _ sB (fun _ => ?_)
    clear hK K hc0 hf0 hc3
    refine tG (some 49) 21 ?vca21x22 rfl rfl (Or.inl ⟨by rfl, ?hca21x22⟩) sB ?rca21x22
    case hca21x22 => (intro w hw; obtain ⟨⟨m0, m1, m2, m3⟩, m4⟩ := hw; have l1 := HLB.out w m4; have l2 := HLC.out w m4; go_simp; try (with_reducible rfl))
    try simp only [Act.put, zA, zB, zC]
    refine tG (some 50) 22 ?vca22x23 rfl rfl (Or.inl ⟨by rfl, ?hca22x23⟩) sB ?rca22x23
    case hca22x23 => (intro w hw; obtain ⟨⟨m0, m1, m2, m3⟩, m4⟩ := hw; have l1 := HLB.out w m4; have l2 := HLC.out w m4; go_simp; try (with_reducible rfl))
    try simp only [Act.put, zA, zB, zC]
    refine rD 23 rfl (fun K hK => ?_)
    have hc3 := HC3.out _ HQA.out px py
    have hc0 := hc3.2.1.1
    have hf0 := hc3.2.1.2
    go_simp
    have sC : ((((wA.setCell ⟨g, i * 4, none⟩ (.int .i64 px)).setCell ⟨g, i * 4 + 1, none⟩ (.int .i64 py)).cell? ⟨p9, 0, none⟩ = some (.int .i64 sx) ∧ ((wA.setCell ⟨g, i * 4, none⟩ (.int .i64 px)).setCell ⟨g, i * 4 + 1, none⟩ (.int .i64 py)).cell? ⟨p9, 1, none⟩ = some (.int .i64 bx) ∧ ((wA.setCell ⟨g, i * 4, none⟩ (.int .i64 px)).setCell ⟨g, i * 4 + 1, none⟩ (.int .i64 py)).cell? ⟨p9, 2, none⟩ = some (.int .i64 cx) ∧ ((wA.setCell ⟨g, i * 4, none⟩ (.int .i64 px)).setCell ⟨g, i * 4 + 1, none⟩ (.int .i64 py)).cell? ⟨p9, 3, none⟩ = some (.slice ua (opsAt s i).length uc)) ∧ MapI eI Try.prog 3 ((wA.setCell ⟨g, i * 4, none⟩ (.int .i64 px)).setCell ⟨g, i * 4 + 1, none⟩ (.int .i64 py)) bM nM (rankF (stL s) (stL s)) cM) := ⟨⟨(World.cell?_setCell_other _ _ _ _ (fun e => by injection e with e; omega)).trans sB.1.1, (World.cell?_setCell_other _ _ _ _ (fun e => by injection e with e; omega)).trans sB.1.2.1, (World.cell?_setCell_other _ _ _ _ (fun e => by injection e with e; omega)).trans sB.1.2.2.1, (World.cell?_setCell_other _ _ _ _ (fun e => by injection e with e; omega)).trans sB.1.2.2.2⟩, sB.2.cell (by show bM ≠ g; omega) _⟩
    refine hK.out _ _ sC (fun _ => ?_)
    clear hK K hc0 hf0 hc3
    refine tG (some 51) 24 ?vca24x25 rfl rfl (Or.inl ⟨by rfl, ?hca24x25⟩) sC ?rca24x25
    case hca24x25 => (intro w hw; obtain ⟨⟨m0, m1, m2, m3⟩, m4⟩ := hw; have l1 := HLB.out w m4; have l2 := HLC.out w m4; go_simp; try (with_reducible rfl))
    try simp only [Act.put, zA, zB, zC]
    refine tG (some 52) 25 ?vca25x26 rfl rfl (Or.inl ⟨by rfl, ?hca25x26⟩) sC ?rca25x26
    case hca25x26 => (intro w hw; obtain ⟨⟨m0, m1, m2, m3⟩, m4⟩ := hw; have l1 := HLB.out w m4; have l2 := HLC.out w m4; go_simp; try (with_reducible rfl))
    try simp only [Act.put, zA, zB, zC]
    refine rD 26 rfl (fun K hK => ?_)
    have hc3 := HC3.out _ HQA.out px py
    have hc0 := hc3.2.2.1
    have hf0 := hc3.2.2.2
    go_simp
    have sD : (((((wA.setCell ⟨g, i * 4, none⟩ (.int .i64 px)).setCell ⟨g, i * 4 + 1, none⟩ (.int .i64 py)).setCell ⟨g, i * 4 + 2, none⟩ (.int .i64 pz)).cell? ⟨p9, 0, none⟩ = some (.int .i64 sx) ∧ (((wA.setCell ⟨g, i * 4, none⟩ (.int .i64 px)).setCell ⟨g, i * 4 + 1, none⟩ (.int .i64 py)).setCell ⟨g, i * 4 + 2, none⟩ (.int .i64 pz)).cell? ⟨p9, 1, none⟩ = some (.int .i64 bx) ∧ (((wA.setCell ⟨g, i * 4, none⟩ (.int .i64 px)).setCell ⟨g, i * 4 + 1, none⟩ (.int .i64 py)).setCell ⟨g, i * 4 + 2, none⟩ (.int .i64 pz)).cell? ⟨p9, 2, none⟩ = some (.int .i64 cx) ∧ (((wA.setCell ⟨g, i * 4, none⟩ (.int .i64 px)).setCell ⟨g, i * 4 + 1, none⟩ (.int .i64 py)).setCell ⟨g, i * 4 + 2, none⟩ (.int .i64 pz)).cell? ⟨p9, 3, none⟩ = some (.slice ua (opsAt s i).length uc)) ∧ MapI eI Try.prog 3 (((wA.setCell ⟨g, i * 4, none⟩ (.int .i64 px)).setCell ⟨g, i * 4 + 1, none⟩ (.int .i64 py)).setCell ⟨g, i * 4 + 2, none⟩ (.int .i64 pz)) bM nM (rankF (stL s) (stL s)) cM) := ⟨⟨(World.cell?_setCell_other _ _ _ _ (fun e => by injection e with e; omega)).trans sC.1.1, (World.cell?_setCell_other _ _ _ _ (fun e => by injection e with e; omega)).trans sC.1.2.1, (World.cell?_setCell_other _ _ _ _ (fun e => by injection e with e; omega)).trans sC.1.2.2.1, (World.cell?_setCell_other _ _ _ _ (fun e => by injection e with e; omega)).trans sC.1.2.2.2⟩, sC.2.cell (by show bM ≠ g; omega) _⟩
    refine hK.out _ _ sD (fun _ => ?_)
    clear hK K hc0 hf0 hc3
    refine wpAnyH_done (by kernel_rfl) ?_ _
    have HQC := hid (HCE.out _ HQA.out)
    have hbg2 := HFF.out.bg
    have HBC := hid (((HBA.out.setCell (p := ⟨g, i * 4, none⟩) hbg2 (.int .i64 px)).setCell (p := ⟨g, i * 4 + 1, none⟩) hbg2 (.int .i64 py)).setCell (p := ⟨g, i * 4 + 2, none⟩) hbg2 (.int .i64 pz))
    have hv9 := sD.1.2.2.2
    clear sA sB sC sD hS0 HQA HBA b0 b1 b2 b3
    generalize (((wA.setCell ⟨g, i * 4, none⟩ (.int .i64 px)).setCell ⟨g, i * 4 + 1, none⟩ (.int .i64 py)).setCell ⟨g, i * 4 + 2, none⟩ (.int .i64 pz)) = wB at *
    go_wp2_with fail
    go_loopw [56] (fun k wr => ∃ k' : Nat, k' ≤ (opsAt s i).length ∧ k = .int .i64 (k' : Int) ∧ Hid (CanI s g cap w.heap.size base2 bM bS bK bV nM cM i k' (i + 1) (i + 1) k' k' wr) ∧ Hid (Below w.heap.size w wr)) (fun k _ => (opsAt s i).length - (intOf k).toNat)
    case atStart => exact ⟨0, by omega, rfl, HQC, HBC⟩
    case round =>
     obtain ⟨k, hk, rfl, HQk, HBk⟩ := hrel
     clear hv9 HQC HBC HQ8 HB8
     by_cases hlk : k < (opsAt s i).length
     ·have hkk : (k : Int) < ((opsAt s i).length : Int) := by omega
      have hqk := HQk.out
      have hpk := hqk.mV.lt
      have hOk := HOW.out _ _ _ _ hqk
      have hkl : k < (opsTo s i k i).length := by rw [opsTo_len]; exact hlk
      obtain ⟨g2, cp2, e2, hg2b⟩ := own_first hOk (by omega)
      obtain ⟨rfl, rfl⟩ : ua = some ⟨g2, 0, none⟩ ∧ uc = cp2 := ⟨(Value.slice.inj e2).1, (Value.slice.inj e2).2.2⟩
      obtain ⟨gr, orr, hor, e0, e1, e3⟩ := hOk.ops.at hkl
      cases hor
      rw [opsTo_at hlk hkl] at e0 e1 e3
      simp only [Nat.zero_add] at e0 e1 e3
      have hg2M : g2 < bM := (HFF.out.op hi9 (by rw [HU2.out]; rfl)).2
      have hg2w : w.heap.size ≤ g2 := by have h1 := (HFF.out.op hi9 (b := g2) (by rw [HU2.out]; rfl)).1; have h2 := HB2.out; omega
      have hgg : g ≠ g2 := by have h1 := (HFF.out.op hi9 (b := g2) (by rw [HU2.out]; rfl)).1; have h2 := HFF.out.g2; omega
      have hopn : opsN (s.take i) ≤ 1024 := Nat.le_trans (opsN_le s i) hop
      have hokn : (opsAt s i).length ≤ 1024 := by have h1 := opsN_take s i hi9; have h2 := opsN_le s (i + 1); rw [opsAt_eq hi9]; omega
      have hxo := HXO.out _ (List.getElem_mem hlk)
      have COK := hid (fun wx (q : CanI s g cap w.heap.size base2 bM bS bK bV nM cM i k (i + 1) (i + 1) k k wx) => cof_any bK (opsN (s.take i) + k) (firsts (kTo s i k)) (opsAt s i)[k].key wx q.mK (by omega) hxo.1)
      have COV := hid (fun wx (q : CanI s g cap w.heap.size base2 bM bS bK bV nM cM i k (i + 1) (i + 1) (k + 1) k wx) => cof_any bV (opsN (s.take i) + k + 1) (0 :: firsts (valP (vTo s i k))) (opsAt s i)[k].val wx q.mV (by omega) hxo.2)
      have HSK := hid (fun wa wb (q : CanI s g cap w.heap.size base2 bM bS bK bV nM cM i k (i + 1) (i + 1) k k wa) hM hg => CanI.key (W1 := wb) HFF.out q hlk hM hg)
      have HSV := hid (fun wa wb (q : CanI s g cap w.heap.size base2 bM bS bK bV nM cM i k (i + 1) (i + 1) (k + 1) k wa) hM hg => CanI.val (W1 := wb) HFF.out q hlk hM hg)
      have HSO := hid (fun wx (q : CanI s g cap w.heap.size base2 bM bS bK bV nM cM i k (i + 1) (i + 1) (k + 1) (k + 1) wx) => q.op HFF.out hi9 hlk HU2.out _ (cOp_now hi9 hlk))
      have HTH : Hid (∀ wx, CanI s g cap w.heap.size base2 bM bS bK bV nM cM i k (i + 1) (i + 1) (k + 1) (k + 1) wx → wx.there g2 (k * 3) 3) := hid (fun wx q j hj => by
       have h1 := HOW.out _ _ _ _ q
       have hl3 : (opsTo s i k i).length = (opsAt s i).length := opsTo_len i
       unfold Own at h1
       rw [hl3] at h1
       have h2 := owns_at (j := k * 3 + j) h1 (by omega)
       refine ⟨?_, h2.2⟩
       rw [h2.1]
       have : k * 3 + j < (opV (opsTo s i k i)).length := by rw [opV_len]; omega
       rw [List.getElem?_eq_getElem this]; rfl)
      have hv3 := HVC.out _ _ _ _ hqk
      generalize (opsAt s i)[k] = x at *
      obtain ⟨xw, xk, xv⟩ := x
      simp only at e0 e1 e3 COK COV HSK HSV HSO
      generalize ((posL (firsts (kTo s i k)) xk : Nat) : Int) = pk at *
      generalize ((posL (0 :: firsts (valP (vTo s i k))) xv : Nat) : Int) = pv at *
      obtain ⟨z0, z1, z2⟩ := opBlock wr (.bool xw) (.int .i64 xk) (.int .i64 xv) 45
      have hbx := box_below wr (.cells #[.bool xw, .int .i64 xk, .int .i64 xv] 45)
      have hv3 := (hbx.cell (p := ⟨g, i * 4 + 3, none⟩) (block_lt hv3)).trans hv3
      have hqk8 := hqk.below hbx
      have hbk8 := HBk.out.alloc HBk.out.size (.cells #[.bool xw, .int .i64 xk, .int .i64 xv] 45)
      clear hqk hOk hkl e2 hbx HQk HBk hxo
      go_upto_region 12 with fail
      generalize wr.alloc (.cells #[.bool xw, .int .i64 xk, .int .i64 xv] 45) = w11 at *
      generalize wr.heap.size = p11 at *
      have kd := (Below.refl w11.heap.size w11).drew
      have HQ8 := hid (hqk8.below kd)
      have HB8 := hid hbk8.drew
      have z0 := (kd.cell (p := ⟨p11, 0, none⟩) (block_lt z0)).trans z0
      have z1 := (kd.cell (p := ⟨p11, 1, none⟩) (block_lt z1)).trans z1
      have z2 := (kd.cell (p := ⟨p11, 2, none⟩) (block_lt z2)).trans z2
      have hv3 := (kd.cell (p := ⟨g, i * 4 + 3, none⟩) (block_lt hv3)).trans hv3
      have hd3 : decide ((k : Int) < 0) = false := decide_eq_false (by omega)
      have hd4 : decide (((opsAt s i).length : Int) ≤ (k : Int)) = false := decide_eq_false (by omega)
      have hd5 : decide ((opsAt s i).length ≤ k) = false := decide_eq_false (by omega)
      clear kd hqk8 hbk8 e0 e1 e3
      refine wp_region_held_drew (S := fun wx => ((wx.cell? ⟨p11, 0, none⟩ = some (.bool xw) ∧ wx.cell? ⟨p11, 1, none⟩ = some (.int .i64 xk) ∧ wx.cell? ⟨p11, 2, none⟩ = some (.int .i64 xv)) ∧ wx.cell? ⟨g, i * 4 + 3, none⟩ = some (.slice (some ⟨g2, 0, none⟩) (opsAt s i).length uc))) (by kernel_rfl) ⟨⟨z0, z1, z2⟩, hv3⟩ (fun hS0 => ?_)
      generalize w11.drew = wd at *
      refine tG (some 61) 0 ?vcb0x1 rfl rfl (Or.inl ⟨by rfl, ?hcb0x1⟩) hS0 ?rcb0x1
      case hcb0x1 => (intro w hw; obtain ⟨⟨m0, m1, m2⟩, m3⟩ := hw; go_simp; try (with_reducible rfl))
      try simp only [Act.put, zA, zB, zC]
      refine tG (some 62) 1 ?vcb1x2 rfl rfl (Or.inl ⟨by rfl, ?hcb1x2⟩) hS0 ?rcb1x2
      case hcb1x2 => (intro w hw; obtain ⟨⟨m0, m1, m2⟩, m3⟩ := hw; go_simp; try (with_reducible rfl))
      try simp only [Act.put, zA, zB, zC]
      refine tG (some 63) 2 ?vcb2x3 rfl rfl (Or.inl ⟨by rfl, ?hcb2x3⟩) hS0 ?rcb2x3
      case hcb2x3 => (intro w hw; obtain ⟨⟨m0, m1, m2⟩, m3⟩ := hw; go_simp; try (with_reducible rfl))
      try simp only [Act.put, zA, zB, zC]
      refine tG (some 64) 3 ?vcb3x4 rfl rfl (Or.inl ⟨by rfl, ?hcb3x4⟩) hS0 ?rcb3x4
      case hcb3x4 => (intro w hw; obtain ⟨⟨m0, m1, m2⟩, m3⟩ := hw; go_simp; try (with_reducible rfl))
      try simp only [Act.put, zA, zB, zC]
      refine tG (some 65) 4 ?vcb4x5 rfl rfl (Or.inl ⟨by rfl, ?hcb4x5⟩) hS0 ?rcb4x5
      case hcb4x5 => (intro w hw; obtain ⟨⟨m0, m1, m2⟩, m3⟩ := hw; go_simp; try (with_reducible rfl))
      try simp only [Act.put, zA, zB, zC]
      refine tG (some 66) 5 ?vcb5x6 rfl rfl (Or.inl ⟨by rfl, ?hcb5x6⟩) hS0 ?rcb5x6
      case hcb5x6 => (intro w hw; obtain ⟨⟨m0, m1, m2⟩, m3⟩ := hw; go_simp; try (with_reducible rfl))
      try simp only [Act.put, zA, zB, zC]
      refine tG (some 67) 6 ?vcb6x7 rfl rfl (Or.inl ⟨by rfl, ?hcb6x7⟩) hS0 ?rcb6x7
      case hcb6x7 => (intro w hw; obtain ⟨⟨m0, m1, m2⟩, m3⟩ := hw; go_simp; try (with_reducible rfl))
      try simp only [Act.put, zA, zB, zC]
      refine tG (some 68) 7 ?vcb7x8 rfl rfl (Or.inl ⟨by rfl, ?hcb7x8⟩) hS0 ?rcb7x8
      case hcb7x8 => (intro w hw; obtain ⟨⟨m0, m1, m2⟩, m3⟩ := hw; go_simp; try (with_reducible rfl))
      try simp only [Act.put, zA, zB, zC]
      refine tG (some 69) 8 ?vcb8x9 rfl rfl (Or.inl ⟨by rfl, ?hcb8x9⟩) hS0 ?rcb8x9
      case hcb8x9 => (intro w hw; obtain ⟨⟨m0, m1, m2⟩, m3⟩ := hw; go_simp; try (with_reducible rfl))
      try simp only [Act.put, zA, zB, zC]
      refine tG (some 70) 9 ?vcb9x10 rfl rfl (Or.inl ⟨by rfl, ?hcb9x10⟩) hS0 ?rcb9x10
      case hcb9x10 => (intro w hw; obtain ⟨⟨m0, m1, m2⟩, m3⟩ := hw; go_simp; try (with_reducible rfl))
      try simp only [Act.put, zA, zB, zC]
      refine tG (some 71) 10 ?vcb10x11 rfl rfl (Or.inl ⟨by rfl, ?hcb10x11⟩) hS0 ?rcb10x11
      case hcb10x11 => (intro w hw; obtain ⟨⟨m0, m1, m2⟩, m3⟩ := hw; go_simp; try (with_reducible rfl))
      try simp only [Act.put, zA, zB, zC]
      refine tG (some 73) 12 ?vcb12x12 rfl rfl (Or.inl ⟨by rfl, ?hcb12x12⟩) hS0 ?rcb12x12
      case hcb12x12 => (intro w hw; obtain ⟨⟨m0, m1, m2⟩, m3⟩ := hw; go_simp; try (with_reducible rfl))
      try simp only [Act.put, zA, zB, zC]
      refine tG (some 74) 13 ?vcb13x13 rfl rfl (Or.inl ⟨by rfl, ?hcb13x13⟩) hS0 ?rcb13x13
      case hcb13x13 => (intro w hw; obtain ⟨⟨m0, m1, m2⟩, m3⟩ := hw; go_simp; try (with_reducible rfl))
      try simp only [Act.put, zA, zB, zC]
      refine tG (some 75) 14 ?vcb14x14 rfl rfl (Or.inl ⟨by rfl, ?hcb14x14⟩) hS0 ?rcb14x14
      case hcb14x14 => (intro w hw; obtain ⟨⟨m0, m1, m2⟩, m3⟩ := hw; go_simp; try (with_reducible rfl))
      try simp only [Act.put, zA, zB, zC]
      refine rD 11 rfl (fun K hK => ?_)
      go_simp
      refine (COK.out _ HQ8.out).mono ?_
      rintro e wK ⟨rfl, hMwK, hgwK⟩
      have HQK := hid (HSK.out _ _ HQ8.out hMwK hgwK)
      have swK : ((wK.cell? ⟨p11, 0, none⟩ = some (.bool xw) ∧ wK.cell? ⟨p11, 1, none⟩ = some (.int .i64 xk) ∧ wK.cell? ⟨p11, 2, none⟩ = some (.int .i64 xv)) ∧ wK.cell? ⟨g, i * 4 + 3, none⟩ = some (.slice (some ⟨g2, 0, none⟩) (opsAt s i).length uc)) := ⟨⟨hgwK.cell hS0.1.1 (fun e => absurd (Option.some.inj e) (by show p11 ≠ bK; omega)), hgwK.cell hS0.1.2.1 (fun e => absurd (Option.some.inj e) (by show p11 ≠ bK; omega)), hgwK.cell hS0.1.2.2 (fun e => absurd (Option.some.inj e) (by show p11 ≠ bK; omega))⟩, hgwK.cell hS0.2 (fun e => absurd (Option.some.inj e) (by show g ≠ bK; omega))⟩
      have HBK := hid (HB8.out.grown hgwK HB8.out.size (fun j hj => by cases hj; omega))
      show K _ _
      refine hK.out _ _ swK (fun _ => ?_)
      clear hK K hMwK hgwK
      refine rD 15 rfl (fun K hK => ?_)
      go_simp
      refine (COV.out _ HQK.out).mono ?_
      rintro e wV ⟨rfl, hMwV, hgwV⟩
      have HQV := hid (HSV.out _ _ HQK.out hMwV hgwV)
      have swV : ((wV.cell? ⟨p11, 0, none⟩ = some (.bool xw) ∧ wV.cell? ⟨p11, 1, none⟩ = some (.int .i64 xk) ∧ wV.cell? ⟨p11, 2, none⟩ = some (.int .i64 xv)) ∧ wV.cell? ⟨g, i * 4 + 3, none⟩ = some (.slice (some ⟨g2, 0, none⟩) (opsAt s i).length uc)) := ⟨⟨hgwV.cell swK.1.1 (fun e => absurd (Option.some.inj e) (by show p11 ≠ bV; omega)), hgwV.cell swK.1.2.1 (fun e => absurd (Option.some.inj e) (by show p11 ≠ bV; omega)), hgwV.cell swK.1.2.2 (fun e => absurd (Option.some.inj e) (by show p11 ≠ bV; omega))⟩, hgwV.cell swK.2 (fun e => absurd (Option.some.inj e) (by show g ≠ bV; omega))⟩
      have HBV := hid (HBK.out.grown hgwV HBK.out.size (fun j hj => by cases hj; omega))
      show K _ _
      refine hK.out _ _ swV (fun _ => ?_)
      clear hK K hMwV hgwV
      refine tG (some 77) 16 ?vcb16x17 rfl rfl (Or.inl ⟨by rfl, ?hcb16x17⟩) swV ?rcb16x17
      case hcb16x17 => (intro w hw; obtain ⟨⟨m0, m1, m2⟩, m3⟩ := hw; go_simp; try (with_reducible rfl))
      try simp only [Act.put, zA, zB, zC]
      refine tG (some 78) 17 ?vcb17x18 rfl rfl (Or.inl ⟨by rfl, ?hcb17x18⟩) swV ?rcb17x18
      case hcb17x18 => (intro w hw; obtain ⟨⟨m0, m1, m2⟩, m3⟩ := hw; go_simp; try (with_reducible rfl))
      try simp only [Act.put, zA, zB, zC]
      refine rD 18 rfl (fun K hK => ?_)
      have hth := HTH.out _ HQV.out
      refine wp_store_mid 45 _ _ rfl g2 (k * 3) #[.bool xw, .int .i64 pk, .int .i64 pv] rfl rfl hth (by kernel_rfl) (by simp [Value.oneCell']) ?_
      have sZ : (((wV.setCells g2 (k * 3) [.bool xw, .int .i64 pk, .int .i64 pv]).cell? ⟨p11, 0, none⟩ = some (.bool xw) ∧ (wV.setCells g2 (k * 3) [.bool xw, .int .i64 pk, .int .i64 pv]).cell? ⟨p11, 1, none⟩ = some (.int .i64 xk) ∧ (wV.setCells g2 (k * 3) [.bool xw, .int .i64 pk, .int .i64 pv]).cell? ⟨p11, 2, none⟩ = some (.int .i64 xv)) ∧ (wV.setCells g2 (k * 3) [.bool xw, .int .i64 pk, .int .i64 pv]).cell? ⟨g, i * 4 + 3, none⟩ = some (.slice (some ⟨g2, 0, none⟩) (opsAt s i).length uc)) := ⟨⟨(cell_put (by first | (show g ≠ g2; exact hgg) | (show p11 ≠ g2; omega)) _ _ _).trans swV.1.1, (cell_put (by first | (show g ≠ g2; exact hgg) | (show p11 ≠ g2; omega)) _ _ _).trans swV.1.2.1, (cell_put (by first | (show g ≠ g2; exact hgg) | (show p11 ≠ g2; omega)) _ _ _).trans swV.1.2.2⟩, (cell_put (by first | (show g ≠ g2; exact hgg) | (show p11 ≠ g2; omega)) _ _ _).trans swV.2⟩
      refine hK.out _ _ sZ (fun _ => ?_)
      clear hK K hth
      refine wpAnyH_done (by kernel_rfl) ?_ _
      have HQn := hid (HSO.out _ HQV.out)
      have HBn : Hid (Below w.heap.size w (wV.setCells g2 (k * 3) [.bool xw, .int .i64 pk, .int .i64 pv])) := hid (below_putC (by omega) _ _ _ HBV.out)
      clear hS0 swK swV sZ
      generalize (wV.setCells g2 (k * 3) [.bool xw, .int .i64 pk, .int .i64 pv]) = wZ at *
      go_wp2_with fail
      go_roundw
      case rel => exact ⟨k + 1, by omega, by go_num, HQn, HBn⟩
      case measure => simp [intOf]; omega
     ·obtain rfl : k = (opsAt s i).length := by omega
      have hkk : ¬ ((opsAt s i).length : Int) < ((opsAt s i).length : Int) := by omega
      have HQd := hid (CanI.done HQk.out hi9)
      clear HQk
      go_wp2_with fail
      go_roundw
      case rel => exact ⟨i + 1, by omega, by go_num, HQd, HBk⟩
      case measure => simp [intOf]; omega
   ·obtain rfl : i = s.length := by omega
    have hki : ¬ (s.length : Int) < (s.length : Int) := by omega
    have HCP := hid (HQ.out.copy HFF.out HB2.out (by have := HQ.out.mM.lt; omega))
    clear HQ
    go_wp2_with fail
    go_ret
    exact ⟨⟨_, rfl, _, HCP.out, s', HSR.out.1, by rw [HSR.out.2]; exact cTx_canE s⟩, HB.out⟩
end

section
open Go.RowKit
theorem canof_ok (va : Value) (h : List TxnV) (w : World) (hT : Txns w va h) (hok : ∀ t ∈ h, t.ok) (hsh : Short h) (hc : checkI h = 0) :
  Calls Try.prog 8 #[va] w fun e w' => (∃ v c s, e = .returned v ∧ CopyOf w' w.heap.size v c ∧ IsSrt h s ∧ c.map txE = canE (s.map txE)) ∧ Below w.heap.size w w' := by
 have CC := hid (hcheck_any va h w hT hok hsh)
 rw [hc] at CC
 have CN := hid (fun wx (hx : Below w.heap.size w wx) => cnamed_any va h wx (hT.below hx) hok hc)
 clear hT hok hsh hc
 go_enter Try.func8, Try.ntmps8
 go_wp2_with fail
 refine CC.out.mono ?_
 rintro e w1 ⟨rfl, h1⟩
 have CN1 := hid (CN.out _ h1)
 clear CN CC
 go_wp2_with fail
 refine CN1.out.mono ?_
 rintro e w2 ⟨⟨v, c, s, rfl, hC, hs, hce⟩, h2⟩
 have HR := hid (show ∃ b2, (w.heap.size ≤ b2 ∧ b2 ≤ w2.heap.size) ∧ OwnT w2 w.heap.size v c ∧ (∀ b, v.ownBlock = some b → b < b2) ∧ (∀ t ∈ c, Own w2 b2 t.v t.l) ∧ c.Pairwise ApartT from by
  obtain ⟨b2, x1, x2, x3, x4, x5⟩ := hC
  exact ⟨b2, ⟨Nat.le_trans h1.size x1.1, x1.2⟩, own_base' x2 h1.size, x3, x4, x5⟩)
 have HS := hid (And.intro hs hce)
 have hb := below_then h1 h2
 clear hC hs hce h1 h2 CN1
 go_wp2_with fail
 go_ret
 first | exact ⟨⟨_, rfl, c, HR.out, s, HS.out.1, HS.out.2⟩, hb⟩ | exact ⟨⟨_, c, s, rfl, HR.out, HS.out.1, HS.out.2⟩, hb⟩ | exact ⟨⟨c, HR.out, s, HS.out.1, HS.out.2⟩, hb⟩
theorem canis_ok (va : Value) (h s : List TxnV) (w : World) (hT : Txns w va h) (hok : ∀ t ∈ h, t.ok) (hsh : Short h) (hc : checkI h = 0) (hs : IsSrt h s) :
  Calls Try.prog 10 #[va] w fun e w' => e = .returned (.bool (decide (canE (s.map txE) = h.map txE))) ∧ Below w.heap.size w w' := by
 have CC := hid (hcheck_any va h w hT hok hsh)
 rw [hc] at CC
 have CN := hid (fun wx (hx : Below w.heap.size w wx) => cnamed_any va h wx (hT.below hx) hok hc)
 have HT := hid (fun wx (hx : Below w.heap.size w wx) => hT.below hx)
 have HS := hid hs
 clear hT hok hsh hc hs
 go_enter Try.func10, Try.ntmps10
 go_wp2_with fail
 refine CC.out.mono ?_
 rintro e w1 ⟨rfl, h1⟩
 have CN1 := hid (CN.out _ h1)
 clear CN CC
 go_wp2_with fail
 refine CN1.out.mono ?_
 rintro e w2 ⟨⟨v, c, s2, rfl, hC, hs2, hce⟩, h2⟩
 have hb := below_then h1 h2
 have CS := hid (sameH_any v va c h w2 hC.txns (HT.out _ hb))
 rw [show sameH c h = decide (canE (s.map txE) = h.map txE) from by rw [HS.out |> fun q => srt_eq q hs2, ← hce]; rfl] at CS
 obtain ⟨q, hq⟩ : ∃ q, decide (canE (s.map txE) = h.map txE) = q := ⟨_, rfl⟩
 rw [hq] at CS
 have HQ := hid hq
 clear hq
 clear hC hs2 hce h1 h2 CN1
 go_wp2_with fail
 refine CS.out.mono ?_
 rintro e w3 ⟨rfl, h3⟩
 have hb := below_then hb h3
 go_wp2_with fail
 go_ret
 exact ⟨ret_b HQ.out.symm, hb⟩
theorem cansame_ok (va vb : Value) (h g s u : List TxnV) (w : World) (hT : Txns w va h) (hok : ∀ t ∈ h, t.ok) (hsh : Short h) (hc : checkI h = 0) (hs : IsSrt h s) (hT2 : Txns w vb g) (hok2 : ∀ t ∈ g, t.ok) (hsh2 : Short g) (hc2 : checkI g = 0) (hs2 : IsSrt g u) :
  Calls Try.prog 11 #[va, vb] w fun e w' => e = .returned (.bool (decide (canE (s.map txE) = canE (u.map txE)))) ∧ Below w.heap.size w w' := by
 have CC := hid (hcheck_any va h w hT hok hsh)
 rw [hc] at CC
 have CC2 := hid (fun wx (hx : Below w.heap.size w wx) => hcheck_any vb g wx (hT2.below hx) hok2 hsh2)
 rw [hc2] at CC2
 have CN := hid (fun wx (hx : Below w.heap.size w wx) => cnamed_any va h wx (hT.below hx) hok hc)
 have CN2 := hid (fun wx (hx : Below w.heap.size w wx) => cnamed_any vb g wx (hT2.below hx) hok2 hc2)
 have HS := hid (And.intro hs hs2)
 clear hT hok hsh hc hs hT2 hok2 hsh2 hc2 hs2
 go_enter Try.func11, Try.ntmps11
 go_wp2_with fail
 refine CC.out.mono ?_
 rintro e w1 ⟨rfl, h1⟩
 have CC3 := hid (CC2.out _ h1)
 clear CC CC2
 go_wp2_with fail
 refine CC3.out.mono ?_
 rintro e w2 ⟨rfl, h2⟩
 have hb2 := below_then h1 h2
 have CN1 := hid (CN.out _ hb2)
 clear CN CC3 h1 h2
 go_wp2_with fail
 refine CN1.out.mono ?_
 rintro e w3 ⟨⟨v, c, s2, rfl, hC, hs2, hce⟩, h3⟩
 have hb3 := below_then hb2 h3
 have CN3 := hid (CN2.out _ hb3)
 have HC := hid hC
 have HE := hid (And.intro hs2 hce)
 clear CN1 CN2 h3 hb2 hC hs2 hce
 go_wp2_with fail
 refine CN3.out.mono ?_
 rintro e w4 ⟨⟨v2, c2, s3, rfl, hC2, hs3, hce3⟩, h4⟩
 have hb4 := below_then hb3 h4
 have CS := hid (sameH_any v v2 c c2 w4 (HC.out.txns.below h4) hC2.txns)
 rw [show sameH c c2 = decide (canE (s.map txE) = canE (u.map txE)) from by rw [srt_eq HS.out.1 HE.out.1, srt_eq HS.out.2 hs3, ← HE.out.2, ← hce3]; rfl] at CS
 obtain ⟨q, hq⟩ : ∃ q, decide (canE (s.map txE) = canE (u.map txE)) = q := ⟨_, rfl⟩
 rw [hq] at CS
 have HQ := hid hq
 clear hq
 clear CN3 hb3 hC2 hs3 hce3 h4
 go_wp2_with fail
 refine CS.out.mono ?_
 rintro e w5 ⟨rfl, h5⟩
 have hb := below_then hb4 h5
 go_wp2_with fail
 go_ret
 exact ⟨ret_b HQ.out.symm, hb⟩
def spA (u : Value) : List TxnV := [⟨9, 5, 8, u, [⟨true, 3, 7⟩]⟩]
def spW (u : Value) : List TxnV := [⟨0, 0, 1, u, [⟨true, 0, 1⟩]⟩]
theorem spA_check (u : Value) : checkI (spA u) = 0 := by kernel_rfl
theorem spW_check (u : Value) : checkI (spW u) = 0 := by kernel_rfl
theorem spA_ok (u : Value) : ∀ t ∈ spA u, t.ok := by
 intro t ht
 simp [spA] at ht
 subst ht
 refine ⟨⟨?_, ?_, ?_⟩, ?_⟩
 iterate 3 (simp [IntOk])
 intro o ho; simp at ho; subst ho; simp [OpV.ok, IntOk]
theorem spW_ok (u : Value) : ∀ t ∈ spW u, t.ok := by
 intro t ht
 simp [spW] at ht
 subst ht
 refine ⟨⟨?_, ?_, ?_⟩, ?_⟩
 iterate 3 (simp [IntOk])
 intro o ho; simp at ho; subst ho; simp [OpV.ok, IntOk]
theorem spA_short (u : Value) : Short (spA u) := fun t ht => by simp [spA] at ht; subst ht; simp
theorem spW_short (u : Value) : Short (spW u) := fun t ht => by simp [spW] at ht; subst ht; simp
theorem srt_one (t : TxnV) : IsSrt [t] [t] := ⟨List.Perm.refl _, List.pairwise_singleton _ _⟩
theorem spA_can (u : Value) : canE ((spA u).map txE) = [(0, 0, 1, [⟨true, 0, 1⟩])] := by
 show canE [(9, 5, 8, [⟨true, 3, 7⟩])] = _
 decide +kernel
theorem spW_can (u : Value) : canE ((spW u).map txE) = [(0, 0, 1, [⟨true, 0, 1⟩])] := by
 show canE [(0, 0, 1, [⟨true, 0, 1⟩])] = _
 decide +kernel
theorem lit_txn (w : World) (s b c key val : Int) : Txns ((w.alloc (.cells #[.bool true, .int .i64 key, .int .i64 val] 45)).alloc (.cells #[.int .i64 s, .int .i64 b, .int .i64 c, .slice (some ⟨w.heap.size, 0, none⟩) 1 1] 41)) (.slice (some ⟨w.heap.size + 1, 0, none⟩) 1 1) [⟨s, b, c, .slice (some ⟨w.heap.size, 0, none⟩) 1 1, [⟨true, key, val⟩]⟩] := by
 have hO : Ops _ (.slice (some ⟨w.heap.size, 0, none⟩) 1 1) [⟨true, key, val⟩] := Row.of_owns (World.ownsRow_lit (base := 0) (e := 45) (size := 3) w #[.bool true, .int .i64 key, .int .i64 val] 1 (Nat.zero_le _) (by decide) rfl)
 have hR : Row _ _ 1 4 _ := Row.of_owns (World.ownsRow_lit (base := 0) (e := 41) (size := 4) (w.alloc (.cells #[.bool true, .int .i64 key, .int .i64 val] 45)) #[.int .i64 s, .int .i64 b, .int .i64 c, .slice (some ⟨w.heap.size, 0, none⟩) 1 1] 1 (Nat.zero_le _) (by decide) rfl)
 rw [show (w.alloc (.cells #[.bool true, .int .i64 key, .int .i64 val] 45)).heap.size = w.heap.size + 1 from by simp] at hR
 exact ⟨hR, fun t ht => by
  simp at ht
  subst ht
  exact hO.below (box_below _ _)⟩
theorem speaks22_any (w : World) :
  Calls Try.prog 6 #[] w fun e w' => e = .returned (.bool true) ∧ Below w.heap.size w w' := by
 have C1 := fun (wx : World) => hid (write_op 3 7 wx)
 have C2 := fun (wx : World) => hid (write_op 0 1 wx)
 go_enter Try.func6, Try.ntmps6
 go_wp2_with fail
 refine ((C1 w).out).mono ?_
 rintro e w1 ⟨rfl, hb1⟩
 have HT1 := hid (lit_txn w1 9 5 8 3 7)
 have hx1 := (box_below w1 (.cells #[.bool true, .int .i64 3, .int .i64 7] 45))
 have hx2 := below_then hx1 (box_below (w1.alloc (.cells #[.bool true, .int .i64 3, .int .i64 7] 45)) (.cells #[.int .i64 9, .int .i64 5, .int .i64 8, .slice (some ⟨w1.heap.size, 0, none⟩) 1 1] 41))
 have hb2 := below_then hb1 hx2
 clear hx1 hx2 hb1
 go_upto_region 2 with fail
 generalize (w1.alloc (.cells #[.bool true, .int .i64 3, .int .i64 7] 45)).alloc (.cells #[.int .i64 9, .int .i64 5, .int .i64 8, .slice (some ⟨w1.heap.size, 0, none⟩) 1 1] 41) = w2 at *
 generalize w1.heap.size = a1 at *
 go_wp2_with fail
 refine ((C2 _).out).mono ?_
 rintro e w3 ⟨rfl, hb3⟩
 have HT2 := hid (lit_txn w3 0 0 1 0 1)
 have hx1 := (box_below w3 (.cells #[.bool true, .int .i64 0, .int .i64 1] 45))
 have hx2 := below_then hx1 (box_below (w3.alloc (.cells #[.bool true, .int .i64 0, .int .i64 1] 45)) (.cells #[.int .i64 0, .int .i64 0, .int .i64 1, .slice (some ⟨w3.heap.size, 0, none⟩) 1 1] 41))
 have hb34 := below_then hb3 hx2
 have HTA := hid (HT1.out.below hb34)
 have HB4 := hid (below_then hb2 hb34)
 clear hx1 hx2 hb3 hb2 C1 C2 hb34 HT1
 go_upto_region 3 with fail
 generalize (w3.alloc (.cells #[.bool true, .int .i64 0, .int .i64 1] 45)).alloc (.cells #[.int .i64 0, .int .i64 0, .int .i64 1, .slice (some ⟨w3.heap.size, 0, none⟩) 1 1] 41) = w4 at *
 generalize w3.heap.size = a3 at *
 generalize hu1 : (Value.slice (some ⟨a1, 0, none⟩) 1 1) = u1 at HTA
 generalize hu3 : (Value.slice (some ⟨a3, 0, none⟩) 1 1) = u3 at HT2
 clear hu1 hu3
 have HA := hid (fun wx (hx : Below w4.heap.size w4 wx) => (show Txns wx _ (spA u1) from HTA.out.below hx))
 have HW := hid (fun wx (hx : Below w4.heap.size w4 wx) => (show Txns wx _ (spW u3) from HT2.out.below hx))
 have CO := hid (canof_ok _ (spA u1) w4 (HA.out _ (Below.refl _ _)) (spA_ok _) (spA_short _) (spA_check _))
 have CI1 := hid (fun wx (hx : Below w4.heap.size w4 wx) => canis_ok _ (spA u1) (spA u1) wx (HA.out _ hx) (spA_ok _) (spA_short _) (spA_check _) (srt_one _))
 rw [show decide (canE ((spA u1).map txE) = (spA u1).map txE) = false from by rw [spA_can]; rfl] at CI1
 have CI2 := hid (fun wx (hx : Below w4.heap.size w4 wx) => canis_ok _ (spW u3) (spW u3) wx (HW.out _ hx) (spW_ok _) (spW_short _) (spW_check _) (srt_one _))
 rw [show decide (canE ((spW u3).map txE) = (spW u3).map txE) = true from by rw [spW_can]; rfl] at CI2
 have CS := hid (fun wx (hx : Below w4.heap.size w4 wx) => cansame_ok _ _ (spA u1) (spW u3) (spA u1) (spW u3) wx (HA.out _ hx) (spA_ok _) (spA_short _) (spA_check _) (srt_one _) (HW.out _ hx) (spW_ok _) (spW_short _) (spW_check _) (srt_one _))
 rw [show decide (canE ((spA u1).map txE) = canE ((spW u3).map txE)) = true from by rw [spA_can, spW_can]; rfl] at CS
 clear HTA HT2 HA
 go_wp2_with fail
 refine CO.out.mono ?_
 rintro e w5 ⟨⟨v, c, s, rfl, hC, hs, hce⟩, h5⟩
 have hss : s = spA u1 := (srt_eq hs (srt_one _))
 have C6 := hid (sameH_any v _ c (spW u3) w5 hC.txns (HW.out _ h5))
 rw [show sameH c (spW u3) = true from by unfold sameH; rw [hce, hss, spA_can]; rfl] at C6
 clear CO hC hs hce hss HW
 go_wp2_with fail
 refine C6.out.mono ?_
 rintro e w6 ⟨rfl, h6⟩
 have h6 := below_then h5 h6
 have D1 := hid (CI1.out _ h6)
 clear C6 CI1 h5
 go_wp2_with fail
 refine D1.out.mono ?_
 rintro e w7 ⟨rfl, h7⟩
 have h7 := below_then h6 h7
 have D2 := hid (CI2.out _ h7)
 clear D1 CI2 h6
 go_wp2_with fail
 refine D2.out.mono ?_
 rintro e w8 ⟨rfl, h8⟩
 have h8 := below_then h7 h8
 have D3 := hid (CS.out _ h8)
 clear D2 CS h7
 go_wp2_with fail
 refine D3.out.mono ?_
 rintro e w9 ⟨rfl, h9⟩
 have h9 := below_then h8 h9
 have hz := below_then HB4.out h9
 clear D3 h8 h9
 go_wp2_with fail
 go_ret
 exact ⟨rfl, hz⟩
end

section
open Go.RowKit
theorem can_ok {c : List TxnV} (hc : checkI c = 0) : ∀ t ∈ c, t.ok := fun t ht => by
 obtain ⟨m1, m2⟩ := may_at (check_rightB hc).1 ht
 refine ⟨⟨by unfold IntOk; omega, by unfold IntOk; omega, by unfold IntOk; omega⟩, fun o ho => ?_⟩
 have := (mayO_iff o).1 (m2 o ho)
 refine ⟨by unfold IntOk; omega, by unfold IntOk; omega⟩
theorem can_short {c : List TxnV} (hc : checkI c = 0) : Short c := fun t ht => by
 have := (may_at (check_rightB hc).1 ht).1
 omega
end

section
open Go.RowKit
theorem Row.grown {w w' : World} {v : Value} {n size : Nat} {cs : List Value} {row : Option Nat} (h : Row w v n size cs) (hg : w.grownBy w' row) (hne : ∀ b, row = some b → v.ownBlock ≠ some b) : Row w' v n size cs := by
 obtain ⟨hl, ao, cap, rfl, hm, hno, hc⟩ := h
 refine ⟨hl, ao, cap, rfl, hm, hno, fun hn => ?_⟩
 obtain ⟨b, off, rfl, hcell⟩ := hc hn
 refine ⟨b, off, rfl, fun i hi => ?_⟩
 have h2 := hcell i hi
 rw [List.getElem?_eq_getElem (by omega)] at h2 ⊢
 exact hg.cell h2 (fun e => hne b e.symm rfl)
theorem txV_drop (h : List TxnV) (k : Nat) : txV (h.drop k) = (txV h).drop (k * 4) := by
 have e := congrArg txV (List.take_append_drop k h)
 rw [txV_app] at e
 rcases Nat.lt_or_ge k h.length with q | q
 ·have hl : (txV (h.take k)).length = k * 4 := by rw [txV_len, List.length_take]; omega
  rw [← e, List.drop_append_of_le_length (by omega), List.drop_of_length_le (l := txV (h.take k)) (by omega), List.nil_append]
 ·rw [List.drop_of_length_le q, List.drop_of_length_le (l := txV h) (by rw [txV_len]; omega)]; rfl
theorem txV_tak (h : List TxnV) (k : Nat) : txV (h.take k) = (txV h).take (k * 4) := by
 have e := congrArg txV (List.take_append_drop k h)
 rw [txV_app] at e
 rcases Nat.lt_or_ge k h.length with q | q
 ·have hl : (txV (h.take k)).length = k * 4 := by rw [txV_len, List.length_take]; omega
  rw [← e, List.take_append_of_le_length (by omega), List.take_of_length_le (l := txV (h.take k)) (by omega)]
 ·rw [List.take_of_length_le q, List.take_of_length_le (l := txV h) (by rw [txV_len]; omega)]
theorem txV_memb {h : List TxnV} {u : Value} : u ∈ txV h ↔ ∃ t ∈ h, u = .int .i64 t.s ∨ u = .int .i64 t.b ∨ u = .int .i64 t.c ∨ u = t.v := by unfold txV; simp [List.mem_flatMap]
structure SrtAt (h acc L : List TxnV) : Prop where
 perm : (acc ++ L).Perm h
 srt : acc.Pairwise fun t u => t.b < u.b
 ahead : ∀ t ∈ acc, ∀ u ∈ L, t.b < u.b
section
variable {h acc L : List TxnV}
theorem SrtAt.first (h : List TxnV) : SrtAt h [] h := ⟨List.Perm.refl _, List.Pairwise.nil, fun t ht => by cases ht⟩
theorem SrtAt.done (q : SrtAt h acc []) : IsSrt h acc := ⟨by have := q.perm; rwa [List.append_nil] at this, q.srt⟩
theorem SrtAt.next (q : SrtAt h acc L) (hn : (h.map (·.b)).Nodup) {k : Nat} (hk : k < L.length) (hm : ∀ i (hi : i < L.length), L[k].b ≤ L[i].b) : SrtAt h (acc ++ [L[k]]) (L.take k ++ L.drop (k + 1)) := by
 have eL : L = L.take k ++ L[k] :: L.drop (k + 1) := by rw [← List.drop_eq_getElem_cons hk, List.take_append_drop]
 have hnd : ((acc ++ L).map (·.b)).Nodup := (q.perm.map _).nodup_iff.2 hn
 rw [List.map_append, List.nodup_append] at hnd
 have hL := hnd.2.1
 have hmin : ∀ u ∈ L.take k ++ L.drop (k + 1), L[k].b < u.b := fun u hu => by
  have hu2 : u ∈ L := by
   rcases List.mem_append.1 hu with e | e
   ·exact List.mem_of_mem_take e
   ·exact List.mem_of_mem_drop e
  obtain ⟨i, hi, rfl⟩ := List.mem_iff_getElem.1 hu2
  have h1 := hm i hi
  have h2 : L[k].b ≠ L[i].b := fun e => by
   rw [eL, List.map_append, List.map_cons, List.nodup_append, List.nodup_cons] at hL
   rcases List.mem_append.1 hu with x | x
   ·exact hL.2.2 _ (List.mem_map_of_mem x) _ (List.mem_cons_self ..) e.symm
   ·exact hL.2.1.1 (e ▸ List.mem_map_of_mem (f := fun t : TxnV => t.b) x)
  omega
 refine ⟨?_, ?_, ?_⟩
 ·rw [List.append_assoc, List.singleton_append]
  refine List.Perm.trans ?_ q.perm
  conv => rhs; rw [eL]
  exact List.perm_middle.symm.append_left acc
 ·rw [List.pairwise_append]
  refine ⟨q.srt, List.pairwise_singleton _ _, fun t ht u hu => ?_⟩
  rw [List.mem_singleton] at hu; subst hu
  exact q.ahead t ht _ (List.getElem_mem hk)
 ·intro t ht u hu
  rcases List.mem_append.1 ht with ht | ht
  ·refine q.ahead t ht u ?_
   rcases List.mem_append.1 hu with e | e
   ·exact List.mem_of_mem_take e
   ·exact List.mem_of_mem_drop e
  ·rw [List.mem_singleton] at ht; subst ht
   exact hmin u hu
theorem SrtAt.mem (q : SrtAt h acc L) {t : TxnV} (ht : t ∈ L) : t ∈ h := q.perm.mem_iff.1 (List.mem_append.2 (.inr ht))
theorem SrtAt.len (q : SrtAt h acc L) : acc.length + L.length = h.length := by rw [← List.length_append]; exact q.perm.length_eq
theorem SrtAt.one (q : SrtAt h acc L) (ho : ∀ u ∈ txV h, u.oneCell' = true) : ∀ u ∈ txV L, u.oneCell' = true := fun u hu => by
 obtain ⟨t, ht, e⟩ := txV_memb.1 hu
 exact ho u (txV_memb.2 ⟨t, q.mem ht, e⟩)
end
theorem rows_form {w : World} {v : Value} {l : List TxnV} (h : Row w v l.length 4 (txV l)) : ∃ ao cap, v = .slice ao l.length cap ∧ (l.length ≤ cap ∧ cap ≤ 9223372036854775807) ∧ (ao = none → l.length = 0) := by
 obtain ⟨_, ao, cap, rfl, hm, hno, _⟩ := h
 exact ⟨ao, cap, rfl, hm, fun e => (hno e).1⟩
theorem rows_at {w : World} {ao : Option Addr} {n cap : Nat} {l : List TxnV} (h : Row w (.slice ao n cap) l.length 4 (txV l)) {k : Nat} (hk : k < l.length) :
  ∃ b off, ao = some ⟨b, off, none⟩ ∧ w.cell? ⟨b, off + k * 4, none⟩ = some (.int .i64 l[k].s) ∧ w.cell? ⟨b, off + k * 4 + 1, none⟩ = some (.int .i64 l[k].b) ∧ w.cell? ⟨b, off + k * 4 + 2, none⟩ = some (.int .i64 l[k].c) ∧ w.cell? ⟨b, off + k * 4 + 3, none⟩ = some l[k].v := by
 obtain ⟨_, ao', cap', he, hm, _, hc⟩ := h
 obtain ⟨rfl, _, _⟩ : ao = ao' ∧ n = l.length ∧ cap = cap' := by simpa using he
 obtain ⟨b, off, rfl, hcell⟩ := hc (by omega)
 obtain ⟨h0, h1, h2, h3⟩ := txV_at l k hk
 refine ⟨b, off, rfl, ?_, ?_, ?_, ?_⟩
 ·rw [hcell (k * 4) (by omega), h0]
 ·rw [Nat.add_assoc, hcell (k * 4 + 1) (by omega), h1]
 ·rw [Nat.add_assoc, hcell (k * 4 + 2) (by omega), h2]
 ·rw [Nat.add_assoc, hcell (k * 4 + 3) (by omega), h3]
theorem row4_newR (w : World) (x y z u : Value) (t : TypeId) : ∀ j v, [x, y, z, u][j]? = some v → (w.alloc (.cells #[x, y, z, u] t)).cell? ((⟨w.heap.size, 0, none⟩ : Addr).add j) = some v := by
 intro j v hj
 obtain ⟨c0, c1, c2, c3⟩ := txnBlock w x y z u t
 match j, hj with
 | 0, hu => simp at hu; subst hu; exact c0
 | 1, hu => simp at hu; subst hu; exact c1
 | 2, hu => simp at hu; subst hu; exact c2
 | 3, hu => simp at hu; subst hu; exact c3
 | j + 4, hu => simp at hu
theorem rows_slice {l : List TxnV} (hv : ∀ t ∈ l, ∃ a n c, t.v = .slice a n c) {k : Nat} (hk : k < l.length) : ∃ a n c, l[k].v = .slice a n c := hv _ (List.getElem_mem hk)
theorem rows_part {w : World} {g o n cap : Nat} {L : List TxnV} (h : Row w (.slice (some ⟨g, o, none⟩) n cap) L.length 4 (txV L)) (k : Nat) :
  ∀ j u, (txV (L.drop k))[j]? = some u → w.cell? ((⟨g, o + k * 4, none⟩ : Addr).add j) = some u := fun j u hu => by
 obtain rfl : n = L.length := by
  obtain ⟨_, ao', cap', he, _⟩ := h
  exact (Value.slice.inj he).2.1
 rw [txV_drop] at hu
 exact Row.part h k j u hu
theorem rsorted22_any (va : Value) (h : List TxnV) (w : World) (hT : Txns w va h) (hn : (h.map (·.b)).Nodup) (hl : h.length ≤ 1000) :
  Calls Try.prog 23 #[va] w fun e w' => (∃ v s, e = .returned v ∧ OwnT w' w.heap.size v s ∧ IsSrt h s) ∧ Below w.heap.size w w' := by
 obtain ⟨i0, hi, hz0, hz1, hz2⟩ := info_parts infoTxn
 have HN := hid hn
 have HONE := hid (txV_one hT)
 have HV : Hid (∀ t ∈ h, ∃ a n c, t.v = .slice a n c) := hid (fun t ht => by
  obtain ⟨_, ao, cap, e, _⟩ := hT.2 t ht
  exact ⟨ao, _, cap, e⟩)
 obtain ⟨ao, cap, rfl, hal⟩ := hT.form
 have hR := hT.1
 clear hn hT
 go_enter Try.func23, Try.ntmps23
 have hbx := (Below.refl w.heap.size w).alloc (Nat.le_refl _) (.cells #[] 41)
 have hO1 := hid (World.ownsRow_made (base := w.heap.size) (e := 41) (size := 4) w #[] 0 (Nat.le_refl _) (by decide) rfl)
 have hO2 : World.ownsRow ((w.alloc (.cells #[] 41)).alloc (.cells #[] 41)) (w.heap.size + 1) 41 4 (.slice (some ⟨w.heap.size + 1, 0, none⟩) 0 0) 0 [] := by
  have q := World.ownsRow_lit (base := w.heap.size + 1) (e := 41) (size := 4) (w.alloc (.cells #[] 41)) #[] 0 (by simp) (by decide) rfl
  rwa [World.size_alloc] at q
 go_wp2_with (first | (at_builtin; refine wpList_append_row rfl _ _ 22 rfl (w.heap.size + 1) 41 i0 (.agg #[.int .i64 0, .int .i64 0, .int .i64 0, .slice none 0 0]) 4 48 Try.underlying22 hi hz0 hz1 hz2 rfl (by decide) _ 0 [] rfl hO2 _ h.length _ rfl ((hR.below hbx).below ((Below.refl _ _).alloc (Nat.le_refl _) _)) ?d1 ?d2 ?d3 ?d4 ?_) | go_in)
 case d1 => exact HONE.out
 case d2 => unfold maxLen; omega
 case d3 => omega
 case d4 => simp
 intro v5 w5 hown5 hg5
 have hO5 : OwnT w5 (w.heap.size + 1) v5 h := by
  refine ⟨by rw [txV_len], ?_⟩
  have := hown5.2
  simpa using this
 have hb15 : Below (w.alloc (.cells #[] 41)).heap.size (w.alloc (.cells #[] 41)) w5 := ((Below.refl _ _).alloc (Nat.le_refl _) (.cells #[] 41)).grown hg5 (by simp) (by intro k hk; simp [Value.ownBlock] at hk; simp; omega)
 have hb5 : Below w.heap.size w w5 := hbx.trans (hb15.mono (by simp))
 have hA5 : OwnT w5 w.heap.size (.slice (some ⟨w.heap.size, 0, none⟩) 0 0) [] := owns_below hO1.out hb15
 have hap5 : ∀ b, (Value.slice (some ⟨w.heap.size, 0, none⟩) 0 0).ownBlock = some b → v5.ownBlock ≠ some b := fun b h1 h2 => by
  have q := (World.ownsRow.lt hO5 b h2).1
  simp [Value.ownBlock] at h1
  omega
 have hR5 := hO5.row
 clear hown5 hg5 hO5 hb15 hO1 hO2 hR hbx
 go_wp2_with fail
 go_loopw [3, 4] (fun vo vl wr => ∃ acc L, Hid (SrtAt h acc L) ∧ OwnT wr w.heap.size vo acc ∧ Row wr vl L.length 4 (txV L) ∧ Hid (∀ b, vo.ownBlock = some b → vl.ownBlock ≠ some b) ∧ Below w.heap.size w wr) (fun _ vl _ => lenV vl)
 case atStart => exact ⟨[], h, hid (SrtAt.first h), hA5, hR5, hid hap5, hb5⟩
 case round =>
  obtain ⟨acc, L, HS, hA, hR, HAP, hb⟩ := hrel
  have hll := HS.out.len
  have hll1 : L.length ≤ 1000 := by omega
  have hll2 : acc.length ≤ 1000 := by omega
  clear hll
  obtain ⟨lo, lcap, rfl, ⟨hlc, hlm⟩, hno⟩ := rows_form hR
  rcases Nat.eq_zero_or_pos L.length with h0 | h0
  ·have hq : ¬ (0 : Int) < (L.length : Int) := by omega
   have hs : IsSrt h acc := by
    have := List.eq_nil_of_length_eq_zero h0
    have q := HS.out
    rw [this] at q
    exact q.done
   have HSR := hid hs
   clear hs hno h0
   go_wp2_with fail
   go_ret
   exact ⟨⟨_, rfl, _, hA, HSR.out⟩, hb⟩
  ·have hq : (0 : Int) < (L.length : Int) := by omega
   obtain ⟨g, o, hgo, _⟩ := rows_at hR (k := 0) h0
   subst hgo
   clear hno
   have HR := hid (fun wx (hx : Below wr.heap.size wr wx) => Row.below hR hx)
   have HA := hid hA
   have HB := hid hb
   clear hR hA hb
   go_wp2_with fail
   go_loopw [5, 6] (fun vk vi wq => ∃ k i : Nat, k < L.length ∧ i ≤ L.length ∧ vk = .int .i64 (k : Int) ∧ vi = .int .i64 (i : Int) ∧ Hid (∀ (hk : k < L.length) (j : Nat) (hj : j < L.length), j < i → L[k].b ≤ L[j].b) ∧ Hid (Below wr.heap.size wr wq)) (fun _ vi _ => L.length - (intOf vi).toNat)
   case atStart => exact ⟨0, 0, h0, by omega, rfl, rfl, hid (fun _ j _ hj => absurd hj (Nat.not_lt_zero _)), hid (Below.refl _ _)⟩
   case round =>
    obtain ⟨k, i, hk, hi', rfl, rfl, HM, HBQ⟩ := hrel
    have hki : (k : Int) < (L.length : Int) := by omega
    by_cases hlt : i < L.length
    ·have hii : (i : Int) < (L.length : Int) := by omega
     obtain ⟨g1, o1, e1, _, d1, _⟩ := rows_at (HR.out _ HBQ.out) hk
     cases e1
     obtain ⟨g2, o2, e2, _, d2, _⟩ := rows_at (HR.out _ HBQ.out) hlt
     cases e2
     have HY : Hid (L[i].b < L[k].b → ∀ (hk : i < L.length) (j : Nat) (hj : j < L.length), j < i + 1 → L[i].b ≤ L[j].b) := hid (fun e hk j hj q => by
      rcases Nat.lt_or_ge j i with z | z
      ·have := HM.out (by omega) j hj z; omega
      ·obtain rfl : j = i := by omega
       exact Int.le_refl _)
     have HN2 : Hid (¬ L[i].b < L[k].b → ∀ (hk : k < L.length) (j : Nat) (hj : j < L.length), j < i + 1 → L[k].b ≤ L[j].b) := hid (fun e hk j hj q => by
      rcases Nat.lt_or_ge j i with z | z
      ·exact HM.out (by omega) j hj z
      ·obtain rfl : j = i := by omega
       omega)
     generalize L[i].b = x at *
     generalize L[k].b = y at *
     by_cases hxy : x < y
     ·have hxd : decide (x < y) = true := decide_eq_true hxy
      have HM2 := hid (HY.out hxy)
      clear HY HN2 HM
      go_wp2_with fail
      go_quiet (fail)
      go_wp2_with fail
      go_roundw
      case rel => exact ⟨i, i + 1, hlt, by omega, rfl, by go_num, HM2, hid (below_drewN HBQ.out _)⟩
      case measure => simp [intOf]; omega
     ·have hxd : decide (x < y) = false := decide_eq_false hxy
      have HM2 := hid (HN2.out hxy)
      clear HY HN2 HM
      go_wp2_with fail
      go_quiet (fail)
      go_wp2_with fail
      go_roundw
      case rel => exact ⟨k, i + 1, hk, by omega, rfl, by go_num, HM2, hid (below_drewN HBQ.out _)⟩
      case measure => simp [intOf]; omega
    ·obtain rfl : i = L.length := by omega
     have hii : ¬ (L.length : Int) < (L.length : Int) := by omega
     have HNX := hid (HS.out.next HN.out hk (fun j hj => HM.out hk j hj hj))
     have hAq := owns_below HA.out HBQ.out
     have HRq := hid (HR.out _ HBQ.out)
     have hbq := below_then HB.out HBQ.out
     obtain ⟨g1, o1, e1, c0, c1, c2, c3⟩ := rows_at HRq.out hk
     cases e1
     obtain ⟨ua, un, uc, hu⟩ := rows_slice (l := L) (fun t ht => HV.out t (HS.out.mem ht)) hk
     rw [hu] at c3
     have HL : Hid (txV (acc ++ [L[k]]) = txV acc ++ [.int .i64 L[k].s, .int .i64 L[k].b, .int .i64 L[k].c, .slice ua un uc]) := hid (by rw [txV_app, ← hu]; rfl)
     have hlk : (acc ++ [L[k]]).length = acc.length + 1 := by simp
     have HONE2 := hid (HS.out.one HONE.out)
     have hbs := hbq.size
     clear HM HA HR hu
     generalize L[k] = t at *
     obtain ⟨s, b, cc, tv, tl⟩ := t
     simp only at c0 c1 c2 HL
     go_wp2_with (first | (at_builtin; refine wpList_append_own _ rfl _ _ 22 rfl w.heap.size 41 i0 (.agg #[.int .i64 0, .int .i64 0, .int .i64 0, .slice none 0 0]) 4 48 Try.underlying22 hi hz0 hz1 hz2 rfl (by decide) _ _ _ rfl (hAq.alloc _) ⟨_, 0, none⟩ 1 1 [.int .i64 s, .int .i64 b, .int .i64 cc, .slice ua un uc] rfl rfl ?c1 ?c2 ?c3 ?c4 ?c5 ?_) | go_in)
     case c2 => exact ⟨rfl, rfl, rfl, rfl⟩
     case c3 => unfold maxLen; omega
     case c4 => omega
     case c5 => omega
     intro v6 w6 hown6 hg6 _
     have hO6 : OwnT w6 w.heap.size v6 (acc ++ [⟨s, b, cc, tv, tl⟩]) := by
      unfold OwnT
      rw [HL.out, hlk]
      exact hown6
     have hb6 : Below w.heap.size w w6 := below_app hbq (Nat.le_refl _) hAq hg6
     have hR6 := ((HRq.out).below ((Below.refl _ _).alloc (Nat.le_refl _) (.cells #[.int .i64 s, .int .i64 b, .int .i64 cc, .slice ua un uc] 41))).grown hg6 HAP.out
     clear hown6 hg6 hAq c0 c1 c2 c3 HAP HBQ HB hbq HRq HL hlk hbs
     have hs6 := hb6.size
     have hW : Below w6.heap.size w6 (w6.drew.alloc (.cells #[] 41)) := (⟨rfl, rfl, rfl, Nat.le_refl _, fun _ _ => rfl⟩ : Below w6.heap.size w6 w6.drew).alloc (Nat.le_refl _) _
     have HOW := hid (World.ownsRow_made (base := w6.heap.size) (e := 41) (size := 4) w6.drew #[] 0 (Nat.le_refl _) (by decide) rfl)
     obtain ⟨A, hA, HC2⟩ : ∃ A : Addr, (if lcap = k + 1 then some (⟨g, o, none⟩ : Addr) else some ⟨g, o + (k + 1) * 4, none⟩) = some A ∧ Hid (∀ w7, Below w6.heap.size w6 w7 → ∀ i u, (txV (L.drop (k + 1)))[i]? = some u → w7.cell? (A.add i) = some u) := by
      by_cases h : lcap = k + 1
      ·refine ⟨⟨g, o, none⟩, by simp [h], hid fun w7 hb7 i u hu => ?_⟩
       rw [List.drop_eq_nil_of_le (by omega)] at hu
       simp [txV] at hu
      ·exact ⟨⟨g, o + (k + 1) * 4, none⟩, by simp [h], hid fun w7 hb7 => rows_part (hR6.below hb7) (k + 1)⟩
     have HC1 : Hid (∀ i u, (txV (L.take k))[i]? = some u → (w6.drew.alloc (.cells #[] 41)).cell? ((⟨g, o, none⟩ : Addr).add i) = some u) := hid (fun i u hu => by
      have hi : i < k * 4 := by
       have := (List.getElem?_eq_some_iff.1 hu).1
       rw [txV_len, List.length_take] at this; omega
      refine rows_part (hR6.below hW) 0 i u ?_
      rw [List.drop_zero, ← hu, txV_tak, List.getElem?_take, if_pos hi])
     have s1 : Hid ((txV (L.take k)).length = k * 4) := hid (by rw [txV_len, List.length_take]; omega)
     have s2 : Hid (∀ u ∈ txV (L.take k), u.oneCell' = true) := hid (fun u hu => HONE2.out u (by rw [txV_tak] at hu; exact List.mem_of_mem_take hu))
     have t1 : Hid ((txV (L.drop (k + 1))).length = (L.length - (k + 1)) * 4) := hid (by rw [txV_len, List.length_drop])
     have t2 : Hid (∀ u ∈ txV (L.drop (k + 1)), u.oneCell' = true) := hid (fun u hu => HONE2.out u (by rw [txV_drop] at hu; exact List.mem_of_mem_drop hu))
     have HS5 : Hid (w6.heap.size ≤ (w6.drew.alloc (.cells #[] 41)).heap.size) := hid hW.size
     have HB7 : Hid (∀ w7, (w6.drew.alloc (.cells #[] 41)).grownBy w7 (some w6.heap.size) → Below w6.heap.size w6 w7) := hid (fun w7 hg => hW.grown hg hW.size (fun k hk => by cases hk; exact Nat.le_refl _))
     have hjc : k ≤ lcap := by omega
     have hwr : IntKind.i64.wrap ((k : Int) + 1) = (k : Int) + 1 := by rw [IntKind.wrap_i64]; omega
     have hp0 : (0 : Int) ≤ (k : Int) + 1 := by omega
     have hp1 : (k : Int) + 1 ≤ (L.length : Int) := by omega
     have hp2 : ((k : Int) + 1).toNat = k + 1 := by omega
     have HR6 := hid hR6
     have HO6 := hid hO6
     clear hR6 hO6 hW
     go_wp2_with fail
     go_region_law (first
      | (refine step_app _ rfl (.tmp 43) (.tmp 47) 22 rfl w6.heap.size 41 i0 (.agg #[.int .i64 0, .int .i64 0, .int .i64 0, .slice none 0 0]) 4 48 Try.underlying22 hi hz0 hz1 hz2 rfl (by decide) v7 (0 + k) _ (by simp [Act.eval]) hown7 A (L.length - (k + 1)) (lcap - (k + 1)) _ (by simp [Act.eval]) t1.out (HC2.out _ (HB7.out _ hg7)) t2.out (by unfold maxLen; omega) (by omega) (Nat.le_trans HS5.out hg7.size) ?_; intro v8 w8 hown8 hg8)
      | (refine step_app _ rfl (.tmp 39) (.tmp 42) 22 rfl w6.heap.size 41 i0 (.agg #[.int .i64 0, .int .i64 0, .int .i64 0, .slice none 0 0]) 4 48 Try.underlying22 hi hz0 hz1 hz2 rfl (by decide) _ 0 [] (by simp [Act.eval]) HOW.out ⟨g, o, none⟩ k lcap _ (by simp [Act.eval]) s1.out HC1.out s2.out (by unfold maxLen; omega) (by omega) HS5.out ?_; intro v7 w7 hown7 hg7))
     have hb8 : Below w6.heap.size w6 w8 := (HB7.out _ hg7).trans ((Below.refl _ _).grown hg8 (Nat.le_trans HS5.out hg7.size) (fun k hk => (hown7.lt k hk).1))
     have hR8 : Row w8 v8 (L.take k ++ L.drop (k + 1)).length 4 (txV (L.take k ++ L.drop (k + 1))) := by
      rw [txV_app, List.length_append, List.length_take, List.length_drop, Nat.min_eq_left (by omega)]
      have := Row.of_owns hown8
      rw [Nat.zero_add] at this
      exact this
     have hlv := owns_lenV hown8
     have hap8 : ∀ b, v6.ownBlock = some b → v8.ownBlock ≠ some b := fun b h6 h8 => by
      have := (World.ownsRow.lt HO6.out b h6).2
      have := (hown8.lt b h8).1
      omega
     have ho8 : OwnT w8 w.heap.size v6 (acc ++ [⟨s, b, cc, tv, tl⟩]) := OwnT.below HO6.out hb8
     have hbe := hb6.trans (hb8.mono hs6)
     go_simp
     go_wp2
     go_roundw
     case rel => exact ⟨acc ++ [⟨s, b, cc, tv, tl⟩], L.take k ++ L.drop (k + 1), HNX, ho8, hR8, hid hap8, hbe⟩
     case measure => rw [hlv]; simp [lenV]; omega
end

section
open Go.RowKit
def BoxN (w : World) (p : Nat) (t : TypeId) (cs : Array Value) : Prop := w.heap[p]? = some (.cells cs t (0, 0))
section
variable {w w' : World} {p : Nat} {t : TypeId} {cs : Array Value}
theorem BoxN.lt (h : BoxN w p t cs) : p < w.heap.size := (Array.getElem?_eq_some_iff.1 h).1
theorem BoxN.cell (h : BoxN w p t cs) {i : Nat} {v : Value} (hv : cs[i]? = some v) : w.cell? ⟨p, i, none⟩ = some v := by rw [cell_of_row w p i _ _ _ h]; exact hv
theorem BoxN.free (h : BoxN w p t cs) (i : Nat) : w.frozen? ⟨p, i, none⟩ = false := frozen_of_row w p i _ _ h
theorem BoxN.new (w : World) (t : TypeId) (cs : Array Value) : BoxN (w.alloc (.cells cs t)) w.heap.size t cs := World.alloc_heap_new w _
theorem BoxN.below (h : BoxN w p t cs) (hb : Below w.heap.size w w') : BoxN w' p t cs := (hb.block p h.lt).trans h
theorem BoxN.kept {row : Option Nat} (h : BoxN w p t cs) (hg : w.grownBy w' row) (hne : some p ≠ row) : BoxN w' p t cs := (hg.block p h.lt hne).trans h
theorem BoxN.set (h : BoxN w p t cs) (i : Nat) (v : Value) : BoxN (w.setCell ⟨p, i, none⟩ v) p t (cs.setIfInBounds i v) := heap_setCell_same w p i cs t v h
theorem BoxN.far (h : BoxN w p t cs) {a : Addr} (ha : p ≠ a.block) (v : Value) : BoxN (w.setCell a v) p t cs := (heap_setCell_other w a p v ha).trans h
end
theorem owns_no_box {w : World} {b : Nat} {e t : TypeId} {s n p : Nat} {v : Value} {xs : List Value} {cs : Array Value} (h : w.ownsRow b e s v n xs) (k : BoxN w p t cs) (hne : e ≠ t) : v.ownBlock = none ∨ v.ownBlock ≠ some p := by
 rcases h.2 with ⟨rfl, _⟩ | ⟨g, c, cur, rfl, _, hh, _⟩
 ·exact .inl rfl
 ·right
  intro e2
  simp [Value.ownBlock] at e2
  subst e2
  unfold BoxN at k
  rw [hh] at k
  injection k with k
  injection k with _ k
  exact hne k
theorem grown_set (w : World) (a : Addr) (u : Value) : w.grownBy (w.setCell a u) (some a.block) :=
 ⟨rfl, rfl, rfl, by simp, fun k _ hk => Below.heap_setCell w a u k (fun e => hk (by rw [e]))⟩
theorem owns_weak {w : World} {b b' : Nat} {e : TypeId} {s n : Nat} {v : Value} {xs : List Value} (h : w.ownsRow b e s v n xs) (hb : b' ≤ b) : w.ownsRow b' e s v n xs := by
 refine ⟨h.1, ?_⟩
 rcases h.2 with q | ⟨g, c, cur, e1, e2, r⟩
 ·exact .inl q
 ·exact .inr ⟨g, c, cur, e1, Nat.le_trans hb e2, r⟩
def IntO (w : World) (b : Nat) (v : Value) (L : List Int) : Prop := w.ownsRow b 3 1 v L.length (L.map (Value.int .i64))
section
variable {w w' : World} {b : Nat} {v : Value} {L : List Int}
theorem IntO.ints (h : IntO w b v L) : Ints w v L := Ints.of_owns h
theorem IntO.below (h : IntO w b v L) (hb : Below w.heap.size w w') : IntO w' b v L := owns_below h hb
theorem IntO.box {p : Nat} {t : TypeId} {cs : Array Value} (h : IntO w b v L) (k : BoxN w p t cs) (hne : 3 ≠ t) (hg : w.grownBy w' (some p)) : IntO w' b v L := World.ownsRow.kept h hg (owns_no_box h k hne)
theorem IntO.lit (w : World) {b : Nat} (hb : b ≤ w.heap.size) : IntO (w.alloc (.cells #[] 3)) b (.slice (some ⟨w.heap.size, 0, none⟩) 0 0) [] := World.ownsRow_lit (base := b) (size := 1) w #[] 0 hb (by decide) rfl
end
end

end Go.Proofs.Ytlajeemkoldngaa
