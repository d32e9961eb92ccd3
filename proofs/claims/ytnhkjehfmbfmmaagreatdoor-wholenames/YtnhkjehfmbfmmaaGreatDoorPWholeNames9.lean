/- Walks and plain facts that the proof of the statement WholeNames uses, joined: RenC ArgN SeqA BoxN RenD RenE RenG CroA CroB CroC CroD RenF0 RenF. Conditions: each theorem's own. -/
import Derived.Deep.SlicePairs
import Derived.Lib.SmallJoins
import Derived.Deep.AppendLies
import Derived.RangeFuncBox
import Derived.LoopNIn
import Derived.LoopIn
import Derived.TacticsInMore
import Derived.OwnWalkIn
import Derived.Maps.AppendAt
import Derived.Maps.OwnIn
import Derived.Deep.RegionLaw
import Derived.Test.YtnhkjehfmbfmmaaGreatDoorPWholeNames0
import Derived.Test.YtnhkjehfmbfmmaaGreatDoorPWholeNames1
import Derived.Test.YtnhkjehfmbfmmaaGreatDoorPWholeNames2
import Derived.Test.YtnhkjehfmbfmmaaGreatDoorPWholeNames6
import Derived.Test.YtnhkjehfmbfmmaaGreatDoorPWholeNames7
import Derived.Test.YtnhkjehfmbfmmaaGreatDoorPWholeNames8
namespace Go.Proofs.YtnhkjehfmbfmmaaGreatDoor
set_option maxHeartbeats 32000000
set_option maxRecDepth 100000
set_option linter.unusedSimpArgs false
set_option linter.unusedVariables false
open Lib (hid)
section
open Go.RowKit
def ofF (l : List (Int × Int)) : Int → Option Int := l.foldl (fun f p => putF f p.1 p.2) (fun _ => none)
theorem ofF_snoc (l : List (Int × Int)) (p : Int × Int) : ofF (l ++ [p]) = putF (ofF l) p.1 p.2 := by unfold ofF; rw [List.foldl_append]; rfl
def PrN (w : World) (v : Value) (l : List (Int × Int)) : Prop := Row w v l.length 2 (frV l)
theorem PrN.below {w w' : World} {v : Value} {l : List (Int × Int)} (h : PrN w v l) (hb : Below w.heap.size w w') : PrN w' v l := Row.below h hb
theorem PrN.form {w : World} {v : Value} {l : List (Int × Int)} (h : PrN w v l) : ∃ ao cap, v = .slice ao l.length cap ∧ l.length ≤ 9223372036854775807 := by
 obtain ⟨_, ao, cap, rfl, hm, _, _⟩ := h
 exact ⟨ao, cap, rfl, Nat.le_trans hm.1 hm.2⟩
theorem frV_two : ∀ (l : List (Int × Int)) (k : Nat) (hk : k < l.length), (frV l)[k * 2]? = some (.int .i64 l[k].1) ∧ (frV l)[k * 2 + 1]? = some (.int .i64 l[k].2)
 | a :: l, 0, _ => ⟨rfl, rfl⟩
 | a :: l, k + 1, hk => by
  obtain ⟨h0, h1⟩ := frV_two l k (by simpa using hk)
  have e : ∀ j, (frV (a :: l))[(k + 1) * 2 + j]? = (frV l)[k * 2 + j]? := fun j => by
   unfold frV
   rw [List.flatMap_cons, show (k + 1) * 2 + j = 2 + (k * 2 + j) from by omega]
   rw [List.getElem?_append_right (by simp)]
   congr 1
   simp
  exact ⟨(e 0).trans h0, (e 1).trans h1⟩
theorem PrN.at {w : World} {ao : Option Addr} {n cap : Nat} {l : List (Int × Int)} (h : PrN w (.slice ao n cap) l) {k : Nat} (hk : k < l.length) : ∃ g o, ao = some ⟨g, o, none⟩ ∧ w.cell? ⟨g, o + k * 2, none⟩ = some (.int .i64 l[k].1) ∧ w.cell? ⟨g, o + k * 2 + 1, none⟩ = some (.int .i64 l[k].2) := by
 obtain ⟨_, ao', cap', he, _, _, hc⟩ := h
 cases he
 obtain ⟨b, off, e, hcell⟩ := hc (by omega)
 obtain ⟨h0, h1⟩ := frV_two l k hk
 refine ⟨b, off, e, ?_, ?_⟩
 ·rw [hcell (k * 2) (by omega)]; exact h0
 ·rw [show off + k * 2 + 1 = off + (k * 2 + 1) from by omega, hcell (k * 2 + 1) (by omega)]; exact h1
theorem lof21_any (va : Value) (l : List (Int × Int)) (w : World) (hP : PrN w va l) (hl : ∀ p ∈ l, InI p.1) (hn : l.length ≤ 100000) :
  Calls Tryz.prog 45 #[va] w fun e w' => (∃ b n c, e = .returned (.map (some b)) ∧ n ≤ l.length ∧ w.heap.size ≤ b ∧ MapI eI Tryz.prog 3 w' b n (ofF l) c) ∧ Below w.heap.size w w' := by
 obtain ⟨ao, cap, rfl, hal⟩ := hP.form
 have HP := hid (fun wx (hx : Below w.heap.size w wx) => hP.below hx)
 have HL := hid hl
 have hm0 := MapI.made eI Tryz.prog 3 w
 have hb1 := hid (box_below w (.map #[] 0))
 have hmm := @run_makeMap Tryz.prog
 clear hP hl
 go_enter Tryz.func45, Tryz.ntmps45
 go_wp2_with fail
 clear hmm
 go_loopw [9] (fun i wr => ∃ (k n c : Nat), k ≤ l.length ∧ i = .int .i64 (k : Int) ∧ n ≤ k ∧ MapI eI Tryz.prog 3 wr w.heap.size n (ofF (l.take k)) c ∧ Hid (Below w.heap.size w wr)) (fun i _ => l.length - (intOf i).toNat)
 case atStart => exact ⟨0, 0, 0, by omega, rfl, by omega, hm0, hb1⟩
 case round =>
  obtain ⟨k, n, c, hk, rfl, hnk, hM, HB⟩ := hrel
  clear hm0
  by_cases hlt : k < l.length
  ·have hki : (k : Int) < (l.length : Int) := by omega
   obtain ⟨g, o, hao, c0, c1⟩ := (HP.out _ HB.out).at hlt
   cases hao
   have hkx := HL.out l[k] (List.getElem_mem hlt)
   have HS : Hid (ofF (l.take (k + 1)) = putF (ofF (l.take k)) l[k].1 l[k].2) := hid (by rw [List.take_succ_eq_append_getElem hlt, ofF_snoc])
   generalize l[k] = p at *
   obtain ⟨x, y⟩ := p
   simp only at c0 c1 hkx HS
   have hM1 := hM.alloc (.cells #[.int .i64 x, .int .i64 y] 151)
   have HB1 := hid (HB.out.alloc HB.out.size (.cells #[.int .i64 x, .int .i64 y] 151))
   have hsz := HB.out.size
   clear hM HB
   go_wp2_with (first | (at_mapUpdate; refine wpList_putI _ rfl _ _ _ 32 rfl 3 3 keyI mapII _ _ _ _ rfl hM1 (by unfold maxLen; omega) _ rfl hkx y rfl ?_; intro w1 hM4 hgm; go_frame) | go_in)
   have HB8 := hid (HB1.out.grown hgm HB1.out.size (fun j hj => by cases hj; omega))
   rw [← HS.out] at hM4
   go_wp2_with fail
   go_roundw
   case rel => exact ⟨k + 1, n + 1, _, by omega, by go_num, by omega, hM4, HB8⟩
   case measure => simp [intOf]; omega
  ·obtain rfl : k = l.length := by omega
   have hki : ¬ (l.length : Int) < (l.length : Int) := by omega
   rw [List.take_length] at hM
   have HM := hid hM
   clear hM
   go_wp2_with fail
   go_ret
   first | exact ⟨⟨_, rfl, n, by omega, Nat.le_refl _, c, HM.out⟩, HB.out⟩ | exact ⟨⟨_, n, c, rfl, by omega, Nat.le_refl _, HM.out⟩, HB.out⟩ | exact ⟨⟨n, by omega, Nat.le_refl _, c, HM.out⟩, HB.out⟩ | exact ⟨⟨n, by omega, c, HM.out⟩, HB.out⟩
end

section
open Go.ChangeShapes Go.WideShapes Go.ChangeAt Go.RowKit Go.Deep
theorem array5N {α : Type} {cs : Array α} (h : cs.size = 5) : ∃ c0 c1 c2 c3 c4, cs = #[c0, c1, c2, c3, c4] := by
 obtain ⟨l⟩ := cs
 match l, h with
 | [c0, c1, c2, c3, c4], _ => exact ⟨c0, c1, c2, c3, c4, rfl⟩
theorem cellsPairN : Tryz.prog.cellsOf 151 = 2 := by kernel_rfl
theorem cellsIntN : Tryz.prog.cellsOf 3 = 1 := by kernel_rfl
theorem cellsNames : Tryz.prog.cellsOf 26 = 5 := by kernel_rfl
theorem frN_len : ∀ (l : List (Int × Int)), (frV l).length = l.length * 2
 | [] => rfl
 | a :: l => by
  have := frN_len l
  unfold frV at this ⊢
  rw [List.flatMap_cons, List.length_append, this]; simp; omega
theorem prn_of_cells {H : Type} {enc : TypeId × Value → H} {W : World} {v : Value} {fuel : Nat} {x : DataW H × List MemPlace}
  (hf : DataW.trod enc Tryz.prog W 0 (fun _ => true) true fuel 23 [v] = some x) : ∃ l, PrN W v l ∧ (∀ p ∈ l, IntOk p.1 ∧ IntOk p.2) ∧ ((∀ n ∈ DataW.weights Tryz.prog 23 x.1, n ≤ reachBytes) → l.length ≤ 9000000000000) := by
 rcases open_slice_pairs Tryz.underlying23 Tryz.underlying151 cellsPairN rfl rfl cellsIntN cellsIntN hf with ⟨hcs, hx⟩ | ⟨a, len', cap', m, n, V0, V1, D0, D1, P0, P1, hcs, hb, hl, hm, hmm, hx, hi⟩
 ·obtain rfl : v = .slice none 0 0 := by simpa using hcs
  exact ⟨[], ⟨rfl, none, 0, rfl, by simp, (fun _ => ⟨rfl, rfl⟩), (fun h => by simp at h)⟩, (fun p hp => by cases hp), by simp⟩
 ·obtain ⟨len, cap, rfl, rfl⟩ : ∃ len cap, len = len' ∧ cap = cap' := ⟨_, _, rfl, rfl⟩
  obtain rfl : v = .slice (some a) len cap := by simpa using hcs
  simp only [if_true] at hmm
  have h0 : ∀ i, ∃ z : Int, i < len → V0 i = .int .i64 z ∧ IntOk z := fun i => by
   by_cases hlt : i < len
   ·obtain ⟨_, _, ht, _⟩ := hi i (by omega)
    obtain ⟨z, hc, _, hw⟩ := DataW.trod_int Tryz.underlying3 ht
    exact ⟨z, fun _ => ⟨by simpa using hc, bounds_i64 hw⟩⟩
   ·exact ⟨0, fun h => absurd h hlt⟩
  have h1 : ∀ i, ∃ z : Int, i < len → V1 i = .int .i64 z ∧ IntOk z := fun i => by
   by_cases hlt : i < len
   ·obtain ⟨_, _, _, ht⟩ := hi i (by omega)
    obtain ⟨z, hc, _, hw⟩ := DataW.trod_int Tryz.underlying3 ht
    exact ⟨z, fun _ => ⟨by simpa using hc, bounds_i64 hw⟩⟩
   ·exact ⟨0, fun h => absurd h hlt⟩
  obtain ⟨Z0, hZ0⟩ := Classical.skolem.1 h0
  obtain ⟨Z1, hZ1⟩ := Classical.skolem.1 h1
  have hlen : ((List.range len).map fun i => ((Z0 i, Z1 i) : Int × Int)).length = len := by simp
  have hel : ∀ (i : Nat) (h : i < ((List.range len).map fun i => ((Z0 i, Z1 i) : Int × Int)).length), ((List.range len).map fun i => ((Z0 i, Z1 i) : Int × Int))[i] = (Z0 i, Z1 i) := fun i h => by simp
  have hok : ∀ p ∈ (List.range len).map fun i => ((Z0 i, Z1 i) : Int × Int), IntOk p.1 ∧ IntOk p.2 := fun p hp => by
   obtain ⟨i, hi', rfl⟩ := List.mem_map.1 hp
   exact ⟨(hZ0 i (List.mem_range.1 hi')).2, (hZ1 i (List.mem_range.1 hi')).2⟩
  have hwl : (∀ n ∈ DataW.weights Tryz.prog 23 x.1, n ≤ reachBytes) → ((List.range len).map fun i => ((Z0 i, Z1 i) : Int × Int)).length ≤ 9000000000000 := by
   intro hw
   rw [hlen]
   have hb16 : Tryz.prog.bytesOf 151 = 16 := by kernel_rfl
   rw [hx] at hw
   simp only [DataW.weights, Tryz.underlying23] at hw
   have := hw _ List.mem_cons_self
   rw [hb16] at this
   unfold reachBytes at this
   simp at this
   omega
  refine ⟨(List.range len).map fun i => ((Z0 i, Z1 i) : Int × Int), ?_, hok, hwl⟩
  clear hok hwl
  generalize (List.range len).map (fun i => ((Z0 i, Z1 i) : Int × Int)) = l at *
  subst hlen
  refine ⟨frN_len l, some a, cap, rfl, ⟨hl, hm⟩, (fun h => by cases h), fun hn => ?_⟩
  obtain ⟨b, off, spot⟩ := a
  have hspot : spot = none := by simpa [Addr.add] using World.cell?_spot (hi 0 (by omega)).1
  subst hspot
  refine ⟨b, off, rfl, fun i hii => ?_⟩
  have hk : i / 2 < l.length := by omega
  obtain ⟨c0, c1, _, _⟩ := hi (i / 2) (by omega)
  rw [Addr.add_lit, (hZ0 _ hk).1] at c0
  rw [Addr.add_lit, (hZ1 _ hk).1] at c1
  obtain ⟨e0, e1⟩ := frV_two l (i / 2) hk
  rw [hel _ hk] at e0 e1
  rcases Nat.mod_two_eq_zero_or_one i with h | h
  ·have ei : i = i / 2 * 2 := by omega
   rw [show (frV l)[i]? = (frV l)[i / 2 * 2]? from by rw [← ei], e0, ← c0]; congr 2; omega
  ·have ei : i = i / 2 * 2 + 1 := by omega
   rw [show (frV l)[i]? = (frV l)[i / 2 * 2 + 1]? from by rw [← ei], e1, ← c1]; congr 2; omega
theorem names_of_trod {H : Type} {enc : TypeId × Value → H} {W : World} {base : Nat} {v : Value} {d : DataW H} {p : List MemPlace}
  (hval : Value.okWide Tryz.prog W .any base 26 v) (h : DataW.Trod enc Tryz.prog W 0 (fun _ => true) true 26 v d p) (hwt : ∀ n ∈ DataW.weights Tryz.prog 26 d, n ≤ reachBytes) :
  ∃ (vk vs vv vt vo : Value) (lk ls lv lt : List (Int × Int)) (L : List Int), v = .agg #[vk, vs, vv, vt, vo] ∧ (PrN W vk lk ∧ ∀ p ∈ lk, IntOk p.1 ∧ IntOk p.2) ∧ (PrN W vs ls ∧ ∀ p ∈ ls, IntOk p.1 ∧ IntOk p.2) ∧ (PrN W vv lv ∧ ∀ p ∈ lv, IntOk p.1 ∧ IntOk p.2) ∧ (PrN W vt lt ∧ ∀ p ∈ lt, IntOk p.1 ∧ IntOk p.2) ∧ Ints W vo L ∧ lk.length ≤ 9000000000000 ∧ ls.length ≤ 9000000000000 ∧ lv.length ≤ 9000000000000 ∧ lt.length ≤ 9000000000000 := by
 obtain ⟨cs, rfl, hsz⟩ := okWide_struct Tryz.underlying26 hval
 obtain ⟨c0, c1, c2, c3, c4, rfl⟩ := array5N (hsz.trans cellsNames)
 obtain ⟨fuel, hf⟩ := h
 obtain ⟨xs, n, _, hx, hl, hlen, hf⟩ := DataW.trod_struct Tryz.underlying26 hf
 have h0 := hf 0 _ rfl
 have h1 := hf 1 _ rfl
 have h2 := hf 2 _ rfl
 have h3 := hf 3 _ rfl
 have h4 := hf 4 _ rfl
 match xs, hlen with
 | [y0, y1, y2, y3, y4], _ =>
  simp [Value.cells] at h0 h1 h2 h3 h4
  have hd := congrArg Prod.fst hx
  have hd : d = .agg ([y0, y1, y2, y3, y4].map (·.1)) := hd
  have hin : ∀ i (hi : i < 4) n, n ∈ DataW.weights Tryz.prog 23 ([y0, y1, y2, y3, y4][i]'(by simp; omega)).1 → n ≤ reachBytes := fun i hi n hn => hwt n (by
   rw [hd]
   simp only [DataW.weights, Tryz.underlying26, DataW.weightsEach, List.map_cons, List.map_nil]
   match i, hi with
   | 0, _ => simp at hn; simp [hn]
   | 1, _ => simp at hn; simp [hn]
   | 2, _ => simp at hn; simp [hn]
   | 3, _ => simp at hn; simp [hn])
  obtain ⟨lk, hk, ik, nk⟩ := prn_of_cells h0
  obtain ⟨ls, hs, is, ns⟩ := prn_of_cells h1
  obtain ⟨lv, hv, iv, nv⟩ := prn_of_cells h2
  obtain ⟨lt, ht, it, nt⟩ := prn_of_cells h3
  obtain ⟨L, ho⟩ := ints_of_cells h4
  exact ⟨c0, c1, c2, c3, c4, lk, ls, lv, lt, L, rfl, ⟨hk, ik⟩, ⟨hs, is⟩, ⟨hv, iv⟩, ⟨ht, it⟩, ho, nk (hin 0 (by omega)), ns (hin 1 (by omega)), nv (hin 2 (by omega)), nt (hin 3 (by omega))⟩
end

section
open Go.RowKit
structure KeepLaw (B : Nat) (Kp : (Nat → Prop) → Nat → World → World → Prop) : Prop where
 put : ∀ {X D A l o r}, B ≤ l → l < D → A.heap[l]? = some (.loop r) → Kp X D A (A.putObj l o)
 trans : ∀ {X D A B C}, Kp X D A B → Kp X D B C → Kp X D A C
 mono : ∀ {X D E A B}, Kp X D A B → D ≤ E → Kp X E A B
 same : ∀ {X D A B k o}, Kp X D A B → D ≤ k → ¬ X k → A.heap[k]? = some o → o.isCells = false → B.heap[k]? = some o
structure KeepsX (D : Nat) (X : Nat → Prop) (A B : World) : Prop where
 os : B.os = A.os
 tape : B.tape = A.tape
 output : B.output = A.output
 size : A.heap.size ≤ B.heap.size
 same : ∀ k, k < D ∨ X k → k < A.heap.size → B.heap[k]? = A.heap[k]?
theorem KeepsX.trans {D : Nat} {X : Nat → Prop} {A B C : World} (h : KeepsX D X A B) (k : KeepsX D X B C) : KeepsX D X A C :=
 ⟨k.os.trans h.os, k.tape.trans h.tape, k.output.trans h.output, Nat.le_trans h.size k.size, fun j hj hl => (k.same j hj (Nat.lt_of_lt_of_le hl h.size)).trans (h.same j hj hl)⟩
theorem KeepsX.of_below {D : Nat} {X : Nat → Prop} {A B : World} (h : Below A.heap.size A B) : KeepsX D X A B := ⟨h.os, h.tape, h.output, h.size, fun k _ hk => h.block k hk⟩
theorem KeepsX.below {D : Nat} {X : Nat → Prop} {A B : World} (h : KeepsX D X A B) (hD : D ≤ A.heap.size) : Below D A B := ⟨h.os, h.tape, h.output, h.size, fun k hk => h.same k (.inl hk) (by omega)⟩
theorem KeepsX.put {D l : Nat} {X : Nat → Prop} (A : World) (o : Obj) (hl : D ≤ l) (hX : ¬ X l) : KeepsX D X A (A.putObj l o) :=
 ⟨(grownBy_putObj' A l o).os, (grownBy_putObj' A l o).tape, (grownBy_putObj' A l o).output, (grownBy_putObj' A l o).size, fun k hk _ => World.putObj_heap_other (fun e => by subst e; exact hk.elim (fun h => by omega) hX)⟩
def StaysX {α : Type} (D : Nat) (J : (Nat → Prop) → List α → World → Prop) : Prop := ∀ X pre A B, J X pre A → KeepsX D X A B → J X pre B
def SeqOf {α : Type} (H : Nat → (Nat → Prop) → World → Value → α → Prop) (Kp : (Nat → Prop) → Nat → World → World → Prop) (F : Fence) (n : Nat) (P : Program) (g : Nat) (pb lb : Array Value) (L : List α) (w : World) : Prop :=
 ∀ (l : Nat) (J : (Nat → Prop) → List α → World → Prop) (Jx : List α → World → Prop) (W : World), KeepsX w.heap.size (fun _ => False) w W → StaysX W.heap.size J →
  (∀ X pre v r A, J X pre A → H W.heap.size X A v r → (∀ k, X k → W.heap.size ≤ k) → (pre ++ [r]) <+: L → YieldAt F (n - 1) P l #[v] A fun e B =>
   (e = .returned (.bool true) ∧ (∃ X', J X' (pre ++ [r]) B ∧ ∀ k, X' k → X k ∨ (A.heap.size ≤ k ∧ k < B.heap.size)) ∧ Kp X W.heap.size A B) ∨ (e = .returned (.bool false) ∧ Jx (pre ++ [r]) B ∧ Kp X W.heap.size A B)) →
  J (fun _ => False) [] W →
  CallsIn F n P g (pb ++ #[.func (.yield l) #[] #[]] ++ lb) W fun e B => (∃ v, e = .returned v) ∧ ((∃ X, J X L B) ∨ ∃ pre, pre <+: L ∧ Jx pre B)
def roundEndO {α : Type} (Kp : (Nat → Prop) → Nat → World → World → Prop) (D : Nat) (I : (Nat → Prop) → List α → World → Prop) (Ix : Code → List α → World → Prop) (X : Nat → Prop) (xs : List α) (W : World) : Exit → Act → World → Prop
 | .normal, _, B => (∃ X', I X' xs B ∧ ∀ k, X' k → X k ∨ (W.heap.size ≤ k ∧ k < B.heap.size)) ∧ Kp X D W B
 | .ret, _, B => Kp X D W B ∧ Ix .ret xs B
 | .exit id, _, B => Kp X D W B ∧ Ix (.exit id) xs B
 | _, _, _ => False
def KpN (N : Nat → Prop) (X : Nat → Prop) (D : Nat) (A B : World) : Prop := A.heap.size ≤ B.heap.size ∧ ∀ k, N k ∨ D ≤ k → ¬ X k → k < A.heap.size → B.heap[k]? = A.heap[k]?
theorem kpN_law {N : Nat → Prop} {B : Nat} (hN : ∀ k, N k → k < B) : KeepLaw B (KpN N) :=
 ⟨fun {X D A l o r} hB hl _ => ⟨Nat.le_of_eq World.putObj_size.symm, fun k hk _ _ => World.putObj_heap_other (fun e => by subst e; exact hk.elim (fun q => by have := hN _ q; omega) (fun q => by omega))⟩,
  fun h k => ⟨Nat.le_trans h.1 k.1, fun j hj hX hl => (k.2 j hj hX (Nat.lt_of_lt_of_le hl h.1)).trans (h.2 j hj hX hl)⟩,
  fun h e => ⟨h.1, fun j hj => h.2 j (hj.imp id (fun q => Nat.le_trans e q))⟩, fun h hk hX e _ => (h.2 _ (.inr hk) hX (Array.getElem?_eq_some_iff.1 e).1).trans e⟩
theorem KpN.of_grown {N X : Nat → Prop} {D : Nat} {A B : World} {row : Option Nat} (h : A.grownBy B row) (hr : ∀ j, row = some j → (¬ N j ∧ j < D) ∨ X j) : KpN N X D A B :=
 ⟨h.size, fun k hk hX hl => h.block k hl (fun e => (hr k e.symm).elim (fun q => hk.elim q.1 (fun z => by omega)) hX)⟩
theorem KpN.trans {N X : Nat → Prop} {D : Nat} {A B C : World} (h : KpN N X D A B) (k : KpN N X D B C) : KpN N X D A C :=
 ⟨Nat.le_trans h.1 k.1, fun j hj hX hl => (k.2 j hj hX (Nat.lt_of_lt_of_le hl h.1)).trans (h.2 j hj hX hl)⟩
theorem KpN.of_below {N X : Nat → Prop} {D : Nat} {A B : World} (h : Below A.heap.size A B) : KpN N X D A B := ⟨h.size, fun k _ _ hk => h.block k hk⟩
section
variable {α : Type} {H : Nat → (Nat → Prop) → World → Value → α → Prop} {Kp : (Nat → Prop) → Nat → World → World → Prop}
theorem range_of (hH : ∀ {D X W v x l o r}, H D X W v x → l < D → W.heap[l]? = some (.loop r) → H D X (W.putObj l o) v x)
  {F : Fence} {n : Nat} {P : Program} {g : Operand} {ps : Array Tmp} {assign body : Code} {Q : Exit → Act → World → Prop} {a : Act} {w w0 : World} {gf : Nat} {pb lb : Array Value} {L : List α}
  (hKp : KeepLaw w.heap.size Kp) (hro : F.round = none) (h1 : 1 ≤ n) (hg : a.eval g = .func (.func gf) pb lb) (hFg : F.fn gf) (eg : ∀ args w, (callFunc gf args).run P w = .ok (.enter gf args) w)
  (hseq : SeqOf H Kp F (n - 1) P gf pb lb L w0) (hb0 : KeepsX w0.heap.size (fun _ => False) w0 w) (hps : ps.size = 1)
  (I : (Nat → Prop) → List α → World → Prop) (Ix : Code → List α → World → Prop) (hI : StaysX w.heap.size I) (hIx : ∀ c pre W (r : Loop) o, Ix c pre W → W.heap[w.heap.size + 1]? = some (.loop r) → Ix c pre (W.putObj (w.heap.size + 1) o)) (h0 : I (fun _ => False) [] w) (a1 : Value → Act)
  (hassign : ∀ (l : Nat) (v : Value) (W : World) (K : Act → World → Prop), K (a1 v) W →
   assign.wpIn (F.inRound l) (n - 1 - 1) P (Exit.then K (fun _ _ _ => False)) { tmps := (ps.zip #[v]).foldl (fun t (p, v) => t.setIfInBounds p v) a.tmps, defers := [] } W)
  (hbody : ∀ (l : Nat) (X : Nat → Prop) (pre : List α) (v : Value) (r : α) (W : World), w.heap.size ≤ l → l < w.heap.size + 2 → (∃ q, W.heap[l]? = some (.loop q)) → (∀ k, X k → w.heap.size + 2 ≤ k) → I X pre W → H (w.heap.size + 2) X W v r → (pre ++ [r]) <+: L → w.heap.size + 2 ≤ W.heap.size →
   body.wpIn (F.inRound l) (n - 1 - 1) P (roundEndO Kp w.heap.size I Ix X (pre ++ [r]) W) (a1 v) W)
  (hdone : ∀ X W, I X L W → W.heap[w.heap.size]? = some (.deferred (some [])) → Q .normal { a with defers := { target := .collected w.heap.size, args := #[] } :: a.defers } W)
  (hstop : ∀ c pre W, pre <+: L → Ix c pre W → W.heap[w.heap.size]? = some (.deferred (some [])) → c.wpIn F n P Q { a with defers := { target := .collected w.heap.size, args := #[] } :: a.defers } W) :
  (Code.rangeFunc g ps assign body).wpIn F n P Q a w := by
 refine wpIn_rangeFunc fun fn hfn => ?_
 rw [hro]
 generalize hD : w.heap.size = D at *
 obtain ⟨rec, hrec⟩ : ∃ rec : LoopState → Option Code → Loop, rec = fun st pe => { state := st, pending := pe, fn, tmps := a.tmps, params := ps, assign, body, defers := D } := ⟨_, rfl⟩
 have hrun : (Instr.enterLoop fn a.tmps ps assign body none).run P w = .ok (D + 1, [{ target := .collected D, args := #[] }]) ((w.alloc (.deferred (some []))).alloc (.loop (rec .ready none))) := by
  rw [hrec, ← hD]; exact run_enterLoop_outer _ _ _ _ _
 have hbel : Below w.heap.size w ((w.alloc (.deferred (some []))).alloc (.loop (rec .ready none))) := ((Below.refl _ w).alloc (Nat.le_refl _) _).alloc (by simp) _
 have hsz : ((w.alloc (.deferred (some []))).alloc (.loop (rec .ready none))).heap.size = D + 2 := by simp [hD]
 have hl1 : ((w.alloc (.deferred (some []))).alloc (.loop (rec .ready none))).heap[D + 1]? = some (.loop (rec .ready none)) := by
  have := World.alloc_heap_new (w.alloc (.deferred (some []))) (.loop (rec .ready none))
  rwa [World.size_alloc, hD] at this
 have hd1 : ((w.alloc (.deferred (some []))).alloc (.loop (rec .ready none))).heap[D]? = some (.deferred (some [])) := by
  rw [Below.heap_alloc _ _ _ (by simp [hD])]
  have := World.alloc_heap_new w (.deferred (some []))
  rwa [hD] at this
 generalize (w.alloc (.deferred (some []))).alloc (.loop (rec .ready none)) = W1 at *
 rw [hD] at hbel
 have hput : ∀ (X : Nat → Prop) (W : World) (o : Obj), (∀ k, X k → D + 2 ≤ k) → KeepsX D X W (W.putObj (D + 1) o) := fun X W o h =>
  KeepsX.put W o (by omega) (fun q => by have := h _ q; omega)
 refine ⟨D + 1, _, W1, { target := .fn (.func gf) lb, args := pb ++ #[.func (.yield (D + 1)) #[] #[]] }, W1, gf, pb ++ #[.func (.yield (D + 1)) #[] #[]] ++ lb, W1, hrun, ?_, ?_, ?_, fun _ => h1, ?_⟩
 ·simp only [resolve, hg]; simp [go_sem]
 ·intro f' hf'; simp [Target.leads] at hf'; subst hf'; exact hFg
 ·simp [invoke, go_sem, eg]
 have hat : ∀ {X : Nat → Prop} {A B : World} {k : Nat} {o : Obj}, KeepsX W1.heap.size X A B → k < D + 2 → A.heap[k]? = some o → B.heap[k]? = some o := fun h hk e => (h.same _ (.inl (by omega)) (Array.getElem?_eq_some_iff.1 e).1).trans e
 refine (hseq (D + 1) (fun X pre W => (∀ k, X k → D + 2 ≤ k) ∧ I X pre W ∧ W.heap[D + 1]? = some (.loop (rec .ready none)) ∧ W.heap[D]? = some (.deferred (some [])))
  (fun pre W => ∃ c, Ix c pre W ∧ W.heap[D + 1]? = some (.loop (rec .done (some c))) ∧ W.heap[D]? = some (.deferred (some []))) W1
  (hb0.trans ⟨hbel.os, hbel.tape, hbel.output, hbel.size, fun j hj hl => hbel.block j (by rw [← hD]; exact hl)⟩)
  (fun X pre A B h hb => ⟨h.1, hI _ _ _ _ h.2.1 ⟨hb.os, hb.tape, hb.output, hb.size, fun k hk hl => hb.same k (hk.imp (fun q => by omega) id) hl⟩, hat hb (by omega) h.2.2.1, hat hb (by omega) h.2.2.2⟩)
  ?_ ⟨fun _ h => h.elim, hI _ _ _ _ h0 (KeepsX.of_below (by rw [hD]; exact hbel)), hl1, hd1⟩).mono ?_
 ·rintro X pre v r A ⟨hX, hi, hl, hk⟩ hr _ hpre
  rw [hsz] at hr ⊢
  have hlt : D + 1 < A.heap.size := (Array.getElem?_eq_some_iff.1 hl).1
  have hy := run_yield (P := P) (args := #[v]) hl (by rw [hrec]; exact hps.symm)
  rw [hrec] at hy
  refine ⟨fn, _, assign, body, hy, roundIn_of_wpIn hfn (hassign _ v A _ ⟨_, run_beginRound hl (by rw [hrec]), ?_⟩)⟩
  have hl2 : (A.putObj (D + 1) (.loop { rec .ready none with state := .busy })).heap[D + 1]? = some (.loop { rec .ready none with state := .busy }) := World.putObj_heap_same hlt
  have hk2 : (A.putObj (D + 1) (.loop { rec .ready none with state := .busy })).heap[D]? = some (.deferred (some [])) := (World.putObj_heap_other (by omega)).trans hk
  have hK2 := hKp.put (X := X) (D := D + 2) (A := A) (l := D + 1) (o := .loop { rec .ready none with state := .busy }) (by omega) (by omega) hl
  refine wpIn_mono (hbody _ X pre v r _ (by omega) (by omega) ⟨_, hl2⟩ hX (hI _ _ _ _ hi (hput _ _ _ hX)) (hH hr (by omega) hl) hpre (by simp; omega)) ?_
  rintro e a3 W3 hp
  have fin : ∀ (jump : Option Code), Kp X D (A.putObj (D + 1) (.loop { rec .ready none with state := .busy })) W3 →
    ∃ B, (Instr.endRound (D + 1) jump).run P W3 = .ok (.bool jump.isNone) B ∧ (∃ (r : Loop) (o : Obj), W3.heap[D + 1]? = some (.loop r) ∧ B = W3.putObj (D + 1) o) ∧ (∀ Y, (∀ k, Y k → D + 2 ≤ k) → KeepsX D Y W3 B) ∧ Kp X (D + 2) A B ∧ B.heap[D + 1]? = some (.loop (rec (if jump.isNone then .ready else .done) jump)) ∧ B.heap[D]? = some (.deferred (some [])) := fun jump hk3 => by
   have hl3 := hKp.same hk3 (by omega) (fun q => by have := hX _ q; omega) hl2 rfl
   have hd3 := hKp.same hk3 (Nat.le_refl _) (fun q => by have := hX _ q; omega) hk2 rfl
   have hlt3 := (Array.getElem?_eq_some_iff.1 hl3).1
   refine ⟨_, run_endRound (P := P) jump hl3, ⟨_, _, hl3, rfl⟩, fun Y hY => hput Y _ _ hY, hKp.trans (hKp.trans hK2 (hKp.mono hk3 (by omega))) (hKp.put (by omega) (by omega) hl3), ?_, (World.putObj_heap_other (by omega)).trans hd3⟩
   rw [World.putObj_heap_same hlt3, hrec]
  cases e with
  | normal =>
   obtain ⟨⟨X', hi3, hX'⟩, hk3⟩ := hp
   obtain ⟨B, hr, _, hb, hkb, hl4, hd4⟩ := fin none hk3
   rw [World.putObj_size] at hX'
   have hY : ∀ k, X' k → D + 2 ≤ k := fun k q => (hX' k q).elim (hX k) (fun h => by omega)
   have hsz2 := (hb X' hY).size
   exact ⟨_, B, hr, .inl ⟨rfl, ⟨X', ⟨hY, hI _ _ _ _ hi3 (hb X' hY), hl4, hd4⟩, fun k q => (hX' k q).imp id (fun h => ⟨h.1, Nat.lt_of_lt_of_le h.2 hsz2⟩)⟩, hkb⟩⟩
  | ret =>
   obtain ⟨hk3, hi3⟩ := hp
   obtain ⟨B, hr, ⟨lr, lo, hl3, hB⟩, _, hkb, hl4, hd4⟩ := fin (some .ret) hk3
   exact ⟨_, B, hr, .inr ⟨rfl, ⟨_, by rw [hB]; exact hIx _ _ _ lr lo hi3 hl3, hl4, hd4⟩, hkb⟩⟩
  | exit id =>
   obtain ⟨hk3, hi3⟩ := hp
   obtain ⟨B, hr, ⟨lr, lo, hl3, hB⟩, _, hkb, hl4, hd4⟩ := fin (some (.exit id)) hk3
   exact ⟨_, B, hr, .inr ⟨rfl, ⟨_, by rw [hB]; exact hIx _ _ _ lr lo hi3 hl3, hl4, hd4⟩, hkb⟩⟩
  | goto t => exact hp.elim
  | panic ch => exact hp.elim
  | outgrown => exact hp.elim
 ·rintro e W2 ⟨⟨v, rfl⟩, (⟨X, hX, hi, hl, hk⟩ | ⟨pre, hpre, c, hi, hl, hk⟩)⟩
  ·have hlt := (Array.getElem?_eq_some_iff.1 hl).1
   refine ⟨none, _, by have := run_endLoop (P := P) hl (by rw [hrec]; simp); rw [hrec] at this; exact this, ?_⟩
   exact hdone X _ (hI _ _ _ _ hi (hput _ _ _ hX)) ((World.putObj_heap_other (by omega)).trans hk)
  ·refine ⟨some c, _, by have := run_endLoop (P := P) hl (by rw [hrec]; simp); rw [hrec] at this; exact this, ?_⟩
   exact hstop c pre _ hpre (hIx _ _ _ _ _ hi hl) ((World.putObj_heap_other (by omega)).trans hk)
end
end

section
open Go.RowKit
def BoxN (w : World) (p : Nat) (t : TypeId) (cs : Array Value) : Prop := w.heap[p]? = some (.cells cs t (0, 0))
section
variable {w w' : World} {p : Nat} {t : TypeId} {cs : Array Value}
theorem BoxN.lt (h : BoxN w p t cs) : p < w.heap.size := (Array.getElem?_eq_some_iff.1 h).1
theorem BoxN.cell (h : BoxN w p t cs) {i : Nat} {v : Value} (hv : cs[i]? = some v) : w.cell? ⟨p, i, none⟩ = some v := by rw [cell_of_row w p i _ _ _ h]; exact hv
theorem BoxN.free (h : BoxN w p t cs) (i : Nat) : w.frozen? ⟨p, i, none⟩ = false := frozen_of_row w p i _ _ h
theorem BoxN.new (w : World) (t : TypeId) (cs : Array Value) : BoxN (w.alloc (.cells cs t)) w.heap.size t cs := World.alloc_heap_new w _
theorem BoxN.below (h : BoxN w p t cs) (hb : Below w.heap.size w w') : BoxN w' p t cs := (hb.block p h.lt).trans h
theorem BoxN.kept {row : Option Nat} (h : BoxN w p t cs) (hg : w.grownBy w' row) (hne : some p ≠ row) : BoxN w' p t cs := (hg.block p h.lt hne).trans h
theorem BoxN.set (h : BoxN w p t cs) (i : Nat) (v : Value) : BoxN (w.setCell ⟨p, i, none⟩ v) p t (cs.setIfInBounds i v) := heap_setCell_same w p i cs t v h
theorem BoxN.far (h : BoxN w p t cs) {a : Addr} (ha : p ≠ a.block) (v : Value) : BoxN (w.setCell a v) p t cs := (heap_setCell_other w a p v ha).trans h
end
theorem owns_no_box {w : World} {b : Nat} {e t : TypeId} {s n p : Nat} {v : Value} {xs : List Value} {cs : Array Value} (h : w.ownsRow b e s v n xs) (k : BoxN w p t cs) (hne : e ≠ t) : v.ownBlock = none ∨ v.ownBlock ≠ some p := by
 rcases h.2 with ⟨rfl, _⟩ | ⟨g, c, cur, rfl, _, hh, _⟩
 ·exact .inl rfl
 ·right
  intro e2
  simp [Value.ownBlock] at e2
  subst e2
  unfold BoxN at k
  rw [hh] at k
  injection k with k
  injection k with _ k
  exact hne k
theorem grown_set (w : World) (a : Addr) (u : Value) : w.grownBy (w.setCell a u) (some a.block) :=
 ⟨rfl, rfl, rfl, by simp, fun k _ hk => Below.heap_setCell w a u k (fun e => hk (by rw [e]))⟩
theorem owns_weak {w : World} {b b' : Nat} {e : TypeId} {s n : Nat} {v : Value} {xs : List Value} (h : w.ownsRow b e s v n xs) (hb : b' ≤ b) : w.ownsRow b' e s v n xs := by
 refine ⟨h.1, ?_⟩
 rcases h.2 with q | ⟨g, c, cur, e1, e2, r⟩
 ·exact .inl q
 ·exact .inr ⟨g, c, cur, e1, Nat.le_trans hb e2, r⟩
def IntO (w : World) (b : Nat) (v : Value) (L : List Int) : Prop := w.ownsRow b 3 1 v L.length (L.map (Value.int .i64))
section
variable {w w' : World} {b : Nat} {v : Value} {L : List Int}
theorem IntO.ints (h : IntO w b v L) : Ints w v L := Ints.of_owns h
theorem IntO.below (h : IntO w b v L) (hb : Below w.heap.size w w') : IntO w' b v L := owns_below h hb
theorem IntO.box {p : Nat} {t : TypeId} {cs : Array Value} (h : IntO w b v L) (k : BoxN w p t cs) (hne : 3 ≠ t) (hg : w.grownBy w' (some p)) : IntO w' b v L := World.ownsRow.kept h hg (owns_no_box h k hne)
theorem IntO.nil (w : World) (b : Nat) : IntO w b (.slice none 0 0) [] := ⟨rfl, .inl ⟨rfl, rfl⟩⟩
end
end

section
open Go.RowKit Go.Shelf
attribute [local go_sem] Oper.semAt_some
abbrev IntH : Nat → (Nat → Prop) → World → Value → Int → Prop := fun _ _ _ v x => v = .int .i64 x
theorem svalues_any (ao : Option Addr) (m cap : Nat) (w : World) :
  Calls Tryz.prog 89 #[.slice ao m cap] w fun e w' => e = .returned (.func (.func 134) #[] #[.pointer (some ⟨w.heap.size, 0, none⟩)]) ∧ w' = w.alloc (.cells #[.slice ao m cap] 24) := by
 go_enter Tryz.func89, Tryz.ntmps89
 go_wp2_with fail
 go_ret
 exact ⟨rfl, rfl⟩
theorem take_pre {α : Type} (l : List α) {k : Nat} (hk : k < l.length) : (l.take k ++ [l[k]]) <+: l := by
 rw [← List.take_succ_eq_append_getElem hk]; exact List.take_prefix _ _
theorem svalues_seq (n Bs : Nat) (va : Value) (xs : List Int) (w : World) (hB : Bs < w.heap.size) (hc : w.cell? ⟨Bs, 0, none⟩ = some va) (hI : Ints w va xs) :
  SeqOf IntH (KpN fun k => k < w.heap.size) Fence.wide n Tryz.prog 134 #[] #[.pointer (some ⟨Bs, 0, none⟩)] xs w := by
 intro l J Jx W hW hJ hY h0
 obtain ⟨ao, cap, rfl, hal⟩ := hI.form
 have hWb : Below w.heap.size w W := hW.below (Nat.le_refl _)
 have hcell := (hWb.cell (p := ⟨Bs, 0, none⟩) hB).trans hc
 have HI := hid hI
 have HW0 : Hid (∀ j, j < w.heap.size → W.heap[j]? = w.heap[j]?) := hid (fun j hj => hWb.block j hj)
 have HYL := hid (fun X pre v r A a b c d => yield_depth (m := n - 1) rfl 1 (hY X pre v r A a b c d))
 have HWS := hid hW.size
 clear hY hW hWb hc hI
 refine (callsIn_wide (n := n)).2 ((callsIn_wide (n := 2)).1 ?_)
 refine callsIn_of_wp Tryz.func134 rfl trivial ?_ rfl
 simp only [Tryz.ntmps134, List.size_toArray, List.length_cons, List.length_nil, Nat.reduceAdd, Nat.reduceSub, Array.replicate_succ, Array.replicate_zero, List.push_toArray, List.append_toArray, List.nil_append, List.cons_append]
 gi_wp2
 gi_loopw [7] (fun i wr => ∃ (k : Nat) (X : Nat → Prop), k ≤ xs.length ∧ i = .int .i64 (k : Int) ∧ Hid (J X (xs.take k) wr) ∧ Hid (∀ j, X j → W.heap.size ≤ j) ∧ Hid (∀ j, j < w.heap.size → wr.heap[j]? = w.heap[j]?) ∧ Hid (W.heap.size ≤ wr.heap.size))
  (fun i _ => xs.length - (intOf i).toNat)
 case atStart => exact ⟨0, fun _ => False, Nat.zero_le _, rfl, hid h0, hid (fun _ q => q.elim), HW0, hid (Nat.le_refl _)⟩
 case round =>
  clear h0 hcell
  obtain ⟨k, X, hk, rfl, HJ, HX, HS, HZ⟩ := hrel
  by_cases hlt : k < xs.length
  ·have hki : (k : Int) < (xs.length : Int) := by omega
   obtain ⟨g, o, hg, hcx⟩ := HI.out.at hlt
   cases hg
   have hcx := (World.cell?_of_block (HS.out g (block_lt hcx))).trans hcx
   have HT : Hid (xs.take (k + 1) = xs.take k ++ [xs[k]]) := hid (List.take_succ_eq_append_getElem hlt)
   have HP := hid (take_pre xs hlt)
   obtain ⟨fn, tmps, assign, body, hy, hR⟩ := HYL.out X (xs.take k) (.int .i64 xs[k]) xs[k] wr HJ.out rfl HX.out HP.out
   generalize xs[k] = x at *
   gi_wp2
   refine hR.mono ?_
   rintro e W3 (⟨rfl, ⟨X', hJ', hX'⟩, hk'⟩ | ⟨rfl, hx, _⟩)
   ·have HJ2 : Hid (J X' (xs.take (k + 1)) W3) := hid (by rw [HT.out]; exact hJ')
    have HX2 : Hid (∀ j, X' j → W.heap.size ≤ j) := hid (fun j q => (hX' j q).elim (HX.out j) (fun z => Nat.le_trans HZ.out z.1))
    have HS2 : Hid (∀ j, j < w.heap.size → W3.heap[j]? = w.heap[j]?) := hid (fun j hj => (hk'.2 j (.inl hj) (fun q => by have := HX.out j q; have := HWS.out; omega) (by have := HZ.out; have := HWS.out; omega)).trans (HS.out j hj))
    have HZ2 : Hid (W.heap.size ≤ W3.heap.size) := hid (Nat.le_trans HZ.out hk'.1)
    clear hJ' hX' hk' hcx
    gi_wp2
    go_roundw
    case rel => exact ⟨k + 1, X', by omega, by go_num, HJ2, HX2, HS2, HZ2⟩
    case measure => simp [intOf]; omega
   ·gi_wp2
    refine bodyPost_ret (results_none rfl _ _ _) rfl ?_
    exact ⟨⟨_, rfl⟩, .inr ⟨_, HP.out, hx⟩⟩
  ·obtain rfl : k = xs.length := by omega
   have hki : ¬ (xs.length : Int) < (xs.length : Int) := by omega
   have HJ2 : Hid (J X xs wr) := hid (by have q := HJ.out; rwa [List.take_length] at q)
   gi_wp2
   go_end0
   exact ⟨⟨_, rfl⟩, .inl ⟨X, HJ2.out⟩⟩
theorem owns_same {A B : World} {b : Nat} {e : TypeId} {s n : Nat} {v : Value} {xs : List Value} (h : A.ownsRow b e s v n xs) (hs : ∀ g, v.ownBlock = some g → B.heap[g]? = A.heap[g]?) : B.ownsRow b e s v n xs := by
 refine ⟨h.1, ?_⟩
 rcases h.2 with q | ⟨g, c, cur, e1, e2, e3, r⟩
 ·exact .inl q
 ·exact .inr ⟨g, c, cur, e1, e2, by rw [hs g (by rw [e1]; rfl)]; exact e3, r⟩
theorem owns_put {A : World} {b : Nat} {e : TypeId} {s n D : Nat} {v : Value} {xs : List Value} {o : Obj} (h : A.ownsRow b e s v n xs) (hD : A.heap[D]? = some o) (ho : o.isCells = false) (o' : Obj) : (A.putObj D o').ownsRow b e s v n xs := by
 refine owns_same h fun g hg => World.putObj_heap_other fun e => ?_
 subst e
 rcases h.2 with ⟨rfl, _⟩ | ⟨g', c, cur, rfl, _, e3, _⟩
 ·cases hg
 ·simp [Value.ownBlock] at hg
  subst hg
  rw [hD] at e3
  cases e3
  cases ho
theorem sappend_any (Bs : Nat) (va : Value) (xs : List Int) (w : World) (hB : Bs < w.heap.size) (hc : w.cell? ⟨Bs, 0, none⟩ = some va) (hI : Ints w va xs) (hn : xs.length ≤ 100000) :
  Calls Tryz.prog 164 #[.slice none 0 0, .func (.func 134) #[] #[.pointer (some ⟨Bs, 0, none⟩)]] w fun e w' => ∃ v, e = .returned v ∧ IntO w' w.heap.size v xs ∧ Below w.heap.size w w' := by
 obtain ⟨i0, hi, hz0, hz1, hz2⟩ := info_parts infoInt
 refine (callsIn_wide (n := 3)).1 ?_
 refine callsIn_of_wp_marks Tryz.func164 rfl trivial ?_ rfl
 simp only [Tryz.ntmps164, List.size_toArray, List.length_cons, List.length_nil, Nat.reduceAdd, Nat.reduceSub, Array.replicate_succ, Array.replicate_zero, List.push_toArray, List.append_toArray, List.nil_append, List.cons_append]
 have hbel := box_below w (.cells #[.slice none 0 0] 24)
 have hbx := Boxed.new w 24 (.slice none 0 0)
 have hs1 : (w.alloc (.cells #[.slice none 0 0] 24)).heap.size = w.heap.size + 1 := by simp
 gi_wp2_with fail
 generalize w.alloc (.cells #[.slice none 0 0] 24) = W1 at *
 refine range_of (H := IntH) (Kp := KpN fun k => k < w.heap.size) (gf := 134) (pb := #[]) (lb := #[.pointer (some ⟨Bs, 0, none⟩)]) (L := xs) (fun h _ _ => h) (kpN_law (by intro k hk; omega)) rfl (by omega) rfl trivial (fun args w => by kernel_rfl)
  (svalues_seq _ Bs va xs w hB hc hI) ⟨hbel.os, hbel.tape, hbel.output, hbel.size, fun k _ hk => hbel.block k hk⟩ rfl
  (fun X pre W => ∃ v, Boxed W w.heap.size 24 v ∧ IntO W (w.heap.size + 1) v pre ∧ (∀ b, v.ownBlock = some b → X b) ∧ Below w.heap.size w W ∧ ∃ a n c, v = .slice a n c)
  (fun _ _ _ => False) ?stay (fun _ _ _ _ _ q _ => q) ?start
  (fun v => { tmps := #[.slice none 0 0, .func (.func 134) #[] #[.pointer (some ⟨Bs, 0, none⟩)], .pointer (some ⟨w.heap.size, 0, none⟩), undef, .slice none 0 0, v, .func (.func 134) #[] #[.pointer (some ⟨Bs, 0, none⟩)], v, undef, undef, undef, undef, undef], defers := [] }) ?assign ?body ?done ?stop
 case stay =>
  rintro X pre A B ⟨v, h1, h2, h3, h4, h5⟩ hk
  refine ⟨v, (hk.same _ (.inl (by omega)) h1.lt).trans h1, owns_same h2 (fun g hg => hk.same g (.inr (h3 g hg)) (World.ownsRow.lt h2 g hg).2), h3, h4.trans ⟨hk.os, hk.tape, hk.output, hk.size, fun k q => hk.same k (.inl (by omega)) (by have := h4.size; omega)⟩, h5⟩
 case start => exact ⟨_, hbx, IntO.nil _ _, fun b e => (by cases e), hbel, ⟨_, _, _, rfl⟩⟩
 case assign =>
  intro l v W K hK
  gi_wp2
  exact hK
 case body =>
  rintro l X pre v x W hl1 hl2 _ hX ⟨v0, hbox, hO, hXb, hblw, a, m, c, rfl⟩ rfl hpre hsz
  have hpl : pre.length < xs.length := by have := hpre.length_le; simp at this; omega
  have hbc := hbox.cell
  have hbf := hbox.frozen
  have hOl := hO.1
  have HO := hid hO
  have HX := hid hX
  have HXb := hid hXb
  have HBX := hid hbox
  have HBL := hid hblw
  have hsz0 := hblw.size
  have hs1a : W1.heap.size ≤ w.heap.size + 1 := by omega
  have hs1b : w.heap.size + 1 ≤ W1.heap.size := by omega
  clear hbel hbx hs1 hO hX hXb hbox hblw hOl
  have hbe := box_below W (.cells #[.int .i64 x] 3)
  have hown : W.ownsRow (w.heap.size + 1) 3 1 (.slice a m c) pre.length (pre.map (Value.int .i64)) := HO.out
  gi_wp2_with (gi_at_builtin; refine wpListIn_append_own_at _ rfl _ _ 24 rfl (w.heap.size + 1) 3 i0 (.int .i64 0) 1 8 Tryz.underlying24 hi hz0 hz1 hz2 rfl (by decide) _ _ _ rfl (hown.alloc _) ⟨_, 0, none⟩ 1 1 [.int .i64 x] rfl rfl ?c1 ?c2 ?c3 ?c4 ?c5 ?_)
  try case c1 => exact cell_one_new _ _ _
  try case c2 => first | rfl | (intro u hu; simp at hu; subst hu; rfl)
  case c3 => unfold maxLen; omega
  case c4 => omega
  case c5 => simp; omega
  intro v' w1 hown' hgrow _ hat
  obtain ⟨g', cap', rfl, hg1, hg2⟩ := hown'.form (by omega)
  have hrow : ∀ j, (Value.slice a m c).ownBlock = some j → X j := HXb.out
  have hbn : some w.heap.size ≠ (Value.slice a m c).ownBlock := fun e => by have := HX.out _ (hrow _ e.symm); omega
  have hb1 : BoxN w1 w.heap.size 24 #[.slice a m c] := BoxN.kept (BoxN.below (show BoxN W w.heap.size 24 #[.slice a m c] from HBX.out) hbe) hgrow hbn
  have hbc1 := hb1.cell (i := 0) rfl
  have hbf1 := hb1.free 0
  have hgs := grown_set w1 ⟨w.heap.size, 0, none⟩ (.slice (some ⟨g', 0, none⟩) (pre.length + 1) cap')
  have HB2 := hid (hb1.set 0 (.slice (some ⟨g', 0, none⟩) (pre.length + 1) cap'))
  have HO2 : Hid (IntO (w1.setCell ⟨w.heap.size, 0, none⟩ (.slice (some ⟨g', 0, none⟩) (pre.length + 1) cap')) (w.heap.size + 1) (.slice (some ⟨g', 0, none⟩) (pre.length + 1) cap') (pre ++ [x])) := hid (by
   unfold IntO
   rw [List.map_append, List.length_append]
   exact World.ownsRow.kept hown' hgs (owns_no_box hown' hb1 (by decide)))
  have HX2 : Hid (∀ b, (Value.slice (some ⟨g', 0, none⟩) (pre.length + 1) cap').ownBlock = some b → X b ∨ (W.heap.size ≤ b ∧ b < (w1.setCell ⟨w.heap.size, 0, none⟩ (.slice (some ⟨g', 0, none⟩) (pre.length + 1) cap')).heap.size)) := hid (fun b e => by
   have hlt := (World.ownsRow.lt hown' b e).2
   rcases hat with q | q
   ·rw [q] at e; exact .inl (hrow b e)
   ·rw [q] at e; cases e; right; exact ⟨by simp, by simpa using hlt⟩)
  have HBL2 := hid (((HBL.out.alloc HBL.out.size (.cells #[.int .i64 x] 3)).grown hgrow (by simp; omega) (fun j e => by have := (World.ownsRow.lt hown j e).1; omega)).setCell (p := ⟨w.heap.size, 0, none⟩) (Nat.le_refl _) (.slice (some ⟨g', 0, none⟩) (pre.length + 1) cap'))
  have HKP := hid (((KpN.of_below (N := fun k => k < w.heap.size) (X := X) (D := W1.heap.size) hbe).trans (KpN.of_grown hgrow (fun j e => .inr (hrow j e)))).trans (KpN.of_grown hgs (fun j e => .inl (by cases e; exact ⟨Nat.lt_irrefl _, by show w.heap.size < W1.heap.size; omega⟩))))
  clear hown' hgrow hat hb1 hgs hown hbe
  gi_wp2_with fail
  exact ⟨⟨fun k => X k ∨ (W.heap.size ≤ k ∧ k < (w1.setCell ⟨w.heap.size, 0, none⟩ (.slice (some ⟨g', 0, none⟩) (pre.length + 1) cap')).heap.size), ⟨_, HB2.out, HO2.out, HX2.out, HBL2.out, _, _, _, rfl⟩, fun k q => q⟩, HKP.out⟩
 case done =>
  rintro X W ⟨v, h1, h2, h3, h4, a, m, c, rfl⟩ hK
  have hc1 := h1.cell
  have HO := hid h2
  have HB := hid h4
  have hsz := h4.size
  have HK := hid hK
  clear h1 h2 h3 h4 hbel hbx hK
  gi_wp2_with fail
  refine ⟨by simp, .inl ⟨_, _, rfl, run_takeDeferred HK.out, ?_⟩⟩
  exact ⟨_, results_tmp rfl _ _ _, _, rfl, owns_weak (owns_put HO.out HK.out rfl _) (Nat.le_succ _), HB.out.trans (belowK_b (w := w) (Nat.le_refl _) W W1.heap.size _ _ (by omega) HK.out rfl rfl)⟩
 case stop => exact fun _ _ _ _ q => q.elim
end

section
open Go.RowKit
abbrev valF (Bs : Nat) : Value := .func (.func 134) #[] #[.pointer (some ⟨Bs, 0, none⟩)]
def srtI (l : List Int) : List Int := l.mergeSort fun x y => decide (x ≤ y)
theorem scollect_any (Bs : Nat) (va : Value) (xs : List Int) (w : World) (hB : Bs < w.heap.size) (hc : w.cell? ⟨Bs, 0, none⟩ = some va) (hI : Ints w va xs) (hn : xs.length ≤ 100000) :
  Calls Tryz.prog 132 #[valF Bs] w fun e w' => ∃ v, e = .returned v ∧ IntO w' w.heap.size v xs ∧ Below w.heap.size w w' := by
 have CA := hid (sappend_any Bs va xs w hB hc hI hn)
 clear hB hc hI hn
 go_enter Tryz.func132, Tryz.ntmps132
 go_wp2_with fail
 refine CA.out.mono ?_
 rintro e w1 ⟨v, rfl, hO, hb⟩
 have HO := hid hO
 clear CA hO
 go_wp2_with fail
 go_ret
 exact ⟨_, rfl, HO.out, hb⟩
theorem ssorted_any (Bs : Nat) (va : Value) (xs : List Int) (w : World) (hB : Bs < w.heap.size) (hc : w.cell? ⟨Bs, 0, none⟩ = some va) (hI : Ints w va xs) (hn : xs.length ≤ 100000) :
  Calls Tryz.prog 88 #[valF Bs] w fun e w' => ∃ v, e = .returned v ∧ IntO w' w.heap.size v (srtI xs) ∧ Below w.heap.size w w' := by
 have CA := hid (scollect_any Bs va xs w hB hc hI hn)
 clear hB hc hI
 go_enter Tryz.func88, Tryz.ntmps88
 go_wp2_with fail
 refine CA.out.mono ?_
 rintro e w1 ⟨v, rfl, hO, hb⟩
 have CS := hid (isort_own w.heap.size v xs w1 hO (by omega))
 have HL := hid (fun b e => (World.ownsRow.lt hO b e).1)
 clear CA hO
 go_wp2_with fail
 refine CS.out.mono ?_
 rintro e w2 ⟨rfl, hO2, hg⟩
 have hb2 := hb.grown hg hb.size (fun j e => HL.out j e)
 have HO : Hid (IntO w2 w.heap.size v (srtI xs)) := hid (by
  unfold IntO srtI
  rw [List.length_mergeSort]
  exact hO2)
 clear CS hO2 hg hb
 go_wp2_with fail
 go_ret
 exact ⟨_, rfl, HO.out, hb2⟩
def wholeP (xs : List Int) (n : Nat) : Prop := xs = [] ∨ (xs.length = n ∧ ∀ k (hk : k < (srtI xs).length), (srtI xs)[k] = (k : Int))
instance (xs : List Int) (n : Nat) : Decidable (wholeP xs n) := by unfold wholeP; infer_instance
theorem rwhole_any (va : Value) (xs : List Int) (n : Nat) (w : World) (hI : Ints w va xs) (hn : xs.length ≤ 100000) :
  Calls Tryz.prog 40 #[va, .int .i64 (n : Int)] w fun e w' => e = .returned (.bool (decide (wholeP xs n))) ∧ Below w.heap.size w w' := by
 obtain ⟨ao, cap, rfl, hal⟩ := hI.form
 by_cases h0 : xs.length = 0
 ·have HV : Hid (true = decide (wholeP xs n)) := hid (by rw [decide_eq_true (.inl (List.eq_nil_of_length_eq_zero h0))])
  have hq : ((xs.length : Int) == 0) = true := by rw [h0]; rfl
  clear h0
  go_enter Tryz.func40, Tryz.ntmps40
  go_wp2_with fail
  go_ret
  exact ⟨ret_b HV.out, Below.refl _ _⟩
 have hne : xs ≠ [] := fun e => h0 (by rw [e]; rfl)
 have hq : ((xs.length : Int) == 0) = false := by simpa using h0
 by_cases h1 : xs.length = n
 ·have hq1 : ((xs.length : Int) != (n : Int)) = false := by simp; omega
  have HV : Hid (decide (∀ k (hk : k < (srtI xs).length), (srtI xs)[k] = (k : Int)) = decide (wholeP xs n)) := hid (by
   rw [Bool.eq_iff_iff]
   simp only [decide_eq_true_eq]
   unfold wholeP
   exact ⟨fun q => .inr ⟨h1, q⟩, fun q => (q.resolve_left hne).2⟩)
  have hsl : (srtI xs).length ≤ 100000 := by unfold srtI; rw [List.length_mergeSort]; exact hn
  have CV := hid (svalues_any ao xs.length cap w)
  have hbx := box_below w (.cells #[.slice ao xs.length cap] 24)
  have hc : (w.alloc (.cells #[.slice ao xs.length cap] 24)).cell? ⟨w.heap.size, 0, none⟩ = some (.slice ao xs.length cap) := (Boxed.new w 24 _).cell
  have CS := hid (ssorted_any w.heap.size _ xs _ (by simp) hc (hI.below hbx) hn)
  generalize srtI xs = S at *
  clear h0 hne hI hc h1
  go_enter Tryz.func40, Tryz.ntmps40
  go_wp2_with fail
  refine CV.out.mono ?_
  rintro e w1 ⟨rfl, rfl⟩
  clear CV
  go_wp2_with fail
  refine CS.out.mono ?_
  rintro e w2 ⟨v, rfl, hO, hb⟩
  have hb2 := hbx.trans (hb.mono hbx.size)
  have HI := hid hO.ints
  obtain ⟨so, sc, rfl, _⟩ := HI.out.form
  clear CS hO hb hbx
  go_wp2_with fail
  go_loopw [18] (fun i wr => ∃ k : Nat, k ≤ S.length ∧ i = .int .i64 (k : Int) ∧ Hid (∀ j (hj : j < S.length), j < k → S[j] = (j : Int)) ∧ wr = w2) (fun i _ => S.length - (intOf i).toNat)
  case atStart => exact ⟨0, by omega, rfl, hid (fun j _ h => absurd h (Nat.not_lt_zero _)), rfl⟩
  case round =>
   obtain ⟨k, hk, rfl, HN, rfl⟩ := hrel
   by_cases hlt : k < S.length
   ·have hki : (k : Int) < (S.length : Int) := by omega
    obtain ⟨g, o, hg, hcx⟩ := HI.out.at hlt
    cases hg
    have HY : Hid (S[k] = (k : Int) → ∀ j (hj : j < S.length), j < k + 1 → S[j] = (j : Int)) := hid (fun e j hj q => by
     rcases Nat.lt_or_ge j k with z | z
     ·exact HN.out j hj z
     ·obtain rfl : j = k := by omega
      exact e)
    have HF : Hid (S[k] ≠ (k : Int) → false = decide (∀ k (hk : k < S.length), S[k] = (k : Int))) := hid (fun e => by rw [decide_eq_false (fun q => e (q k hlt))])
    generalize S[k] = x at *
    by_cases hx : x = (k : Int)
    ·have HN2 := hid (HY.out hx)
     have hxq : (x != (k : Int)) = false := by simpa using hx
     clear HY HF HN hx
     go_wp2_with fail
     go_roundw
     case rel => exact ⟨k + 1, by omega, by go_num, HN2, trivial⟩
     case measure => simp [intOf]; omega
    ·have HF2 := hid (HF.out hx)
     have hxq : (x != (k : Int)) = true := by simpa using hx
     clear HY HF HN hx
     go_wp2_with fail
     go_ret
     exact ⟨ret_b (HF2.out.trans HV.out), hb2⟩
   ·obtain rfl : k = S.length := by omega
    have hki : ¬ (S.length : Int) < (S.length : Int) := by omega
    have HT : Hid (true = decide (∀ k (hk : k < S.length), S[k] = (k : Int))) := hid (by rw [decide_eq_true (fun k hk => HN.out k hk hk)])
    clear HN
    go_wp2_with fail
    go_ret
    exact ⟨ret_b (HT.out.trans HV.out), hb2⟩
 ·have hq1 : ((xs.length : Int) != (n : Int)) = true := by simp; omega
  have HV : Hid (false = decide (wholeP xs n)) := hid (by
   rw [decide_eq_false]
   rintro (q | q)
   ·exact hne q
   ·exact h1 q.1)
  clear h0 hne hI h1
  go_enter Tryz.func40, Tryz.ntmps40
  go_wp2_with fail
  go_ret
  exact ⟨ret_b HV.out, Below.refl _ _⟩
def risS (F : Int → Option Int) (S : List Int) : Prop := ∀ m (h : m + 1 < S.length), nmF F (S[m]'(Nat.lt_of_succ_lt h)) < nmF F S[m + 1]
instance (F : Int → Option Int) (S : List Int) : Decidable (risS F S) := decidable_of_iff (∀ m, m < S.length - 1 → ∀ h : m + 1 < S.length, nmF F (S[m]'(Nat.lt_of_succ_lt h)) < nmF F S[m + 1]) ⟨fun q m h => q m (by omega) h, fun q m _ h => q m h⟩
def risP (F : Int → Option Int) (L : List Int) : Prop := risS F (srtI L)
instance (F : Int → Option Int) (L : List Int) : Decidable (risP F L) := by unfold risP; infer_instance
theorem rrising_any (v va : Value) (F : Int → Option Int) (L : List Int) (w : World) (hN : NmI w v F) (hI : Ints w va L) (hl : ∀ x ∈ L, InI x) (hn : L.length ≤ 100000) :
  Calls Tryz.prog 92 #[v, va] w fun e w' => e = .returned (.bool (decide (risP F L))) ∧ Below w.heap.size w w' := by
 obtain ⟨ao, cap, rfl, hal⟩ := hI.form
 have HV : Hid (risP F L ↔ risS F (srtI L)) := hid Iff.rfl
 have HSI : Hid (∀ x ∈ srtI L, InI x) := hid (fun x hx => hl x ((List.mergeSort_perm _ _).mem_iff.1 hx))
 have hsl : (srtI L).length ≤ 100000 := by unfold srtI; rw [List.length_mergeSort]; exact hn
 have CV := hid (svalues_any ao L.length cap w)
 have hbx := box_below w (.cells #[.slice ao L.length cap] 24)
 have hc : (w.alloc (.cells #[.slice ao L.length cap] 24)).cell? ⟨w.heap.size, 0, none⟩ = some (.slice ao L.length cap) := (Boxed.new w 24 _).cell
 have CS := hid (ssorted_any w.heap.size _ L _ (by simp) hc (hI.below hbx) hn)
 have CN := hid (fun x wx (hx : Below w.heap.size w wx) (hi : InI x) => rname_any v F x wx (hN.below hx) hi)
 generalize srtI L = S at *
 clear hI hc hN hl
 go_enter Tryz.func92, Tryz.ntmps92
 go_wp2_with fail
 refine CV.out.mono ?_
 rintro e w1 ⟨rfl, rfl⟩
 clear CV
 go_wp2_with fail
 refine CS.out.mono ?_
 rintro e w2 ⟨v2, rfl, hO, hb⟩
 have hb2 := hid (hbx.trans (hb.mono hbx.size))
 have HI := hid hO.ints
 obtain ⟨so, sc, rfl, _⟩ := HI.out.form
 clear CS hO hb hbx
 go_wp2_with fail
 go_loopw [6] (fun i wr => ∃ k : Nat, 1 ≤ k ∧ (k ≤ S.length ∨ k = 1) ∧ i = .int .i64 (k : Int) ∧ Hid (∀ j (hj : j + 1 < S.length), j + 1 < k → nmF F (S[j]'(Nat.lt_of_succ_lt hj)) < nmF F S[j + 1]) ∧ Hid (Below w2.heap.size w2 wr)) (fun i _ => S.length - (intOf i).toNat)
 case atStart => exact ⟨1, Nat.le_refl _, .inr rfl, rfl, hid (fun j _ h2 => by omega), hid (Below.refl _ _)⟩
 case round =>
  obtain ⟨k, hk1, hk2, rfl, HN, HB⟩ := hrel
  by_cases hlt : k < S.length
  ·obtain ⟨m, rfl⟩ : ∃ m, k = m + 1 := ⟨k - 1, by omega⟩
   have hki : (m : Int) + 1 < (S.length : Int) := by omega
   have hkm : (m : Int) < (S.length : Int) := by omega
   have hwr : IntKind.i64.wrap (m : Int) = (m : Int) := by rw [IntKind.wrap_i64]; omega
   have hm0 : decide ((m : Int) < 0) = false := decide_eq_false (by omega)
   have hm1 : decide ((m : Int) + 1 < 0) = false := decide_eq_false (by omega)
   have hm2 : decide ((S.length : Int) ≤ (m : Int) + 1) = false := decide_eq_false (by omega)
   have hp0 : (0 : Int) ≤ (m : Int) + 1 := by omega
   have hp2 : ((m : Int) + 1).toNat = m + 1 := by omega
   have HI2 := HI.out.below HB.out
   obtain ⟨g, o, hg, hc1⟩ := HI2.at (k := m) (by omega)
   cases hg
   obtain ⟨g', o', hg', hc2⟩ := HI2.at hlt
   cases hg'
   have hi1 := HSI.out _ (List.getElem_mem (show m < S.length by omega))
   have hi2 := HSI.out _ (List.getElem_mem hlt)
   have HY : Hid (nmF F (S[m]'(Nat.lt_of_succ_lt hlt)) < nmF F S[m + 1] → ∀ j (hj : j + 1 < S.length), j + 1 < m + 1 + 1 → nmF F (S[j]'(Nat.lt_of_succ_lt hj)) < nmF F S[j + 1]) := hid (fun e j hj q2 => by
    rcases Nat.lt_or_ge j m with z | z
    ·exact HN.out j hj (by omega)
    ·obtain rfl : j = m := by omega
     exact e)
   have HF : Hid (¬ nmF F (S[m]'(Nat.lt_of_succ_lt hlt)) < nmF F S[m + 1] → false = decide (risP F L)) := hid (fun e => by rw [decide_eq_false (fun q => e ((HV.out.1 q) m hlt))])
   have CNQ := hid (fun x n (hi : InI x) => (CN.out x (wr.drewN n) (below_then hb2.out (below_drewN HB.out n)) hi).mono fun _ _ h => And.intro h.1 h.2.symm)
   generalize S[m + 1] = y at *
   generalize S[m] = x at *
   clear HI2 HN
   by_cases hlt2 : nmF F x < nmF F y
   ·have HN2 := hid (HY.out hlt2)
    have hd : decide (nmF F y ≤ nmF F x) = false := decide_eq_false (by omega)
    clear HY HF hlt2
    go_wp2_with fail
    go_quiet ((go_at_call 135; exact Calls.quiet_of_same (CNQ.out _ _ (by first | exact hi1 | exact hi2))))
    go_wp2_with fail
    go_roundw
    case rel => exact ⟨m + 1 + 1, by omega, .inl (by omega), by go_num, HN2, hid (below_drewN HB.out _)⟩
    case measure => simp [intOf]; omega
   ·have HF2 := hid (HF.out hlt2)
    have hd : decide (nmF F y ≤ nmF F x) = true := decide_eq_true (by omega)
    clear HY HF hlt2
    go_wp2_with fail
    go_quiet ((go_at_call 135; exact Calls.quiet_of_same (CNQ.out _ _ (by first | exact hi1 | exact hi2))))
    have hbz := below_then hb2.out (below_drewN HB.out nq)
    go_wp2_with fail
    go_ret
    exact ⟨ret_b HF2.out, hbz⟩
  ·have hki : ¬ (k : Int) < (S.length : Int) := by omega
   have HT : Hid (true = decide (risP F L)) := hid (by rw [decide_eq_true (HV.out.2 (fun j hj => HN.out j hj (by omega)))])
   have hbz := below_then hb2.out HB.out
   clear HN HV
   go_wp2_with fail
   go_ret
   exact ⟨ret_b HT.out, hbz⟩
end

section
open Go.RowKit
theorem NmI.form {w : World} {v : Value} {F : Int → Option Int} (h : NmI w v F) : ∃ m, v = .map m := by
 rcases h with ⟨rfl, _⟩ | ⟨b, n, c, rfl, _⟩ <;> exact ⟨_, rfl⟩
def InF (F : Int → Option Int) : Prop := ∀ x, InI x → InI (nmF F x)
structure NmA (w : World) (vK vS vV vT : Value) (FK FS FV FT : Int → Option Int) : Prop where
 k : NmI w vK FK
 s : NmI w vS FS
 v : NmI w vV FV
 t : NmI w vT FT
theorem NmA.below {w w' : World} {vK vS vV vT : Value} {FK FS FV FT : Int → Option Int} (h : NmA w vK vS vV vT FK FS FV FT) (hb : Below w.heap.size w w') : NmA w' vK vS vV vT FK FS FV FT := ⟨h.k.below hb, h.s.below hb, h.v.below hb, h.t.below hb⟩
def keepP (FK FS FV FT : Int → Option Int) (Lk Ls Lv Lt : List Int) : Prop := apartP FK Lk ∧ apartP FS Ls ∧ apartP FV Lv ∧ risP FT Lt
instance (FK FS FV FT : Int → Option Int) (Lk Ls Lv Lt : List Int) : Decidable (keepP FK FS FV FT Lk Ls Lv Lt) := by unfold keepP; infer_instance
theorem rnkeeps_any (vK vS vV vT vO pk ps pv pt : Value) (FK FS FV FT : Int → Option Int) (Lk Ls Lv Lt : List Int) (w : World) (hN : NmA w vK vS vV vT FK FS FV FT) (hO : ∃ a n c, vO = .slice a n c)
  (hk : Ints w pk Lk) (hs : Ints w ps Ls) (hv : Ints w pv Lv) (ht : Ints w pt Lt) (ik : ∀ x ∈ Lk, InI x) (is : ∀ x ∈ Ls, InI x) (iv : ∀ x ∈ Lv, InI x) (it : ∀ x ∈ Lt, InI x) (fk : InF FK) (fs : InF FS) (fv : InF FV)
  (nk : Lk.length ≤ 100000) (ns : Ls.length ≤ 100000) (nv : Lv.length ≤ 100000) (nt : Lt.length ≤ 100000) :
  Calls Tryz.prog 42 #[.agg #[vK, vS, vV, vT, vO], .agg #[pk, ps, pv, pt]] w fun e w' => e = .returned (.bool (decide (keepP FK FS FV FT Lk Ls Lv Lt))) ∧ Below w.heap.size w w' := by
 have CK := hid (fun wx (hx : Below w.heap.size w wx) => rapart_any vK pk FK Lk wx (hN.k.below hx) (hk.below hx) (fun x hx => ⟨ik x hx, fk x (ik x hx)⟩) nk)
 have CS := hid (fun wx (hx : Below w.heap.size w wx) => rapart_any vS ps FS Ls wx (hN.s.below hx) (hs.below hx) (fun x hx => ⟨is x hx, fs x (is x hx)⟩) ns)
 have CV := hid (fun wx (hx : Below w.heap.size w wx) => rapart_any vV pv FV Lv wx (hN.v.below hx) (hv.below hx) (fun x hx => ⟨iv x hx, fv x (iv x hx)⟩) nv)
 have CT := hid (fun wx (hx : Below w.heap.size w wx) => rrising_any vT pt FT Lt wx (hN.t.below hx) (ht.below hx) it nt)
 obtain ⟨mK, rfl⟩ := hN.k.form
 obtain ⟨mS, rfl⟩ := hN.s.form
 obtain ⟨mV, rfl⟩ := hN.v.form
 obtain ⟨mT, rfl⟩ := hN.t.form
 obtain ⟨oa, on, oc, rfl⟩ := hO
 obtain ⟨ka, kc, rfl, _⟩ := hk.form
 obtain ⟨sa, sc, rfl, _⟩ := hs.form
 obtain ⟨va, vc, rfl, _⟩ := hv.form
 obtain ⟨ta, tc, rfl, _⟩ := ht.form
 have HQ : Hid (decide (keepP FK FS FV FT Lk Ls Lv Lt) = (decide (apartP FK Lk) && (decide (apartP FS Ls) && (decide (apartP FV Lv) && decide (risP FT Lt))))) := hid (by
  rw [Bool.eq_iff_iff]
  simp only [Bool.and_eq_true, decide_eq_true_eq]
  exact Iff.rfl)
 rw [HQ.out]
 obtain ⟨q1, e1⟩ : ∃ q, decide (apartP FK Lk) = q := ⟨_, rfl⟩
 obtain ⟨q2, e2⟩ : ∃ q, decide (apartP FS Ls) = q := ⟨_, rfl⟩
 obtain ⟨q3, e3⟩ : ∃ q, decide (apartP FV Lv) = q := ⟨_, rfl⟩
 obtain ⟨q4, e4⟩ : ∃ q, decide (risP FT Lt) = q := ⟨_, rfl⟩
 rw [e1, e2, e3, e4]
 rw [e1] at CK
 rw [e2] at CS
 rw [e3] at CV
 rw [e4] at CT
 clear HQ e1 e2 e3 e4 hN hk hs hv ht ik is iv it fk fs fv
 have hb1 := box_below w (.cells #[.map mK, .map mS, .map mV, .map mT, .slice oa on oc] 34)
 have hx1 := BoxN.new w 34 #[.map mK, .map mS, .map mV, .map mT, .slice oa on oc]
 have hs1 : (w.alloc (.cells #[.map mK, .map mS, .map mV, .map mT, .slice oa on oc] 34)).heap.size = w.heap.size + 1 := by simp
 have hx2 := BoxN.new (w.alloc (.cells #[.map mK, .map mS, .map mV, .map mT, .slice oa on oc] 34)) 89 #[.slice ka Lk.length kc, .slice sa Ls.length sc, .slice va Lv.length vc, .slice ta Lt.length tc]
 rw [hs1] at hx2
 have hb2 := hb1.alloc hb1.size (.cells #[.slice ka Lk.length kc, .slice sa Ls.length sc, .slice va Lv.length vc, .slice ta Lt.length tc] 89)
 have hx1 := hx1.below (box_below _ (.cells #[.slice ka Lk.length kc, .slice sa Ls.length sc, .slice va Lv.length vc, .slice ta Lt.length tc] 89))
 clear hs1
 go_enter Tryz.func42, Tryz.ntmps42
 go_upto_region 1 with fail
 generalize (w.alloc (.cells #[.map mK, .map mS, .map mV, .map mT, .slice oa on oc] 34)).alloc (.cells #[.slice ka Lk.length kc, .slice sa Ls.length sc, .slice va Lv.length vc, .slice ta Lt.length tc] 89) = w2 at *
 have c0 := hx1.cell (i := 0) rfl
 have d0 := hx2.cell (i := 0) rfl
 have HX1 := hid hx1
 have HX2 := hid hx2
 have CK1 := hid (CK.out _ hb2)
 clear hb1 hx1 hx2 CK
 go_wp2_with fail
 refine CK1.out.mono ?_
 rintro e w3 ⟨rfl, h3⟩
 have hb3 := below_then hb2 h3
 cases q1 with
 | false =>
  go_wp2_with fail
  go_ret
  exact ⟨rfl, hb3⟩
 | true =>
 have HX1 := hid (HX1.out.below h3)
 have HX2 := hid (HX2.out.below h3)
 have c1 := HX1.out.cell (i := 1) rfl
 have d1 := HX2.out.cell (i := 1) rfl
 have CS1 := hid (CS.out _ hb3)
 clear c0 d0 CK1 CS h3 hb2
 go_wp2_with fail
 refine CS1.out.mono ?_
 rintro e w4 ⟨rfl, h4⟩
 have hb4 := below_then hb3 h4
 cases q2 with
 | false =>
  go_wp2_with fail
  go_ret
  exact ⟨rfl, hb4⟩
 | true =>
 have HX1 := hid (HX1.out.below h4)
 have HX2 := hid (HX2.out.below h4)
 have c2 := HX1.out.cell (i := 2) rfl
 have d2 := HX2.out.cell (i := 2) rfl
 have CV1 := hid (CV.out _ hb4)
 clear c1 d1 CS1 CV h4 hb3
 go_wp2_with fail
 refine CV1.out.mono ?_
 rintro e w5 ⟨rfl, h5⟩
 have hb5 := below_then hb4 h5
 cases q3 with
 | false =>
  go_wp2_with fail
  go_ret
  exact ⟨rfl, hb5⟩
 | true =>
 have HX1 := hid (HX1.out.below h5)
 have HX2 := hid (HX2.out.below h5)
 have c3 := HX1.out.cell (i := 3) rfl
 have d3 := HX2.out.cell (i := 3) rfl
 have CT1 := hid (CT.out _ hb5)
 clear c2 d2 CV1 CT h5 hb4
 go_wp2_with fail
 refine CT1.out.mono ?_
 rintro e w6 ⟨rfl, h6⟩
 have hb6 := below_then hb5 h6
 go_wp2_with fail
 go_ret
 exact ⟨by simp, hb6⟩
end

section
open Go.RowKit
section
variable {h acc L : List TxnV}
end
theorem row4_newR (w : World) (x y z u : Value) (t : TypeId) : ∀ j v, [x, y, z, u][j]? = some v → (w.alloc (.cells #[x, y, z, u] t)).cell? ((⟨w.heap.size, 0, none⟩ : Addr).add j) = some v := by
 intro j v hj
 obtain ⟨c0, c1, c2, c3⟩ := txnBlock w x y z u t
 match j, hj with
 | 0, hu => simp at hu; subst hu; exact c0
 | 1, hu => simp at hu; subst hu; exact c1
 | 2, hu => simp at hu; subst hu; exact c2
 | 3, hu => simp at hu; subst hu; exact c3
 | j + 4, hu => simp at hu
end

section
open Go.RowKit
theorem Own.keep {w w' : World} {b : Nat} {v : Value} {l : List OpV} {row : Option Nat} (h : Own w b v l) (hg : w.grownBy w' row) (hne : v.ownBlock = none ∨ v.ownBlock ≠ row) : Own w' b v l := World.ownsRow.kept h hg hne
theorem infoTxnA {x y z u : Value} : (Tryz.prog.info? 83).map (·.size) = some (#[x, y, z, u] : Array Value).size := (show (Tryz.prog.info? 83).map (·.size) = some 4 by kernel_rfl)
end

section
open Go.RowKit
def Ap (v u : Value) : Prop := ∀ g, v.ownBlock = some g → u.ownBlock ≠ some g
theorem Ap.symm {v u : Value} (h : Ap v u) : Ap u v := fun g e q => h g q e
theorem Ap.no {v u : Value} (h : Ap v u) : u.ownBlock = none ∨ u.ownBlock ≠ v.ownBlock := by
 cases e : u.ownBlock with
 | none => exact .inl rfl
 | some g => exact .inr fun q => h g q.symm e
theorem Ap.new {w : World} {b n g cap : Nat} {v u : Value} {e : TypeId} {s m : Nat} {xs : List Value} (h : Ap v u) (hu : w.ownsRow b e s u m xs) (hl : v.ownBlock = some g ∨ g = w.heap.size) : Ap (.slice (some ⟨g, 0, none⟩) n cap) u := fun g' e1 e2 => by
 simp [Value.ownBlock] at e1
 subst e1
 rcases hl with q | q
 ·exact h _ q e2
 ·have := (World.ownsRow.lt hu _ e2).2; omega
structure R4 (w : World) (b : Nat) (v0 v1 v2 v3 : Value) (L0 L1 L2 L3 : List Int) : Prop where
 o0 : IntO w b v0 L0
 o1 : IntO w b v1 L1
 o2 : IntO w b v2 L2
 o3 : IntO w b v3 L3
 a01 : Ap v0 v1
 a02 : Ap v0 v2
 a03 : Ap v0 v3
 a12 : Ap v1 v2
 a13 : Ap v1 v3
 a23 : Ap v2 v3
section
variable {w w' : World} {b : Nat} {v0 v1 v2 v3 : Value} {L0 L1 L2 L3 : List Int}
theorem R4.below (h : R4 w b v0 v1 v2 v3 L0 L1 L2 L3) (hb : Below w.heap.size w w') : R4 w' b v0 v1 v2 v3 L0 L1 L2 L3 := ⟨h.o0.below hb, h.o1.below hb, h.o2.below hb, h.o3.below hb, h.a01, h.a02, h.a03, h.a12, h.a13, h.a23⟩
theorem R4.box {p : Nat} {t : TypeId} {cs : Array Value} (h : R4 w b v0 v1 v2 v3 L0 L1 L2 L3) (k : BoxN w p t cs) (hne : 3 ≠ t) (hg : w.grownBy w' (some p)) : R4 w' b v0 v1 v2 v3 L0 L1 L2 L3 := ⟨h.o0.box k hne hg, h.o1.box k hne hg, h.o2.box k hne hg, h.o3.box k hne hg, h.a01, h.a02, h.a03, h.a12, h.a13, h.a23⟩
theorem IntO.far {v u : Value} {L : List Int} (h : IntO w b u L) (hg : w.grownBy w' v.ownBlock) (ha : Ap v u) : IntO w' b u L := World.ownsRow.kept h hg ha.no
theorem R4.app0 {g n cap : Nat} {M : List Int} (h : R4 w b v0 v1 v2 v3 L0 L1 L2 L3) (ho : IntO w' b (.slice (some ⟨g, 0, none⟩) n cap) M) (hg : w.grownBy w' v0.ownBlock) (hl : v0.ownBlock = some g ∨ g = w.heap.size) : R4 w' b (.slice (some ⟨g, 0, none⟩) n cap) v1 v2 v3 M L1 L2 L3 :=
 ⟨ho, h.o1.far hg h.a01, h.o2.far hg h.a02, h.o3.far hg h.a03, h.a01.new h.o1 hl, h.a02.new h.o2 hl, h.a03.new h.o3 hl, h.a12, h.a13, h.a23⟩
theorem R4.app1 {g n cap : Nat} {M : List Int} (h : R4 w b v0 v1 v2 v3 L0 L1 L2 L3) (ho : IntO w' b (.slice (some ⟨g, 0, none⟩) n cap) M) (hg : w.grownBy w' v1.ownBlock) (hl : v1.ownBlock = some g ∨ g = w.heap.size) : R4 w' b v0 (.slice (some ⟨g, 0, none⟩) n cap) v2 v3 L0 M L2 L3 :=
 ⟨h.o0.far hg h.a01.symm, ho, h.o2.far hg h.a12, h.o3.far hg h.a13, (h.a01.symm.new h.o0 hl).symm, h.a02, h.a03, h.a12.new h.o2 hl, h.a13.new h.o3 hl, h.a23⟩
theorem R4.app2 {g n cap : Nat} {M : List Int} (h : R4 w b v0 v1 v2 v3 L0 L1 L2 L3) (ho : IntO w' b (.slice (some ⟨g, 0, none⟩) n cap) M) (hg : w.grownBy w' v2.ownBlock) (hl : v2.ownBlock = some g ∨ g = w.heap.size) : R4 w' b v0 v1 (.slice (some ⟨g, 0, none⟩) n cap) v3 L0 L1 M L3 :=
 ⟨h.o0.far hg h.a02.symm, h.o1.far hg h.a12.symm, ho, h.o3.far hg h.a23, h.a01, (h.a02.symm.new h.o0 hl).symm, h.a03, (h.a12.symm.new h.o1 hl).symm, h.a13, h.a23.new h.o3 hl⟩
theorem R4.app3 {g n cap : Nat} {M : List Int} (h : R4 w b v0 v1 v2 v3 L0 L1 L2 L3) (ho : IntO w' b (.slice (some ⟨g, 0, none⟩) n cap) M) (hg : w.grownBy w' v3.ownBlock) (hl : v3.ownBlock = some g ∨ g = w.heap.size) : R4 w' b v0 v1 v2 (.slice (some ⟨g, 0, none⟩) n cap) L0 L1 L2 M :=
 ⟨h.o0.far hg h.a03.symm, h.o1.far hg h.a13.symm, h.o2.far hg h.a23.symm, ho, h.a01, h.a02, (h.a03.symm.new h.o0 hl).symm, h.a12, (h.a13.symm.new h.o1 hl).symm, (h.a23.symm.new h.o2 hl).symm⟩
theorem R4.nil (w : World) (b : Nat) : R4 w b (.slice none 0 0) (.slice none 0 0) (.slice none 0 0) (.slice none 0 0) [] [] [] [] :=
 ⟨IntO.nil _ _, IntO.nil _ _, IntO.nil _ _, IntO.nil _ _, fun _ e => (by cases e), fun _ e => (by cases e), fun _ e => (by cases e), fun _ e => (by cases e), fun _ e => (by cases e), fun _ e => (by cases e)⟩
end
theorem kTo_lenR {s : List TxnV} {i k : Nat} (hi : i < s.length) (hk : k ≤ (opsAt s i).length) : (kTo s i k).length ≤ opsN s ∧ (vTo s i k).length ≤ opsN s := by
 have e : ∀ f : OpV → Int, ((s.map txE).take i |>.flatMap fun e => e.2.2.2.map f).length + ((opsAt s i).take k).length ≤ opsN s := fun f => by
  have h1 : ((s.map txE).take i |>.flatMap fun e => e.2.2.2.map f).length = opsN (s.take i) := by
   unfold opsN
   rw [← List.map_take, List.flatMap_map, List.length_flatMap]
   congr 1
   exact List.map_congr_left fun t _ => by simp [txE]
  rw [h1, List.length_take, Nat.min_eq_left hk]
  have h2 := opsN_take s i hi
  have h3 := opsN_le s (i + 1)
  rw [opsAt_eq hi] at hk
  omega
 refine ⟨?_, ?_⟩
 ·unfold kTo keyE; rw [List.length_append, List.length_map]; exact e (·.key)
 ·unfold vTo valA; rw [List.length_append, List.length_map]; exact e (·.val)
theorem kTo_all (s : List TxnV) : kTo s s.length 0 = keyE (s.map txE) ∧ vTo s s.length 0 = valA (s.map txE) ∧ sTo s s.length = sesE (s.map txE) := by
 refine ⟨?_, ?_, ?_⟩
 ·unfold kTo; rw [List.take_of_length_le (by simp)]; simp
 ·unfold vTo; rw [List.take_of_length_le (by simp)]; simp
 ·unfold sTo; rw [List.take_of_length_le (by unfold sesE; simp)]
theorem lit_twoR (w : World) (x y : Value) (t : TypeId) : ∀ j u, [x, y][j]? = some u → (w.alloc (.cells #[x, y] t)).cell? ((⟨w.heap.size, 0, none⟩ : Addr).add j) = some u := fun j u hu => by
 exact World.news_of_block (World.alloc_heap_new w _) j u hu
end

section
open Go.RowKit
theorem grown_setRow (w : World) (g : Nat) (cs : Array Value) : w.grownBy (w.setRow g cs) (some g) := ⟨rfl, rfl, rfl, by simp [World.setRow], fun k _ hk => setRow_other w g k cs (fun e => hk (by rw [e]))⟩
theorem wpList_store_rowT {w : World} {ops : Array Oper} {rest : List Oper} {o : Oper} {a : Act} {Q : Exit → Act → World → Prop} {g : Nat} (ty : TypeId) {t : TypeId} {old cells : Array Value} (hg : w.heap[g]? = some (.cells old t (0, 0))) (hgd : o.guard = none) (x y : Operand) (ho : o.op = .store ty x y)
  (hx : a.eval x = .pointer (some ⟨g, 0, none⟩)) (hy : a.eval y = .agg cells) (hi : (Tryz.prog.info? ty).map (·.size) = some cells.size) (hold : old.size = cells.size) (h1 : cells.all (·.oneCell') = true)
  (hn : wpList Tryz.prog ops Q rest (a.put o.dst undef) (w.setRow g cells)) : wpList Tryz.prog ops Q (o :: rest) a w :=
 wpList_plain hgd fun _ hK => wp_store_row ty x y ho g cells hx hy t old hg hi hold h1 (hK _ _ hn)
theorem rof21_any (va : Value) (h : List TxnV) (w : World) (hT : Txns w va h) (h64 : h.length ≤ 64) (hop : opsN h ≤ 1024) :
  Calls Tryz.prog 43 #[va] w fun e w' => (∃ vk vs vv vt, e = .returned (.agg #[vk, vs, vv, vt]) ∧ R4 w' w.heap.size vk vs vv vt (keyE (h.map txE)) (sesE (h.map txE)) (valA (h.map txE)) (stL h)) ∧ Below w.heap.size w w' := by
 obtain ⟨i0, hi, hz0, hz1, hz2⟩ := info_parts infoInt
 have HT := hid (fun wx (hx : Below w.heap.size w wx) => hT.below hx)
 have HLN : Hid (∀ k j, k < h.length → j ≤ (opsAt h k).length → (kTo h k j).length ≤ 1024 ∧ (vTo h k j).length ≤ 1024) := hid (fun k j hk hj => by have := kTo_lenR (s := h) hk hj; omega)
 have HSN : Hid (∀ k, (sTo h k).length ≤ 64) := hid (fun k => by unfold sTo sesE; simp; omega)
 have HTN : Hid (∀ k, (stL (h.take k)).length ≤ 128) := hid (fun k => by rw [stL_len, List.length_take]; omega)
 have HON : Hid (∀ k, k < h.length → (opsAt h k).length ≤ 1024) := hid (fun k hk => by have h1 := opsN_take h k hk; have h2 := opsN_le h (k + 1); rw [opsAt_eq hk]; omega)
 obtain ⟨ao, cap, rfl, hal⟩ := hT.form
 clear hT hop
 have hx0 := BoxN.new w 89 #[.slice none 0 0, .slice none 0 0, .slice none 0 0, .slice none 0 0]
 have hb0 := box_below w (.cells #[.slice none 0 0, .slice none 0 0, .slice none 0 0, .slice none 0 0] 89)
 have hx1 := BoxN.new (w.alloc (.cells #[.slice none 0 0, .slice none 0 0, .slice none 0 0, .slice none 0 0] 89)) 89 #[.slice none 0 0, .slice none 0 0, .slice none 0 0, .slice none 0 0]
 have hb1 := hb0.alloc hb0.size (.cells #[.slice none 0 0, .slice none 0 0, .slice none 0 0, .slice none 0 0] 89)
 have hx2 := hx0.below (box_below _ (.cells #[.slice none 0 0, .slice none 0 0, .slice none 0 0, .slice none 0 0] 89))
 have hs1 : (w.alloc (.cells #[.slice none 0 0, .slice none 0 0, .slice none 0 0, .slice none 0 0] 89)).heap.size = w.heap.size + 1 := by simp
 rw [hs1] at hx1
 clear hx0 hb0 hs1
 go_enter Tryz.func43, Tryz.ntmps43
 go_upto_region 2 with fail
 generalize (w.alloc (.cells #[.slice none 0 0, .slice none 0 0, .slice none 0 0, .slice none 0 0] 89)).alloc (.cells #[.slice none 0 0, .slice none 0 0, .slice none 0 0, .slice none 0 0] 89) = w1 at *
 obtain ⟨p2, hp2⟩ : ∃ p, w.heap.size = p := ⟨_, rfl⟩
 obtain ⟨p3, hp3⟩ : ∃ p, w.heap.size + 1 = p := ⟨_, rfl⟩
 have hpw2 : w.heap.size ≤ p2 := by omega
 have hpw3 : w.heap.size ≤ p3 := by omega
 have hp23 : p2 < p3 := by omega
 rw [hp3] at hx1 ⊢
 have HX1 := hid hx1
 have HX2 : Hid (BoxN w1 p2 89 #[.slice none 0 0, .slice none 0 0, .slice none 0 0, .slice none 0 0]) := hid (by rw [← hp2]; exact hx2)
 have HB1 := hid hb1
 have HP2 := hid hp2
 clear hx1 hx2 hb1 hp2 hp3
 go_wp2_with fail
 go_loopw [10] (fun i wr => ∃ (k : Nat) (vk vs vv vt : Value), k ≤ h.length ∧ i = .int .i64 (k : Int) ∧ Hid (BoxN wr p3 89 #[vk, vs, vv, vt]) ∧ Hid (R4 wr w.heap.size vk vs vv vt (kTo h k 0) (sTo h k) (vTo h k 0) (stL (h.take k))) ∧ Hid (BoxN wr p2 89 #[.slice none 0 0, .slice none 0 0, .slice none 0 0, .slice none 0 0]) ∧ Hid (Below w.heap.size w wr)) (fun i _ => h.length - (intOf i).toNat)
 case atStart => exact ⟨0, _, _, _, _, by omega, rfl, HX1, hid (R4.nil _ _), HX2, HB1⟩
 case round =>
  obtain ⟨k, vk, vs, vv, vt, hk, rfl, HBX, HR, HP, HB⟩ := hrel
  clear HX1 HX2 HB1
  by_cases hlt : k < h.length
  ·have hki : (k : Int) < (h.length : Int) := by omega
   obtain ⟨g, o, hg, a0, a1, a2, a3⟩ := (HT.out _ HB.out).at hlt
   cases hg
   have HOPS := hid (fun wx (hx : Below w.heap.size w wx) => (HT.out wx hx).ops hlt)
   obtain ⟨oo, oc, hov, _⟩ := (HOPS.out _ HB.out).form
   have hopA : opsAt h k = h[k].l := opsAt_eq hlt
   rw [hov] at a3 HOPS
   rw [← hopA] at a3 HOPS
   have HSS : Hid (sTo h (k + 1) = sTo h k ++ [h[k].s]) := hid (sTo_succ hlt)
   have HST : Hid (stL (h.take (k + 1)) = stL (h.take k) ++ [h[k].b, h[k].c]) := hid (stL_succ h k hlt)
   have hsn := HSN.out k
   have hon := HON.out k hlt
   have htn := HTN.out k
   clear hov hopA
   generalize h[k].s = ts at *
   generalize h[k].b = tb at *
   generalize h[k].c = tc at *
   have hbb := box_below wr (.cells #[.int .i64 ts, .int .i64 tb, .int .i64 tc, .slice oo (opsAt h k).length oc] 83)
   have HTX := hid (BoxN.new wr 83 #[.int .i64 ts, .int .i64 tb, .int .i64 tc, .slice oo (opsAt h k).length oc])
   have HBX0 := hid (HBX.out.below hbb)
   have HR0 := hid (HR.out.below hbb)
   have HP0 := hid (HP.out.below hbb)
   have HB0 := hid (HB.out.alloc HB.out.size (.cells #[.int .i64 ts, .int .i64 tb, .int .i64 tc, .slice oo (opsAt h k).length oc] 83))
   have hp35 : p3 < wr.heap.size := HBX.out.lt
   go_upto_region 5 with fail
   clear hbb HBX HR HP HB a0 a1 a2 a3
   generalize wr.alloc (.cells #[.int .i64 ts, .int .i64 tb, .int .i64 tc, .slice oo (opsAt h k).length oc] 83) = W0 at *
   generalize wr.heap.size = p5 at *
   have hctA := HBX0.out.cell (i := 1) rfl
   have hownA : W0.ownsRow w.heap.size 3 1 vs (sTo h k).length ((sTo h k).map (Value.int .i64)) := HR0.out.o1
   obtain ⟨xaA, xnA, xcA, hxvA⟩ : ∃ a n c, vs = .slice a n c := by
    obtain ⟨_, a, c, e, _⟩ := HR0.out.o1.ints
    exact ⟨a, _, c, e⟩
   have HNBA : Hid (some p3 ≠ vs.ownBlock) := hid (fun e => by
    rcases owns_no_box hownA HBX0.out (by decide) with q | q
    ·rw [q] at e; cases e
    ·exact q e.symm)
   have hbzA := HB0.out.size
   have hbAA := box_below W0 (.cells #[.int .i64 ts] 3)
   have HBXAA := hid (HBX0.out.below hbAA)
   have HRAA := hid (HR0.out.below hbAA)
   have HPAA := hid (HP0.out.below hbAA)
   have HTXAA := hid (HTX.out.below hbAA)
   have zp50 := HTX.out.cell (i := 0) rfl
   rw [hxvA] at hctA hownA
   have hlnA : (sTo h k).length ≤ 2000 := by have := hsn; omega
   clear hbAA
   go_wp2_with (first | (at_builtin; refine wpList_append_lies _ rfl _ _ 24 rfl w.heap.size 3 i0 (.int .i64 0) 1 8 Tryz.underlying24 hi hz0 hz1 hz2 rfl (by decide) _ _ _ rfl (hownA.alloc _) ⟨_, 0, none⟩ 1 1 [.int .i64 ts] rfl rfl ?c1A ?c2A (by decide) ?c3A ?c4A ?c5A _ rfl ?_) | go_in)
   try case c1A => first | exact cell_one_new _ _ _ | exact lit_twoR _ _ _ _
   try case c2A => first | rfl | exact ⟨rfl, rfl⟩ | (intro u hu; simp at hu; rcases hu with rfl | rfl <;> rfl) | (intro u hu; simp at hu; subst hu; rfl)
   case c3A => unfold maxLen; omega
   case c4A => omega
   case c5A => first | omega | (simp; omega)
   intro gA cA wA hnnA hgA hlA hltA
   rw [← hxvA] at hgA hlA
   have hOA : IntO wA w.heap.size (Value.slice (some ⟨gA, 0, none⟩) ((sTo h k).length + 1) cA) (sTo h (k + 1)) := by
    unfold IntO
    rw [HSS.out, List.map_append, List.length_append]
    exact hnnA
   have hRA := HRAA.out.app1 hOA hgA (by rw [World.size_alloc]; exact hlA)
   have hXA := HBXAA.out.kept hgA HNBA.out
   have hcxA := hXA.cell (i := 1) rfl
   have hfxA := hXA.free 1
   have hgsA := grown_set wA ⟨p3, 1, none⟩ (Value.slice (some ⟨gA, 0, none⟩) ((sTo h k).length + 1) cA)
   have hnpA : vs.ownBlock = none ∨ vs.ownBlock ≠ some p2 := owns_no_box HRAA.out.o1 HPAA.out (by decide)
   have hPA := HPAA.out.kept hgA (fun e => by
    rcases hnpA with q | q
    ·rw [q] at e; cases e
    ·exact q e.symm)
   have HPA := hid (hPA.far (a := ⟨p3, 1, none⟩) (by show p2 ≠ p3; omega) (Value.slice (some ⟨gA, 0, none⟩) ((sTo h k).length + 1) cA))
   have HBXA : Hid (BoxN (wA.setCell ⟨p3, 1, none⟩ (Value.slice (some ⟨gA, 0, none⟩) ((sTo h k).length + 1) cA)) p3 89 #[vk, (Value.slice (some ⟨gA, 0, none⟩) ((sTo h k).length + 1) cA), vv, vt]) := hid (hXA.set 1 (Value.slice (some ⟨gA, 0, none⟩) ((sTo h k).length + 1) cA))
   have HRA := hid (hRA.box hXA (by decide) hgsA)
   have HBA := hid ((below_app0 HB0.out (Nat.le_refl _) hownA (Nat.le_refl _) (by rw [← hxvA]; exact hgA)).setCell (p := ⟨p3, 1, none⟩) (by show w.heap.size ≤ p3; omega) (Value.slice (some ⟨gA, 0, none⟩) ((sTo h k).length + 1) cA))
   have hnp5A : vs.ownBlock = none ∨ vs.ownBlock ≠ some p5 := owns_no_box HRAA.out.o1 HTXAA.out (by decide)
   have HTXA := hid ((HTXAA.out.kept hgA (fun e => by
    rcases hnp5A with q | q
    ·rw [q] at e; cases e
    ·exact q e.symm)).far (a := ⟨p3, 1, none⟩) (by show p5 ≠ p3; omega) (Value.slice (some ⟨gA, 0, none⟩) ((sTo h k).length + 1) cA))
   clear hnnA hgA hlA hltA hOA hRA hXA hgsA hPA hnpA HBXAA HRAA HPAA HNBA hownA hctA hxvA hbzA HBX0 HR0 HP0 HB0
   clear HTXAA hnp5A HTX
   go_upto_region 6 with fail
   clear hcxA hfxA
   generalize (wA.setCell ⟨p3, 1, none⟩ (Value.slice (some ⟨gA, 0, none⟩) ((sTo h k).length + 1) cA)) = WA at *
   obtain ⟨nA, hnA⟩ : ∃ v, (Value.slice (some ⟨gA, 0, none⟩) ((sTo h k).length + 1) cA) = v := ⟨_, rfl⟩
   rw [hnA] at HBXA HRA ⊢
   clear hnA
   have hctB := HBXA.out.cell (i := 3) rfl
   have hownB : WA.ownsRow w.heap.size 3 1 vt (stL (h.take k)).length ((stL (h.take k)).map (Value.int .i64)) := HRA.out.o3
   obtain ⟨xaB, xnB, xcB, hxvB⟩ : ∃ a n c, vt = .slice a n c := by
    obtain ⟨_, a, c, e, _⟩ := HRA.out.o3.ints
    exact ⟨a, _, c, e⟩
   have HNBB : Hid (some p3 ≠ vt.ownBlock) := hid (fun e => by
    rcases owns_no_box hownB HBXA.out (by decide) with q | q
    ·rw [q] at e; cases e
    ·exact q e.symm)
   have hbzB := HBA.out.size
   have hbAB := box_below WA (.cells #[.int .i64 tb, .int .i64 tc] 3)
   have HBXAB := hid (HBXA.out.below hbAB)
   have HRAB := hid (HRA.out.below hbAB)
   have HPAB := hid (HPA.out.below hbAB)
   have HTXAAB := hid (HTXA.out.below hbAB)
   have zp51 := HTXA.out.cell (i := 1) rfl
   have zp52 := HTXA.out.cell (i := 2) rfl
   rw [hxvB] at hctB hownB
   have hlnB : (stL (h.take k)).length ≤ 2000 := by have := htn; omega
   clear hbAB
   go_wp2_with (first | (at_builtin; refine wpList_append_lies _ rfl _ _ 24 rfl w.heap.size 3 i0 (.int .i64 0) 1 8 Tryz.underlying24 hi hz0 hz1 hz2 rfl (by decide) _ _ _ rfl (hownB.alloc _) ⟨_, 0, none⟩ 2 2 [.int .i64 tb, .int .i64 tc] rfl rfl ?c1B ?c2B (by decide) ?c3B ?c4B ?c5B _ rfl ?_) | go_in)
   try case c1B => first | exact cell_one_new _ _ _ | exact lit_twoR _ _ _ _
   try case c2B => first | rfl | exact ⟨rfl, rfl⟩ | (intro u hu; simp at hu; rcases hu with rfl | rfl <;> rfl) | (intro u hu; simp at hu; subst hu; rfl)
   case c3B => unfold maxLen; omega
   case c4B => omega
   case c5B => first | omega | (simp; omega)
   intro gB cB wB hnnB hgB hlB hltB
   rw [← hxvB] at hgB hlB
   have hOB : IntO wB w.heap.size (Value.slice (some ⟨gB, 0, none⟩) ((stL (h.take k)).length + 2) cB) (stL (h.take (k + 1))) := by
    unfold IntO
    rw [HST.out, List.map_append, List.length_append]
    exact hnnB
   have hRB := HRAB.out.app3 hOB hgB (by rw [World.size_alloc]; exact hlB)
   have hXB := HBXAB.out.kept hgB HNBB.out
   have hcxB := hXB.cell (i := 3) rfl
   have hfxB := hXB.free 3
   have hgsB := grown_set wB ⟨p3, 3, none⟩ (Value.slice (some ⟨gB, 0, none⟩) ((stL (h.take k)).length + 2) cB)
   have hnpB : vt.ownBlock = none ∨ vt.ownBlock ≠ some p2 := owns_no_box HRAB.out.o3 HPAB.out (by decide)
   have hPB := HPAB.out.kept hgB (fun e => by
    rcases hnpB with q | q
    ·rw [q] at e; cases e
    ·exact q e.symm)
   have HPB := hid (hPB.far (a := ⟨p3, 3, none⟩) (by show p2 ≠ p3; omega) (Value.slice (some ⟨gB, 0, none⟩) ((stL (h.take k)).length + 2) cB))
   have HBXB : Hid (BoxN (wB.setCell ⟨p3, 3, none⟩ (Value.slice (some ⟨gB, 0, none⟩) ((stL (h.take k)).length + 2) cB)) p3 89 #[vk, nA, vv, (Value.slice (some ⟨gB, 0, none⟩) ((stL (h.take k)).length + 2) cB)]) := hid (hXB.set 3 (Value.slice (some ⟨gB, 0, none⟩) ((stL (h.take k)).length + 2) cB))
   have HRB := hid (hRB.box hXB (by decide) hgsB)
   have HBB := hid ((below_app0 HBA.out (Nat.le_refl _) hownB (Nat.le_refl _) (by rw [← hxvB]; exact hgB)).setCell (p := ⟨p3, 3, none⟩) (by show w.heap.size ≤ p3; omega) (Value.slice (some ⟨gB, 0, none⟩) ((stL (h.take k)).length + 2) cB))
   have hnp5B : vt.ownBlock = none ∨ vt.ownBlock ≠ some p5 := owns_no_box HRAB.out.o3 HTXAAB.out (by decide)
   have HTXAB := hid ((HTXAAB.out.kept hgB (fun e => by
    rcases hnp5B with q | q
    ·rw [q] at e; cases e
    ·exact q e.symm)).far (a := ⟨p3, 3, none⟩) (by show p5 ≠ p3; omega) (Value.slice (some ⟨gB, 0, none⟩) ((stL (h.take k)).length + 2) cB))
   clear hnnB hgB hlB hltB hOB hRB hXB hgsB hPB hnpB HBXAB HRAB HPAB HNBB hownB hctB hxvB hbzB HBXA HRA HPA HBA
   clear HTXAAB hnp5B HTXA
   go_upto_region 7 with fail
   clear hcxB hfxB
   generalize (wB.setCell ⟨p3, 3, none⟩ (Value.slice (some ⟨gB, 0, none⟩) ((stL (h.take k)).length + 2) cB)) = WB at *
   obtain ⟨nB, hnB⟩ : ∃ v, (Value.slice (some ⟨gB, 0, none⟩) ((stL (h.take k)).length + 2) cB) = v := ⟨_, rfl⟩
   rw [hnB] at HBXB HRB ⊢
   clear hnB
   have z53 := HTXAB.out.cell (i := 3) rfl
   go_wp2_with fail
   clear z53
   go_loopw [33] (fun i wr => ∃ (j : Nat) (uk uv : Value), j ≤ (opsAt h k).length ∧ i = .int .i64 (j : Int) ∧ Hid (BoxN wr p3 89 #[uk, nA, uv, nB]) ∧ Hid (R4 wr w.heap.size uk nA uv nB (kTo h k j) (sTo h (k + 1)) (vTo h k j) (stL (h.take (k + 1)))) ∧ Hid (BoxN wr p2 89 #[.slice none 0 0, .slice none 0 0, .slice none 0 0, .slice none 0 0]) ∧ Hid (Below w.heap.size w wr)) (fun i _ => (opsAt h k).length - (intOf i).toNat)
   case atStart => exact ⟨0, _, _, by omega, rfl, HBXB, HRB, HPB, HBB⟩
   case round =>
    obtain ⟨j, uk, uv, hj, rfl, HBXq, HRq, HPq, HBq⟩ := hrel
    clear HBXB HRB HPB HBB HTXAB
    by_cases hjt : j < (opsAt h k).length
    ·have hji : (j : Int) < ((opsAt h k).length : Int) := by omega
     obtain ⟨g2, o2, hg2, e0, e1, e2⟩ := (HOPS.out _ HBq.out).at hjt
     cases hg2
     have HKS : Hid (kTo h k (j + 1) = kTo h k j ++ [(opsAt h k)[j].key]) := hid (kTo_succ hjt)
     have HVS : Hid (vTo h k (j + 1) = vTo h k j ++ [(opsAt h k)[j].val]) := hid (vTo_succ hjt)
     obtain ⟨hkn, hvn⟩ := HLN.out k j hlt (by omega)
     generalize (opsAt h k)[j] = x at *
     obtain ⟨xw, xk, xv⟩ := x
     simp only at e0 e1 e2 HKS HVS
     have hbb := box_below wr (.cells #[.bool xw, .int .i64 xk, .int .i64 xv] 79)
     have HOX := hid (BoxN.new wr 79 #[.bool xw, .int .i64 xk, .int .i64 xv])
     have HBX1 := hid (HBXq.out.below hbb)
     have HR1 := hid (HRq.out.below hbb)
     have HP1 := hid (HPq.out.below hbb)
     have HB1 := hid (HBq.out.alloc HBq.out.size (.cells #[.bool xw, .int .i64 xk, .int .i64 xv] 79))
     have hp37 : p3 < wr.heap.size := HBXq.out.lt
     go_upto_region 10 with fail
     clear hbb HBXq HRq HPq HBq e0 e1 e2
     generalize wr.alloc (.cells #[.bool xw, .int .i64 xk, .int .i64 xv] 79) = W1 at *
     generalize wr.heap.size = p7 at *
     have hctC := HBX1.out.cell (i := 0) rfl
     have hownC : W1.ownsRow w.heap.size 3 1 uk (kTo h k j).length ((kTo h k j).map (Value.int .i64)) := HR1.out.o0
     obtain ⟨xaC, xnC, xcC, hxvC⟩ : ∃ a n c, uk = .slice a n c := by
      obtain ⟨_, a, c, e, _⟩ := HR1.out.o0.ints
      exact ⟨a, _, c, e⟩
     have HNBC : Hid (some p3 ≠ uk.ownBlock) := hid (fun e => by
      rcases owns_no_box hownC HBX1.out (by decide) with q | q
      ·rw [q] at e; cases e
      ·exact q e.symm)
     have hbzC := HB1.out.size
     have hbAC := box_below W1 (.cells #[.int .i64 xk] 3)
     have HBXAC := hid (HBX1.out.below hbAC)
     have HRAC := hid (HR1.out.below hbAC)
     have HPAC := hid (HP1.out.below hbAC)
     have HOXAC := hid (HOX.out.below hbAC)
     have zp71 := HOX.out.cell (i := 1) rfl
     rw [hxvC] at hctC hownC
     have hlnC : (kTo h k j).length ≤ 2000 := by have := hkn; omega
     clear hbAC
     go_wp2_with (first | (at_builtin; refine wpList_append_lies _ rfl _ _ 24 rfl w.heap.size 3 i0 (.int .i64 0) 1 8 Tryz.underlying24 hi hz0 hz1 hz2 rfl (by decide) _ _ _ rfl (hownC.alloc _) ⟨_, 0, none⟩ 1 1 [.int .i64 xk] rfl rfl ?c1C ?c2C (by decide) ?c3C ?c4C ?c5C _ rfl ?_) | go_in)
     try case c1C => first | exact cell_one_new _ _ _ | exact lit_twoR _ _ _ _
     try case c2C => first | rfl | exact ⟨rfl, rfl⟩ | (intro u hu; simp at hu; rcases hu with rfl | rfl <;> rfl) | (intro u hu; simp at hu; subst hu; rfl)
     case c3C => unfold maxLen; omega
     case c4C => omega
     case c5C => first | omega | (simp; omega)
     intro gC cC wC hnnC hgC hlC hltC
     rw [← hxvC] at hgC hlC
     have hOC : IntO wC w.heap.size (Value.slice (some ⟨gC, 0, none⟩) ((kTo h k j).length + 1) cC) (kTo h k (j + 1)) := by
      unfold IntO
      rw [HKS.out, List.map_append, List.length_append]
      exact hnnC
     have hRC := HRAC.out.app0 hOC hgC (by rw [World.size_alloc]; exact hlC)
     have hXC := HBXAC.out.kept hgC HNBC.out
     have hcxC := hXC.cell (i := 0) rfl
     have hfxC := hXC.free 0
     have hgsC := grown_set wC ⟨p3, 0, none⟩ (Value.slice (some ⟨gC, 0, none⟩) ((kTo h k j).length + 1) cC)
     have hnpC : uk.ownBlock = none ∨ uk.ownBlock ≠ some p2 := owns_no_box HRAC.out.o0 HPAC.out (by decide)
     have hPC := HPAC.out.kept hgC (fun e => by
      rcases hnpC with q | q
      ·rw [q] at e; cases e
      ·exact q e.symm)
     have HPC := hid (hPC.far (a := ⟨p3, 0, none⟩) (by show p2 ≠ p3; omega) (Value.slice (some ⟨gC, 0, none⟩) ((kTo h k j).length + 1) cC))
     have HBXC : Hid (BoxN (wC.setCell ⟨p3, 0, none⟩ (Value.slice (some ⟨gC, 0, none⟩) ((kTo h k j).length + 1) cC)) p3 89 #[(Value.slice (some ⟨gC, 0, none⟩) ((kTo h k j).length + 1) cC), nA, uv, nB]) := hid (hXC.set 0 (Value.slice (some ⟨gC, 0, none⟩) ((kTo h k j).length + 1) cC))
     have HRC := hid (hRC.box hXC (by decide) hgsC)
     have HBC := hid ((below_app0 HB1.out (Nat.le_refl _) hownC (Nat.le_refl _) (by rw [← hxvC]; exact hgC)).setCell (p := ⟨p3, 0, none⟩) (by show w.heap.size ≤ p3; omega) (Value.slice (some ⟨gC, 0, none⟩) ((kTo h k j).length + 1) cC))
     have hnp7C : uk.ownBlock = none ∨ uk.ownBlock ≠ some p7 := owns_no_box HRAC.out.o0 HOXAC.out (by decide)
     have HOXC := hid ((HOXAC.out.kept hgC (fun e => by
      rcases hnp7C with q | q
      ·rw [q] at e; cases e
      ·exact q e.symm)).far (a := ⟨p3, 0, none⟩) (by show p7 ≠ p3; omega) (Value.slice (some ⟨gC, 0, none⟩) ((kTo h k j).length + 1) cC))
     clear hnnC hgC hlC hltC hOC hRC hXC hgsC hPC hnpC HBXAC HRAC HPAC HNBC hownC hctC hxvC hbzC HBX1 HR1 HP1 HB1
     clear HOXAC hnp7C HOX
     go_upto_region 11 with fail
     clear hcxC hfxC
     generalize (wC.setCell ⟨p3, 0, none⟩ (Value.slice (some ⟨gC, 0, none⟩) ((kTo h k j).length + 1) cC)) = WC at *
     obtain ⟨nC, hnC⟩ : ∃ v, (Value.slice (some ⟨gC, 0, none⟩) ((kTo h k j).length + 1) cC) = v := ⟨_, rfl⟩
     rw [hnC] at HBXC HRC ⊢
     clear hnC
     have hctD := HBXC.out.cell (i := 2) rfl
     have hownD : WC.ownsRow w.heap.size 3 1 uv (vTo h k j).length ((vTo h k j).map (Value.int .i64)) := HRC.out.o2
     obtain ⟨xaD, xnD, xcD, hxvD⟩ : ∃ a n c, uv = .slice a n c := by
      obtain ⟨_, a, c, e, _⟩ := HRC.out.o2.ints
      exact ⟨a, _, c, e⟩
     have HNBD : Hid (some p3 ≠ uv.ownBlock) := hid (fun e => by
      rcases owns_no_box hownD HBXC.out (by decide) with q | q
      ·rw [q] at e; cases e
      ·exact q e.symm)
     have hbzD := HBC.out.size
     have hbAD := box_below WC (.cells #[.int .i64 xv] 3)
     have HBXAD := hid (HBXC.out.below hbAD)
     have HRAD := hid (HRC.out.below hbAD)
     have HPAD := hid (HPC.out.below hbAD)
     have HOXCAD := hid (HOXC.out.below hbAD)
     have zp72 := HOXC.out.cell (i := 2) rfl
     rw [hxvD] at hctD hownD
     have hlnD : (vTo h k j).length ≤ 2000 := by have := hvn; omega
     clear hbAD
     go_wp2_with (first | (at_builtin; refine wpList_append_lies _ rfl _ _ 24 rfl w.heap.size 3 i0 (.int .i64 0) 1 8 Tryz.underlying24 hi hz0 hz1 hz2 rfl (by decide) _ _ _ rfl (hownD.alloc _) ⟨_, 0, none⟩ 1 1 [.int .i64 xv] rfl rfl ?c1D ?c2D (by decide) ?c3D ?c4D ?c5D _ rfl ?_) | go_in)
     try case c1D => first | exact cell_one_new _ _ _ | exact lit_twoR _ _ _ _
     try case c2D => first | rfl | exact ⟨rfl, rfl⟩ | (intro u hu; simp at hu; rcases hu with rfl | rfl <;> rfl) | (intro u hu; simp at hu; subst hu; rfl)
     case c3D => unfold maxLen; omega
     case c4D => omega
     case c5D => first | omega | (simp; omega)
     intro gD cD wD hnnD hgD hlD hltD
     rw [← hxvD] at hgD hlD
     have hOD : IntO wD w.heap.size (Value.slice (some ⟨gD, 0, none⟩) ((vTo h k j).length + 1) cD) (vTo h k (j + 1)) := by
      unfold IntO
      rw [HVS.out, List.map_append, List.length_append]
      exact hnnD
     have hRD := HRAD.out.app2 hOD hgD (by rw [World.size_alloc]; exact hlD)
     have hXD := HBXAD.out.kept hgD HNBD.out
     have hcxD := hXD.cell (i := 2) rfl
     have hfxD := hXD.free 2
     have hgsD := grown_set wD ⟨p3, 2, none⟩ (Value.slice (some ⟨gD, 0, none⟩) ((vTo h k j).length + 1) cD)
     have hnpD : uv.ownBlock = none ∨ uv.ownBlock ≠ some p2 := owns_no_box HRAD.out.o2 HPAD.out (by decide)
     have hPD := HPAD.out.kept hgD (fun e => by
      rcases hnpD with q | q
      ·rw [q] at e; cases e
      ·exact q e.symm)
     have HPD := hid (hPD.far (a := ⟨p3, 2, none⟩) (by show p2 ≠ p3; omega) (Value.slice (some ⟨gD, 0, none⟩) ((vTo h k j).length + 1) cD))
     have HBXD : Hid (BoxN (wD.setCell ⟨p3, 2, none⟩ (Value.slice (some ⟨gD, 0, none⟩) ((vTo h k j).length + 1) cD)) p3 89 #[nC, nA, (Value.slice (some ⟨gD, 0, none⟩) ((vTo h k j).length + 1) cD), nB]) := hid (hXD.set 2 (Value.slice (some ⟨gD, 0, none⟩) ((vTo h k j).length + 1) cD))
     have HRD := hid (hRD.box hXD (by decide) hgsD)
     have HBD := hid ((below_app0 HBC.out (Nat.le_refl _) hownD (Nat.le_refl _) (by rw [← hxvD]; exact hgD)).setCell (p := ⟨p3, 2, none⟩) (by show w.heap.size ≤ p3; omega) (Value.slice (some ⟨gD, 0, none⟩) ((vTo h k j).length + 1) cD))
     have hnp7D : uv.ownBlock = none ∨ uv.ownBlock ≠ some p7 := owns_no_box HRAD.out.o2 HOXCAD.out (by decide)
     have HOXCD := hid ((HOXCAD.out.kept hgD (fun e => by
      rcases hnp7D with q | q
      ·rw [q] at e; cases e
      ·exact q e.symm)).far (a := ⟨p3, 2, none⟩) (by show p7 ≠ p3; omega) (Value.slice (some ⟨gD, 0, none⟩) ((vTo h k j).length + 1) cD))
     clear hnnD hgD hlD hltD hOD hRD hXD hgsD hPD hnpD HBXAD HRAD HPAD HNBD hownD hctD hxvD hbzD HBXC HRC HPC HBC
     clear HOXCAD hnp7D HOXC
     go_upto_region 12 with fail
     clear hcxD hfxD
     generalize (wD.setCell ⟨p3, 2, none⟩ (Value.slice (some ⟨gD, 0, none⟩) ((vTo h k j).length + 1) cD)) = WD at *
     obtain ⟨nD, hnD⟩ : ∃ v, (Value.slice (some ⟨gD, 0, none⟩) ((vTo h k j).length + 1) cD) = v := ⟨_, rfl⟩
     rw [hnD] at HBXD HRD ⊢
     clear hnD
     go_wp2_with fail
     go_roundw
     case rel => exact ⟨j + 1, _, _, by omega, by go_num, HBXD, HRD, HPD, HBD⟩
     case measure => simp [intOf]; omega
    ·obtain rfl : j = (opsAt h k).length := by omega
     have hji : ¬ ((opsAt h k).length : Int) < ((opsAt h k).length : Int) := by omega
     rw [kTo_done hlt, vTo_done hlt] at HRq
     go_wp2_with fail
     go_roundw
     case rel => exact ⟨k + 1, _, _, _, _, by omega, by go_num, HBXq, HRq, HPq, HBq⟩
     case measure => simp [intOf]; omega
  ·obtain rfl : k = h.length := by omega
   have hki : ¬ (h.length : Int) < (h.length : Int) := by omega
   obtain ⟨e1, e2, e3⟩ := kTo_all h
   rw [e1, e2, e3, List.take_length] at HR
   have sh : ∀ {v : Value} {L : List Int}, IntO wr w.heap.size v L → ∃ a n c, v = .slice a n c := fun {v L} q => by
    obtain ⟨_, a, c, e, _⟩ := q.ints
    exact ⟨a, _, c, e⟩
   obtain ⟨k1, k2, k3, rfl⟩ := sh HR.out.o0
   obtain ⟨s1, s2, s3, rfl⟩ := sh HR.out.o1
   obtain ⟨v1, v2, v3, rfl⟩ := sh HR.out.o2
   obtain ⟨t1, t2, t3, rfl⟩ := sh HR.out.o3
   have f0 : wr.cell? ⟨p3, 0, none⟩ = some (.slice k1 k2 k3) := HBX.out.cell (i := 0) rfl
   have f1 : wr.cell? ⟨p3, 1, none⟩ = some (.slice s1 s2 s3) := HBX.out.cell (i := 1) rfl
   have f2 : wr.cell? ⟨p3, 2, none⟩ = some (.slice v1 v2 v3) := HBX.out.cell (i := 2) rfl
   have f3 : wr.cell? ⟨p3, 3, none⟩ = some (.slice t1 t2 t3) := HBX.out.cell (i := 3) rfl
   have hP2 : BoxN wr w.heap.size 89 #[.slice none 0 0, .slice none 0 0, .slice none 0 0, .slice none 0 0] := by have q := HP.out; rwa [← HP2.out] at q
   have hbP := hid (below_setRow HB.out (Nat.le_refl _) #[.slice k1 k2 k3, .slice s1 s2 s3, .slice v1 v2 v3, .slice t1 t2 t3])
   have hRR := hid (HR.out.box hP2 (by decide) (grown_setRow wr w.heap.size #[.slice k1 k2 k3, .slice s1 s2 s3, .slice v1 v2 v3, .slice t1 t2 t3]))
   have hinf : (Tryz.prog.info? 89).map (·.size) = some (#[.slice k1 k2 k3, .slice s1 s2 s3, .slice v1 v2 v3, .slice t1 t2 t3] : Array Value).size := (show (Tryz.prog.info? 89).map (·.size) = some 4 by kernel_rfl)
   have HPB := hid hP2
   have hP2h : wr.heap[w.heap.size]? = some (.cells #[.slice none 0 0, .slice none 0 0, .slice none 0 0, .slice none 0 0] 89 (0, 0)) := hP2
   have hone : (#[.slice k1 k2 k3, .slice s1 s2 s3, .slice v1 v2 v3, .slice t1 t2 t3] : Array Value).all (·.oneCell') = true := by simp [Value.oneCell']
   clear e1 e2 e3 HP sh HR HBX
   go_wp2_with (with_reducible refine wpList_store_rowT 89 hP2h rfl _ _ rfl rfl rfl hinf rfl hone ?_)
   try simp only [Act.put]
   refine bodyPost_ret (v := .agg #[.slice k1 k2 k3, .slice s1 s2 s3, .slice v1 v2 v3, .slice t1 t2 t3]) (results_cell_row rfl _ _ w.heap.size _ #[.slice k1 k2 k3, .slice s1 s2 s3, .slice v1 v2 v3, .slice t1 t2 t3] _ _ rfl (setRow_heap _ _ _ _ _ _ HPB.out) Tryz.underlying89 rfl hinf) rfl ?_
   exact ⟨⟨_, _, _, _, rfl, hRR.out⟩, hbP.out⟩
end

end Go.Proofs.YtnhkjehfmbfmmaaGreatDoor
