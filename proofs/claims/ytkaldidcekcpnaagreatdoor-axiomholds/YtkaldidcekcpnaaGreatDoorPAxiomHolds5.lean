/- Walks and plain facts that the proof of the statement AxiomHolds uses, joined: AxiD LevC LevE AxiE LeaB RelU OrdAA LeaH TblA AxiF AxiG AxiH OrdP LesA LesB AxhA. Conditions: each theorem's own. -/
import Derived.Laws.Tables
import Derived.Laws.CopyOwn
import Derived.Deep.QuietTactic
import Derived.BigQuiet
import Derived.Test.YtkaldidcekcpnaaGreatDoorPAxiomHolds0
import Derived.Test.YtkaldidcekcpnaaGreatDoorPAxiomHolds1
import Derived.Test.YtkaldidcekcpnaaGreatDoorPAxiomHolds3
import Derived.Test.YtkaldidcekcpnaaGreatDoorPAxiomHolds4
namespace Go.Proofs.YtkaldidcekcpnaaGreatDoor
set_option maxRecDepth 100000
open Go.RowKit

theorem wp_buildSliceD {P : Program} {o : Oper} {a : Act} {w : World} {K : Act → World → Prop} {Q : Exit → Act → World → Prop} (d : Option Tmp) (hd : o.dst = d) (t e : TypeId) (len : Nat) (parts : Array (Nat × Operand)) (ho : o.op = .buildSlice t len parts)
    (cells : Array Value) (ie : TypeInfo) (z : Value)
    (hu : P.underlying t = some (.slice e)) (hie : P.info? e = some ie) (hz : ie.zero = some z) (hsmall : ¬ len * ie.size > 2 ^ 24) (hpos : ¬ len * ie.size = 0)
    (hf : Instr.fill (fun i => some (i * ie.size, ie.size)) ((Array.range (len * ie.size)).map (z.cells[· % z.cells.size]!)) (parts.map fun (i, x) => (i, a.eval x)).toList = some cells)
    (h : K (a.put d (.slice (some ⟨w.heap.size, 0, none⟩) len len)) (w.alloc (.cells cells e))) : o.wp P a w K Q := by
  subst hd; exact wp_buildSlice t e len parts ho cells ie z hu hie hz hsmall hpos hf h
theorem map6 {f : Nat × Operand → Nat × Value} (a0 a1 a2 a3 a4 a5 : Nat × Operand) : (Array.map f #[a0, a1, a2, a3, a4, a5]).toList = [f a0, f a1, f a2, f a3, f a4, f a5] := by simp
def keptM (h : List TxnV) (A V : Mat) (k : Nat) : Mat := match k with
  | 0 => sesM h
  | 1 => thenR V V
  | 2 => thenR A V
  | 3 => rivM h A
  | 4 => A
  | _ => timM h
def keptTo (M : Nat → Mat) (V : Mat) (k : Nat) : Nat := (List.range k).foldl (fun (s : Nat) (i : Nat) => if inM (M i) V then s ||| bitA i else s) 0
theorem keptTo_succ (M : Nat → Mat) (V : Mat) (k : Nat) : keptTo M V (k + 1) = if inM (M k) V then keptTo M V k ||| bitA k else keptTo M V k := by
  unfold keptTo; rw [List.range_succ, List.foldl_append]; rfl
theorem bitA_lt (k : Nat) : bitA k < 64 := by
  by_cases hk : k < 6
  · have h : k = 0 ∨ k = 1 ∨ k = 2 ∨ k = 3 ∨ k = 4 ∨ k = 5 := by omega
    rcases h with rfl | rfl | rfl | rfl | rfl | rfl <;> decide
  · unfold bitA; rw [List.getD_eq_getElem?_getD, List.getElem?_eq_none (by simp; omega)]; decide
theorem keptTo_lt (M : Nat → Mat) (V : Mat) : ∀ k, keptTo M V k < 64
  | 0 => by unfold keptTo; simp
  | k + 1 => by
    rw [keptTo_succ]
    split
    · exact Nat.or_lt_two_pow (n := 6) (keptTo_lt M V k) (bitA_lt k)
    · exact keptTo_lt M V k
theorem infoAsk' (k : Int) (M : Mat) : (Tryz.prog.info? 146).map (·.size) = some (askC k M).size := by
  obtain ⟨i, hi, _, h1, _⟩ := info_parts infoAsk
  rw [hi, askC_size]; simp [h1]
theorem wpList_load_ask {ops : Array Oper} {rest : List Oper} {o : Oper} {a : Act} {w : World} {Q : Exit → Act → World → Prop} {g p : Nat} {k : Int} {M : Mat} (h : w.rangeAt g p (askC k M).toList) (hgd : o.guard = none) (x : Operand) (ho : o.op = .load 146 x)
    (hx : a.eval x = .pointer (some ⟨g, p, none⟩)) (hn : wpList Tryz.prog ops Q rest (a.put o.dst (.agg (askC k M))) w) : wpList Tryz.prog ops Q (o :: rest) a w := by
  refine wpList_load_mid hgd 146 x ho g p hx (askC k M).toList _ h Tryz.underlying146 rfl (by rw [Array.length_toList]; exact infoAsk' k M) ?_
  rw [Array.toArray_toList]
  exact hn
theorem ask_block (w : World) : (w.alloc (.cells Tryz.zeroCells146 146)).heap[w.heap.size]? = some (.cells Tryz.zeroCells146 146 (0, 0)) := heap_alloc_new w _
theorem wpList_store_ask {ops : Array Oper} {rest : List Oper} {o : Oper} {a : Act} {w : World} {Q : Exit → Act → World → Prop} {g : Nat} {k : Int} {M : Mat} (h : w.heap[g]? = some (.cells Tryz.zeroCells146 146 (0, 0))) (hgd : o.guard = none) (x y : Operand) (ho : o.op = .store 146 x y)
    (hx : a.eval x = .pointer (some ⟨g, 0, none⟩)) (hy : a.eval y = .agg (askC k M)) (hn : wpList Tryz.prog ops Q rest (a.put o.dst undef) (w.setRow g (askC k M))) : wpList Tryz.prog ops Q (o :: rest) a w :=
  wpList_store_row hgd 146 x y ho g (askC k M) hx hy _ _ h (infoAsk' k M) (by rw [askC_size]; kernel_rfl) (ask_one k M) hn
/-- What is kept, as axiom.Kept says it. -/
def keptN (h : List TxnV) (l : List Int) (V : Mat) : Nat := keptTo (keptM h (chainR l) V) V 6
set_option maxRecDepth 100000 in
set_option maxHeartbeats 16000000 in
theorem akept_any (va : Value) (l : List Int) (V : Mat) (h : List TxnV) (B b : Nat) (w : World) (hO : OrdIs w B b h) (hc : checkI h = 0) (ht : Tab w) (hl : Ints w va l) :
    Calls Tryz.prog 33 #[.pointer (some ⟨B, 0, none⟩), va, .agg (rowsA V)] w fun e w' => e = .returned (.int .i64 (keptN h l V)) ∧ Below w.heap.size w w' := by
  have hg := ht.pos
  have HT : Hid (∀ wx, Below w.heap.size w wx → Tab wx) := Lib.hid (fun wx hb => ht.below hb hg)
  have HO := Lib.hid (fun wx (hx : Below w.heap.size w wx) => hO.below hx)
  have HC := Lib.hid hc
  obtain ⟨ie, hie, hz0, hz1, hz2⟩ := info_parts infoAsk
  have r0 : RelAt (w.alloc (.cells (rowsA V) 37)) w.heap.size 37 V := RelAt.made w _ _ rfl rfl
  have hb0 := box_below w (.cells (rowsA V) 37)
  have CH := Lib.hid (chain_any va l _ (hl.below hb0))
  obtain ⟨ao, cap, rfl, hal⟩ := hl.form
  have HQ : Hid (keptN h l V = keptTo (keptM h (chainR l) V) V 6) := Lib.hid rfl
  generalize chainR l = A at *
  clear hO hc ht hl
  go_enter Tryz.func33, Tryz.ntmps33
  go_wp2_with fail
  refine (CH.out).mono ?_
  rintro e w1 ⟨rfl, hb1⟩
  have r0 := r0.below hb1 r0.lt
  have hb2 := below_then hb0 hb1
  clear hb1 hb0 CH
  have hs1 := hb2.size
  have hl0 := r0.lt
  have z7 := zero_block w1
  have r0 := (r0.alloc (.cells #[.int .u64 0, .int .u64 0, .int .u64 0, .int .u64 0, .int .u64 0, .int .u64 0, .int .u64 0, .int .u64 0, .int .u64 0, .int .u64 0, .int .u64 0, .int .u64 0, .int .u64 0, .int .u64 0, .int .u64 0, .int .u64 0, .int .u64 0, .int .u64 0, .int .u64 0, .int .u64 0, .int .u64 0, .int .u64 0, .int .u64 0, .int .u64 0, .int .u64 0, .int .u64 0, .int .u64 0, .int .u64 0, .int .u64 0, .int .u64 0, .int .u64 0, .int .u64 0, .int .u64 0, .int .u64 0, .int .u64 0, .int .u64 0, .int .u64 0, .int .u64 0, .int .u64 0, .int .u64 0, .int .u64 0, .int .u64 0, .int .u64 0, .int .u64 0, .int .u64 0, .int .u64 0, .int .u64 0, .int .u64 0, .int .u64 0, .int .u64 0, .int .u64 0, .int .u64 0, .int .u64 0, .int .u64 0, .int .u64 0, .int .u64 0, .int .u64 0, .int .u64 0, .int .u64 0, .int .u64 0, .int .u64 0, .int .u64 0, .int .u64 0, .int .u64 0] 37)).far (g' := w1.heap.size) (by omega) (rowsA A)
  have hb3 := below_setRow (hb2.alloc hb2.size (.cells #[.int .u64 0, .int .u64 0, .int .u64 0, .int .u64 0, .int .u64 0, .int .u64 0, .int .u64 0, .int .u64 0, .int .u64 0, .int .u64 0, .int .u64 0, .int .u64 0, .int .u64 0, .int .u64 0, .int .u64 0, .int .u64 0, .int .u64 0, .int .u64 0, .int .u64 0, .int .u64 0, .int .u64 0, .int .u64 0, .int .u64 0, .int .u64 0, .int .u64 0, .int .u64 0, .int .u64 0, .int .u64 0, .int .u64 0, .int .u64 0, .int .u64 0, .int .u64 0, .int .u64 0, .int .u64 0, .int .u64 0, .int .u64 0, .int .u64 0, .int .u64 0, .int .u64 0, .int .u64 0, .int .u64 0, .int .u64 0, .int .u64 0, .int .u64 0, .int .u64 0, .int .u64 0, .int .u64 0, .int .u64 0, .int .u64 0, .int .u64 0, .int .u64 0, .int .u64 0, .int .u64 0, .int .u64 0, .int .u64 0, .int .u64 0, .int .u64 0, .int .u64 0, .int .u64 0, .int .u64 0, .int .u64 0, .int .u64 0, .int .u64 0, .int .u64 0] 37)) (g := w1.heap.size) (by omega) (rowsA A)
  clear hb2
  go_upto_region 3 with (with_reducible refine wpList_store_rel z7 A rfl _ _ rfl rfl rfl ?_)
  have z7 := z7.setRow A
  generalize (w1.alloc (.cells #[.int .u64 0, .int .u64 0, .int .u64 0, .int .u64 0, .int .u64 0, .int .u64 0, .int .u64 0, .int .u64 0, .int .u64 0, .int .u64 0, .int .u64 0, .int .u64 0, .int .u64 0, .int .u64 0, .int .u64 0, .int .u64 0, .int .u64 0, .int .u64 0, .int .u64 0, .int .u64 0, .int .u64 0, .int .u64 0, .int .u64 0, .int .u64 0, .int .u64 0, .int .u64 0, .int .u64 0, .int .u64 0, .int .u64 0, .int .u64 0, .int .u64 0, .int .u64 0, .int .u64 0, .int .u64 0, .int .u64 0, .int .u64 0, .int .u64 0, .int .u64 0, .int .u64 0, .int .u64 0, .int .u64 0, .int .u64 0, .int .u64 0, .int .u64 0, .int .u64 0, .int .u64 0, .int .u64 0, .int .u64 0, .int .u64 0, .int .u64 0, .int .u64 0, .int .u64 0, .int .u64 0, .int .u64 0, .int .u64 0, .int .u64 0, .int .u64 0, .int .u64 0, .int .u64 0, .int .u64 0, .int .u64 0, .int .u64 0, .int .u64 0, .int .u64 0] 37)).setRow w1.heap.size (rowsA A) = w3 at *
  generalize hp7 : w1.heap.size = p7 at *
  clear hp7
  have HS : Hid (∀ wx, Below w3.heap.size w3 wx → OrdB wx B h ∧ RelAt wx w.heap.size 37 V ∧ RelAt wx p7 37 A) := Lib.hid (fun wx hx => ⟨(HO.out wx (hb3.trans (hx.mono hb3.size))).blk, r0.below hx r0.lt, z7.below hx z7.lt⟩)
  have CT1 := Lib.hid (fun wx (hx : Below w3.heap.size w3 wx) => then_any V V wx (HT.out _ (hb3.trans (hx.mono hb3.size))))
  have CT2 := Lib.hid (fun wx (hx : Below w3.heap.size w3 wx) => then_any A V wx (HT.out _ (hb3.trans (hx.mono hb3.size))))
  have CR := Lib.hid (fun wx (hx : Below w3.heap.size w3 wx) => arivals_any A h B b wx (HO.out wx (hb3.trans (hx.mono hb3.size))) HC.out)
  have HB := Lib.hid (fun wx (hx : Below w3.heap.size w3 wx) => hb3.trans (hx.mono hb3.size))
  have kd := (Below.refl w3.heap.size w3).drew
  clear r0 z7 hb3
  refine wp_region_held_drew (S := fun wx => OrdB wx B h ∧ RelAt wx w.heap.size 37 V ∧ RelAt wx p7 37 A) (by kernel_rfl) (HS.out _ kd) (fun hS0 => ?_)
  refine takeG (some 13) (i := 0) (v := ?vk0) rfl rfl (by kernel_rfl) (by kernel_rfl) (by kernel_rfl) (fun _ _ _ h => h) (Or.inl ⟨by rfl, ?hk0⟩) hS0 ?rk0
  case hk0 => (intro w hw; have hn := hw.1.cN; go_simp; try (with_reducible rfl))
  try simp only [Act.put, List.setIfInBounds_toArray, List.set_cons_zero, List.set_cons_succ]
  refine takeG (some 14) (i := 1) (v := ?vk1) rfl rfl (by kernel_rfl) (by kernel_rfl) (by kernel_rfl) (fun _ _ _ h => h) (Or.inl ⟨by rfl, ?hk1⟩) hS0 ?rk1
  case hk1 => (intro w hw; have hn := hw.1.cN; go_simp; try (with_reducible rfl))
  try simp only [Act.put, List.setIfInBounds_toArray, List.set_cons_zero, List.set_cons_succ]
  refine takeG (some 15) (i := 2) (v := ?vk2) rfl rfl (by kernel_rfl) (by kernel_rfl) (by kernel_rfl) (fun _ _ _ h => h) (Or.inl ⟨by rfl, ?hk2⟩) hS0 ?rk2
  case hk2 => (intro w hw; have hn := hw.1.cN; go_simp; try (with_reducible rfl))
  try simp only [Act.put, List.setIfInBounds_toArray, List.set_cons_zero, List.set_cons_succ]
  refine takeG (some 39) (i := 26) (v := ?vk26) rfl rfl (by kernel_rfl) (by kernel_rfl) (by kernel_rfl) (fun _ _ _ h => h) (Or.inl ⟨by rfl, ?hk26⟩) hS0 ?rk26
  case hk26 => (intro w _; go_simp; try (with_reducible rfl))
  try simp only [Act.put, List.setIfInBounds_toArray, List.set_cons_zero, List.set_cons_succ]
  refine takeG (some 16) (i := 3) (v := _) rfl rfl (by kernel_rfl) (by kernel_rfl) (by kernel_rfl) (fun _ _ _ h => h) (yields_load_part (by rfl) _ rfl rfl (fun wx hx => hx.1.rS)) hS0 ?_
  try simp only [Act.put, List.setIfInBounds_toArray, List.set_cons_zero, List.set_cons_succ]
  refine takeG (some 17) (i := 4) (v := _) rfl rfl (by kernel_rfl) (by kernel_rfl) (by kernel_rfl) (fun _ _ _ h => h) (yields_ask (k := 1) (by rfl) _ rfl rfl) hS0 ?_
  try simp only [Act.put, List.setIfInBounds_toArray, List.set_cons_zero, List.set_cons_succ]
  refine takeG (some 18) (i := 5) (v := _) rfl rfl (by kernel_rfl) (by kernel_rfl) (by kernel_rfl) (fun _ _ _ h => h) (yields_rel (by rfl) _ rfl rfl (fun wx hx => hx.2.1)) hS0 ?_
  try simp only [Act.put, List.setIfInBounds_toArray, List.set_cons_zero, List.set_cons_succ]
  refine takeG (some 19) (i := 6) (v := _) rfl rfl (by kernel_rfl) (by kernel_rfl) (by kernel_rfl) (fun _ _ _ h => h) (yields_rel (by rfl) _ rfl rfl (fun wx hx => hx.2.1)) hS0 ?_
  try simp only [Act.put, List.setIfInBounds_toArray, List.set_cons_zero, List.set_cons_succ]
  refine takeG (some 22) (i := 9) (v := _) rfl rfl (by kernel_rfl) (by kernel_rfl) (by kernel_rfl) (fun _ _ _ h => h) (yields_rel (by rfl) _ rfl rfl (fun wx hx => hx.2.2)) hS0 ?_
  try simp only [Act.put, List.setIfInBounds_toArray, List.set_cons_zero, List.set_cons_succ]
  refine takeG (some 23) (i := 10) (v := _) rfl rfl (by kernel_rfl) (by kernel_rfl) (by kernel_rfl) (fun _ _ _ h => h) (yields_rel (by rfl) _ rfl rfl (fun wx hx => hx.2.1)) hS0 ?_
  try simp only [Act.put, List.setIfInBounds_toArray, List.set_cons_zero, List.set_cons_succ]
  refine takeG (some 26) (i := 13) (v := ?vk13) rfl rfl (by kernel_rfl) (by kernel_rfl) (by kernel_rfl) (fun _ _ _ h => h) (Or.inl ⟨by rfl, ?hk13⟩) hS0 ?rk13
  case hk13 => (intro w hw; have hn := hw.1.cN; go_simp; try (with_reducible rfl))
  try simp only [Act.put, List.setIfInBounds_toArray, List.set_cons_zero, List.set_cons_succ]
  refine takeG (some 27) (i := 14) (v := _) rfl rfl (by kernel_rfl) (by kernel_rfl) (by kernel_rfl) (fun _ _ _ h => h) (yields_rel (by rfl) _ rfl rfl (fun wx hx => hx.2.2)) hS0 ?_
  try simp only [Act.put, List.setIfInBounds_toArray, List.set_cons_zero, List.set_cons_succ]
  refine takeG (some 30) (i := 17) (v := _) rfl rfl (by kernel_rfl) (by kernel_rfl) (by kernel_rfl) (fun _ _ _ h => h) (yields_rel (by rfl) _ rfl rfl (fun wx hx => hx.2.2)) hS0 ?_
  try simp only [Act.put, List.setIfInBounds_toArray, List.set_cons_zero, List.set_cons_succ]
  refine takeG (some 31) (i := 18) (v := _) rfl rfl (by kernel_rfl) (by kernel_rfl) (by kernel_rfl) (fun _ _ _ h => h) (yields_ask (k := 16) (by rfl) _ rfl rfl) hS0 ?_
  try simp only [Act.put, List.setIfInBounds_toArray, List.set_cons_zero, List.set_cons_succ]
  refine takeG (some 32) (i := 19) (v := ?vk19) rfl rfl (by kernel_rfl) (by kernel_rfl) (by kernel_rfl) (fun _ _ _ h => h) (Or.inl ⟨by rfl, ?hk19⟩) hS0 ?rk19
  case hk19 => (intro w hw; have hn := hw.1.cN; go_simp; try (with_reducible rfl))
  try simp only [Act.put, List.setIfInBounds_toArray, List.set_cons_zero, List.set_cons_succ]
  refine takeG (some 33) (i := 20) (v := ?vk20) rfl rfl (by kernel_rfl) (by kernel_rfl) (by kernel_rfl) (fun _ _ _ h => h) (Or.inl ⟨by rfl, ?hk20⟩) hS0 ?rk20
  case hk20 => (intro w hw; have hn := hw.1.cN; go_simp; try (with_reducible rfl))
  try simp only [Act.put, List.setIfInBounds_toArray, List.set_cons_zero, List.set_cons_succ]
  refine takeG (some 34) (i := 21) (v := ?vk21) rfl rfl (by kernel_rfl) (by kernel_rfl) (by kernel_rfl) (fun _ _ _ h => h) (Or.inl ⟨by rfl, ?hk21⟩) hS0 ?rk21
  case hk21 => (intro w hw; have hn := hw.1.cN; go_simp; try (with_reducible rfl))
  try simp only [Act.put, List.setIfInBounds_toArray, List.set_cons_zero, List.set_cons_succ]
  refine takeG (some 35) (i := 22) (v := _) rfl rfl (by kernel_rfl) (by kernel_rfl) (by kernel_rfl) (fun _ _ _ h => h) (yields_load_part (by rfl) _ rfl rfl (fun wx hx => hx.1.rT)) hS0 ?_
  try simp only [Act.put, List.setIfInBounds_toArray, List.set_cons_zero, List.set_cons_succ]
  refine takeG (some 36) (i := 23) (v := _) rfl rfl (by kernel_rfl) (by kernel_rfl) (by kernel_rfl) (fun _ _ _ h => h) (yields_ask (k := 32) (by rfl) _ rfl rfl) hS0 ?_
  try simp only [Act.put, List.setIfInBounds_toArray, List.set_cons_zero, List.set_cons_succ]
  refine wpAnyH_ready (rs := [7]) (by kernel_rfl) (by simp) ?_
  refine AllReadyH.cons rfl (fun K hK => ?_) AllReadyH.nil
  go_simp
  refine (CT1.out _ kd).mono ?_
  rintro e q1 ⟨rfl, hq1⟩
  show K _ _
  have k1 := below_then kd hq1
  have s1 := HS.out _ k1
  refine hK.out _ _ s1 (fun _ => ?_)
  clear hK K
  refine takeG (some 21) (i := 8) (v := _) rfl rfl (by kernel_rfl) (by kernel_rfl) (by kernel_rfl) (fun _ _ _ h => h) (yields_ask (k := 2) (by rfl) _ rfl rfl) s1 ?_
  try simp only [Act.put, List.setIfInBounds_toArray, List.set_cons_zero, List.set_cons_succ]
  refine wpAnyH_ready (rs := [11]) (by kernel_rfl) (by simp) ?_
  refine AllReadyH.cons rfl (fun K hK => ?_) AllReadyH.nil
  go_simp
  refine (CT2.out _ k1).mono ?_
  rintro e q2 ⟨rfl, hq2⟩
  show K _ _
  have k2 := below_then k1 hq2
  have s2 := HS.out _ k2
  refine hK.out _ _ s2 (fun _ => ?_)
  clear hK K
  refine takeG (some 25) (i := 12) (v := _) rfl rfl (by kernel_rfl) (by kernel_rfl) (by kernel_rfl) (fun _ _ _ h => h) (yields_ask (k := 4) (by rfl) _ rfl rfl) s2 ?_
  try simp only [Act.put, List.setIfInBounds_toArray, List.set_cons_zero, List.set_cons_succ]
  refine wpAnyH_ready (rs := [15]) (by kernel_rfl) (by simp) ?_
  refine AllReadyH.cons rfl (fun K hK => ?_) AllReadyH.nil
  go_simp
  refine (CR.out _ k2).mono ?_
  rintro e q3 ⟨rfl, hq3⟩
  show K _ _
  have k3 := below_then k2 hq3
  have s3 := HS.out _ k3
  refine hK.out _ _ s3 (fun _ => ?_)
  clear hK K
  refine takeG (some 29) (i := 16) (v := _) rfl rfl (by kernel_rfl) (by kernel_rfl) (by kernel_rfl) (fun _ _ _ h => h) (yields_ask (k := 8) (by rfl) _ rfl rfl) s3 ?_
  try simp only [Act.put, List.setIfInBounds_toArray, List.set_cons_zero, List.set_cons_succ]
  refine wpAnyH_ready (rs := [24]) (by kernel_rfl) (by simp) ?_
  refine AllReadyH.cons rfl (fun K hK => ?_) AllReadyH.nil
  rw [if_pos (by rfl)]
  refine wp_buildSliceD (some 37) rfl 147 146 6 _ rfl (asksA (sesM h) (thenR V V) (thenR A V) (rivM h A) A (timM h)) ie (.agg ((Value.int .i64 0 :: List.replicate 64 (Value.int .u64 0)).toArray)) Tryz.underlying147 hie hz0 (by rw [hz1]; omega) (by rw [hz1]; omega) (by rw [hz1, map6]; exact fill_asks (sesM h) (thenR V V) (thenR A V) (rivM h A) A (timM h)) ?_
  have k4 := k3.alloc k3.size (.cells (asksA (sesM h) (thenR V V) (thenR A V) (rivM h A) A (timM h)) 146)
  have s4 := HS.out _ k4
  refine hK.out _ _ s4 (fun _ => ?_)
  clear hK K
  try simp only [Act.put, List.setIfInBounds_toArray, List.set_cons_zero, List.set_cons_succ]
  refine takeG (some 38) (i := 25) (v := ?vk25) rfl rfl (by kernel_rfl) (by kernel_rfl) (by kernel_rfl) (fun _ _ _ h => h) (Or.inl ⟨by rfl, ?hk25⟩) s4 ?rk25
  case hk25 => (intro w _; go_simp; try (with_reducible rfl))
  try simp only [Act.put, List.setIfInBounds_toArray, List.set_cons_zero, List.set_cons_succ]
  refine wpAnyH_done (by kernel_rfl) ?_ _
  have hbk := heap_alloc_new q3 (.cells (asksA (sesM h) (thenR V V) (thenR A V) (rivM h A) A (timM h)) 146)
  have hb5 := HB.out _ k4
  have hV5 := s4.2.1
  clear kd hS0 k1 s1 k2 s2 k3 s3 k4 s4 HS CT1 CT2 CR HB hq1 hq2 hq3
  generalize q3.alloc (.cells (asksA (sesM h) (thenR V V) (thenR A V) (rivM h A) A (timM h)) 146) = w5 at *
  generalize q3.heap.size = g at *
  have HBK : Hid (∀ wx, Below w5.heap.size w5 wx → ∀ k, k < 6 → wx.rangeAt g (k * 65) (askC ((bitA k : Nat) : Int) (keptM h A V k)).toList) := Lib.hid (fun wx hx k hk => by
    have hlt : g < w5.heap.size := by
      by_cases h0 : g < w5.heap.size
      · exact h0
      · rw [Array.getElem?_eq_none (Nat.le_of_not_lt h0)] at hbk; cases hbk
    have h1 := (hx.block g hlt).trans hbk
    have h2 := World.rangeAt_of_block h1 (k * 65) 65
    rw [show asksA (sesM h) (thenR V V) (thenR A V) (rivM h A) A (timM h) = asksA (keptM h A V 0) (keptM h A V 1) (keptM h A V 2) (keptM h A V 3) (keptM h A V 4) (keptM h A V 5) from rfl, ask_at (keptM h A V) k hk] at h2
    exact h2)
  have HV5 := Lib.hid (fun wx (hx : Below w5.heap.size w5 wx) => hV5.below hx hV5.lt)
  have HB5 := Lib.hid (fun wx (hx : Below w5.heap.size w5 wx) => hb5.trans (hx.mono hb5.size))
  have HQ2 : Hid (keptN h l V = keptTo (keptM h A V) V 6) := Lib.hid HQ.out
  clear hbk hV5 hb5 HQ
  generalize keptM h A V = M at *
  go_wp2_with fail
  go_loopw [8, 39] (fun s i wr => ∃ k : Nat, k ≤ 6 ∧ i = .int .i64 k ∧ s = .int .i64 ((keptTo M V k : Nat) : Int) ∧ Below w5.heap.size w5 wr) (fun _ i _ => 6 - (intOf i).toNat)
  case atStart => exact ⟨0, by omega, rfl, rfl, Below.refl _ _⟩
  case round =>
    obtain ⟨k, hk, rfl, rfl, hb⟩ := hrel
    by_cases hlt : k < 6
    · have hki : (k : Int) < 6 := by omega
      have hrg := HBK.out _ hb k hlt
      have hkl := keptTo_lt M V k
      have hbl := bitA_lt k
      have HS := Lib.hid (keptTo_succ M V k)
      have hor := i64_or_nat (keptTo M V k) (bitA k) (by omega) (by omega)
      have HOR := Lib.hid hor
      have CW := Lib.hid (fun wx => withinR_any (M k) V wx)
      have hz := ask_block wr
      have hbz := box_below wr (.cells Tryz.zeroCells146 146)
      have hgr := setRow_heap _ _ _ (askC ((bitA k : Nat) : Int) (M k)) _ _ hz
      have hbg := below_setRow hbz (Nat.le_refl _) (askC ((bitA k : Nat) : Int) (M k))
      have HBF := Lib.hid (fun wx (hx : Below ((wr.alloc (.cells Tryz.zeroCells146 146)).setRow wr.heap.size (askC ((bitA k : Nat) : Int) (M k))).heap.size ((wr.alloc (.cells Tryz.zeroCells146 146)).setRow wr.heap.size (askC ((bitA k : Nat) : Int) (M k))) wx) => below_then (below_then hb hbg) hx)
      clear hor hbz hbg
      generalize bitA k = bt1 at *
      generalize M k = Mk at *
      generalize keptTo M V k = kp at *
      go_upto_region 6 with (first | (with_reducible refine wpList_load_ask hrg rfl _ rfl rfl ?_) | (with_reducible refine wpList_store_ask hz rfl _ _ rfl rfl rfl ?_))
      clear hz hrg
      generalize (wr.alloc (.cells Tryz.zeroCells146 146)).setRow wr.heap.size (askC (bt1 : Int) Mk) = w6 at *
      have hrm := World.rangeAt_of_block hgr 1 64
      rw [ask_must] at hrm
      have hc0 : w6.cell? ⟨wr.heap.size, 0, none⟩ = some (.int .i64 bt1) := by rw [cell_of_row _ _ _ _ _ _ hgr]; rfl
      have k0 := Below.refl w6.heap.size w6
      have y5 := HV5.out _ (HBF.out _ k0)
      clear hgr hb
      simp only [Act.put]
      go_wp2_with (first | (with_reducible refine wpList_load_part hrm _ rfl (by kernel_rfl) rfl ?_) | (with_reducible refine wpList_load_rel y5 rfl _ rfl rfl ?_))
      refine (CW.out _).mono ?_
      rintro e w7 ⟨rfl, hb7⟩
      have hc0 := (hb7.cell (p := ⟨wr.heap.size, 0, none⟩) (block_lt hc0)).trans hc0
      have hb8 := HBF.out _ hb7
      clear hrm y5 HBF hb7 k0 CW
      cases hin : inM Mk V with
      | true =>
        have HV := Lib.hid (show keptTo M V (k + 1) = kp ||| bt1 by rw [HS.out, hin]; rfl)
        have hor := HOR.out
        clear hin HS HOR
        go_wp2_with fail
        go_roundw
        case rel => exact ⟨k + 1, by omega, by go_num, by rw [HV.out], hb8⟩
        case measure => simp [intOf]; omega
      | false =>
        have HV := Lib.hid (show keptTo M V (k + 1) = kp by rw [HS.out, hin]; rfl)
        clear hin HS HOR
        go_wp2_with fail
        go_roundw
        case rel => exact ⟨k + 1, by omega, by go_num, by rw [HV.out], hb8⟩
        case measure => simp [intOf]; omega
    · have hk6 : k = 6 := by omega
      subst hk6
      have HE := Lib.hid HQ2.out.symm
      have hbz := HB5.out _ hb
      go_wp2_with fail
      go_ret
      exact ⟨by rw [← HE.out]; rfl, hbz⟩
end Go.Proofs.YtkaldidcekcpnaaGreatDoor

namespace Go.Proofs.YtkaldidcekcpnaaGreatDoor
set_option maxRecDepth 100000
open Go.RowKit

/-- Is a thing asked, by its number? -/
def hasT (k t : Nat) : Bool := decide (k / t % 2 = 1)
theorem rl_has (k t : Nat) (hk : k < 64) (ht : 0 < t) (ht2 : t ≤ 32) (w : World) : Calls Tryz.prog 34 #[.int .i64 k, .int .i64 t] w fun e w' => e = .returned (.bool (hasT k t)) ∧ w = w' := by
  have h0 : ((t : Int) == 0) = false := by rw [beq_eq_false_iff_ne]; omega
  have hd : ((k : Int).tdiv (t : Int)) = ((k / t : Nat) : Int) := by rw [Int.tdiv_eq_ediv_of_nonneg (Int.natCast_nonneg k)]; rfl
  have hq : k / t < 64 := Nat.lt_of_le_of_lt (Nat.div_le_self _ _) hk
  have hm : (((k / t : Nat) : Int).tmod 2) = ((k / t % 2 : Nat) : Int) := by rw [Int.tmod_eq_emod_of_nonneg (Int.natCast_nonneg _)]; rfl
  have H : Hid ((((k / t % 2 : Nat) : Int) == 1) = hasT k t) := Lib.hid (by unfold hasT; rw [Bool.eq_iff_iff, beq_iff_eq, decide_eq_true_eq]; omega)
  have hm2 : k / t % 2 < 2 := Nat.mod_lt _ (by omega)
  rw [← H.out]
  generalize k / t = q at *
  generalize q % 2 = r at *
  go_enter Tryz.func34, Tryz.ntmps34
  go_wp2
  go_ret
  exact ⟨rfl, rfl⟩
theorem rl_asks (l : Int) (w : World) : Calls Tryz.prog 112 #[.int .i64 l] w fun e w' => e = .returned (.int .i64 (askN l)) ∧ w = w' := by
  by_cases h : 0 ≤ l ∧ l < 12
  · obtain ⟨k, rfl⟩ := Int.eq_ofNat_of_zero_le h.1
    have hk : k < 12 := by omega
    clear h
    match k, hk with
    | 0, _ | 1, _ | 2, _ | 3, _ | 4, _ | 5, _ | 6, _ | 7, _ | 8, _ | 9, _ | 10, _ | 11, _ =>
      go_enter Tryz.func112, Tryz.ntmps112
      go_wp2
      go_ret
      exact ⟨rfl, rfl⟩
    | k + 12, hk => exact absurd hk (by omega)
  · have H : Hid (((askN l : Nat) : Int) = 0) := Lib.hid (by unfold askN isLv; rw [if_neg (by simpa using h)]; rfl)
    rw [H.out]
    by_cases h0 : l < 0
    all_goals
      go_enter Tryz.func112, Tryz.ntmps112
      go_wp2
      go_ret
      exact ⟨rfl, rfl⟩
end Go.Proofs.YtkaldidcekcpnaaGreatDoor

namespace Go.Proofs.YtkaldidcekcpnaaGreatDoor
set_option maxRecDepth 100000
open Go.RowKit

theorem block_lt' {w : World} {a : Addr} {v : Value} (h : w.cell? a = some v) : a.block < w.heap.size := by
  by_cases h0 : a.block < w.heap.size
  · exact h0
  · simp [World.cell?, Array.getElem?_eq_none (Nat.le_of_not_lt h0)] at h
theorem Kinds.below {w w' : World} (h : Kinds w) (hb : Below w.heap.size w w') : Kinds w' := fun k hk => by
  obtain ⟨h1, h2⟩ := h k hk
  exact ⟨(hb.cell (block_lt' h1)).trans h1, (hb.cell (block_lt' h2)).trans h2⟩
end Go.Proofs.YtkaldidcekcpnaaGreatDoor

namespace Go.Proofs.YtkaldidcekcpnaaGreatDoor
set_option maxRecDepth 100000
open Go.RowKit

/-- What is asked and isn't kept. -/
def lackN (a b : Nat) : Nat := a ^^^ (a &&& b)
/-- Does a history keep what a level asks? -/
def holdsB (h : List TxnV) (lv : Int) (l : List Int) (V : Mat) : Bool := isLv lv && (soundTo h h.length && (rightM h l V && decide (lackN (askN lv) (keptN h l V) = 0)))
set_option maxRecDepth 100000 in
set_option maxHeartbeats 16000000 in
theorem aholds_any (lv : Int) (va : Value) (l : List Int) (V : Mat) (h : List TxnV) (B b : Nat) (w : World) (hO : OrdIs w B b h) (hc : checkI h = 0) (ht : Tab w) (hK : Kinds w) (hl : Ints w va l) :
    Calls Tryz.prog 36 #[.pointer (some ⟨B, 0, none⟩), .int .i64 lv, va, .agg (rowsA V)] w fun e w' => e = .returned (.bool (holdsB h lv l V)) ∧ Below w.heap.size w w' := by
  have hg := ht.pos
  have r0 : RelAt (w.alloc (.cells (rowsA V) 37)) w.heap.size 37 V := RelAt.made w _ _ rfl rfl
  have hb0 := box_below w (.cells (rowsA V) 37)
  have HW := Lib.hid (fun wx (hx : Below w.heap.size w wx) => And.intro (hO.below hx) (And.intro (ht.below hx hg) (And.intro (hK.below hx) (hl.below hx))))
  have HC := Lib.hid hc
  have HR : Hid (holdsB h lv l V = (isLv lv && (soundTo h h.length && (rightM h l V && decide (lackN (askN lv) (keptN h l V) = 0))))) := Lib.hid rfl
  obtain ⟨ao, cap, rfl, hal⟩ := hl.form
  clear hO hc ht hK hl
  go_enter Tryz.func36, Tryz.ntmps36
  go_upto_region 1 with fail
  generalize w.alloc (.cells (rowsA V) 37) = w0 at *
  have HB := Lib.hid (fun wx (hx : Below w0.heap.size w0 wx) => hb0.trans (hx.mono hb0.size))
  have HS : Hid (∀ wx, Below w0.heap.size w0 wx → OrdB wx B h ∧ RelAt wx w.heap.size 37 V) := Lib.hid (fun wx hx => ⟨(HW.out wx (hb0.trans (hx.mono hb0.size))).1.blk, r0.below hx r0.lt⟩)
  have CI := Lib.hid (fun wx => lis_any lv wx)
  have CR := Lib.hid (fun wx (hx : Below w0.heap.size w0 wx) => aright_any _ l V h B b wx (HW.out wx (hb0.trans (hx.mono hb0.size))).1 HC.out (HW.out wx (hb0.trans (hx.mono hb0.size))).2.2.2)
  have CA := Lib.hid (fun wx (hx : Below w0.heap.size w0 wx) => lasks_any lv wx (HW.out wx (hb0.trans (hx.mono hb0.size))).2.2.1)
  have CK := Lib.hid (fun wx (hx : Below w0.heap.size w0 wx) => akept_any _ l V h B b wx (HW.out wx (hb0.trans (hx.mono hb0.size))).1 HC.out (HW.out wx (hb0.trans (hx.mono hb0.size))).2.1 (HW.out wx (hb0.trans (hx.mono hb0.size))).2.2.2)
  have kd := (Below.refl w0.heap.size w0).drew
  have hka := askN_lt lv
  have hkk : keptN h l V < 64 := keptTo_lt _ _ _
  have HLK := Lib.hid (i64_andNot_nat (askN lv) (keptN h l V) (by omega) (by omega))
  clear r0 hb0 HW
  generalize rightM h l V = rt at *
  generalize askN lv = na at *
  generalize keptN h l V = nk at *
  generalize isLv lv = il at *
  cases il with
  | false =>
    have HV : Hid (false = holdsB h lv l V) := Lib.hid (by rw [HR.out]; rfl)
    clear HR
    refine wp_region_held_drew (S := fun wx => OrdB wx B h ∧ RelAt wx w.heap.size 37 V) (by kernel_rfl) (HS.out _ kd) (fun hS0 => ?_)
    refine takeG (some 9) (i := 0) (v := ?va0) rfl rfl (by kernel_rfl) (by kernel_rfl) (by kernel_rfl) (fun _ _ _ h => h) (Or.inl ⟨by rfl, ?ha0⟩) hS0 ?ra0
    case ha0 => (intro w _; go_simp; try (with_reducible rfl))
    try simp only [Act.put, List.setIfInBounds_toArray, List.set_cons_zero, List.set_cons_succ]
    refine wpAnyH_ready (rs := [1]) (by kernel_rfl) (by simp) ?_
    refine AllReadyH.cons rfl (fun K hK => ?_) AllReadyH.nil
    go_simp
    refine (CI.out _).mono ?_
    rintro e q1 ⟨rfl, rfl⟩
    show K _ _
    refine hK.out _ _ hS0 (fun _ => ?_)
    clear hK K
    refine takeG (some 11) (i := 2) (v := ?va2) rfl rfl (by kernel_rfl) (by kernel_rfl) (by kernel_rfl) (fun _ _ _ h => h) (Or.inl ⟨by rfl, ?ha2⟩) hS0 ?ra2
    case ha2 => (intro w _; go_simp; try (with_reducible rfl))
    try simp only [Act.put, List.setIfInBounds_toArray, List.set_cons_zero, List.set_cons_succ]
    refine takeG (some 12) (i := 3) (v := undef) rfl rfl (by kernel_rfl) (by kernel_rfl) (by kernel_rfl) (fun _ _ _ h => h) (Or.inr ⟨by rfl, rfl⟩) hS0 ?_
    try simp only [Act.put, List.setIfInBounds_toArray, List.set_cons_zero, List.set_cons_succ]
    refine takeG (some 13) (i := 4) (v := undef) rfl rfl (by kernel_rfl) (by kernel_rfl) (by kernel_rfl) (fun _ _ _ h => h) (Or.inr ⟨by rfl, rfl⟩) hS0 ?_
    try simp only [Act.put, List.setIfInBounds_toArray, List.set_cons_zero, List.set_cons_succ]
    refine takeG (some 14) (i := 5) (v := undef) rfl rfl (by kernel_rfl) (by kernel_rfl) (by kernel_rfl) (fun _ _ _ h => h) (Or.inr ⟨by rfl, rfl⟩) hS0 ?_
    try simp only [Act.put, List.setIfInBounds_toArray, List.set_cons_zero, List.set_cons_succ]
    refine takeG (some 15) (i := 6) (v := undef) rfl rfl (by kernel_rfl) (by kernel_rfl) (by kernel_rfl) (fun _ _ _ h => h) (Or.inr ⟨by rfl, rfl⟩) hS0 ?_
    try simp only [Act.put, List.setIfInBounds_toArray, List.set_cons_zero, List.set_cons_succ]
    refine takeG (some 16) (i := 7) (v := ?va7) rfl rfl (by kernel_rfl) (by kernel_rfl) (by kernel_rfl) (fun _ _ _ h => h) (Or.inl ⟨by rfl, ?ha7⟩) hS0 ?ra7
    case ha7 => (intro w _; go_simp; try (with_reducible rfl))
    try simp only [Act.put, List.setIfInBounds_toArray, List.set_cons_zero, List.set_cons_succ]
    refine takeG (some 17) (i := 8) (v := ?va8) rfl rfl (by kernel_rfl) (by kernel_rfl) (by kernel_rfl) (fun _ _ _ h => h) (Or.inl ⟨by rfl, ?ha8⟩) hS0 ?ra8
    case ha8 => (intro w _; go_simp; try (with_reducible rfl))
    try simp only [Act.put, List.setIfInBounds_toArray, List.set_cons_zero, List.set_cons_succ]
    refine takeG (some 18) (i := 9) (v := undef) rfl rfl (by kernel_rfl) (by kernel_rfl) (by kernel_rfl) (fun _ _ _ h => h) (Or.inr ⟨by rfl, rfl⟩) hS0 ?_
    try simp only [Act.put, List.setIfInBounds_toArray, List.set_cons_zero, List.set_cons_succ]
    refine takeG (some 19) (i := 10) (v := undef) rfl rfl (by kernel_rfl) (by kernel_rfl) (by kernel_rfl) (fun _ _ _ h => h) (Or.inr ⟨by rfl, rfl⟩) hS0 ?_
    try simp only [Act.put, List.setIfInBounds_toArray, List.set_cons_zero, List.set_cons_succ]
    refine takeG (some 20) (i := 11) (v := undef) rfl rfl (by kernel_rfl) (by kernel_rfl) (by kernel_rfl) (fun _ _ _ h => h) (Or.inr ⟨by rfl, rfl⟩) hS0 ?_
    try simp only [Act.put, List.setIfInBounds_toArray, List.set_cons_zero, List.set_cons_succ]
    refine takeG (some 21) (i := 12) (v := undef) rfl rfl (by kernel_rfl) (by kernel_rfl) (by kernel_rfl) (fun _ _ _ h => h) (Or.inr ⟨by rfl, rfl⟩) hS0 ?_
    try simp only [Act.put, List.setIfInBounds_toArray, List.set_cons_zero, List.set_cons_succ]
    refine takeG (some 22) (i := 13) (v := ?va13) rfl rfl (by kernel_rfl) (by kernel_rfl) (by kernel_rfl) (fun _ _ _ h => h) (Or.inl ⟨by rfl, ?ha13⟩) hS0 ?ra13
    case ha13 => (intro w _; go_simp; try (with_reducible rfl))
    try simp only [Act.put, List.setIfInBounds_toArray, List.set_cons_zero, List.set_cons_succ]
    refine takeG (some 23) (i := 14) (v := ?va14) rfl rfl (by kernel_rfl) (by kernel_rfl) (by kernel_rfl) (fun _ _ _ h => h) (Or.inl ⟨by rfl, ?ha14⟩) hS0 ?ra14
    case ha14 => (intro w _; go_simp; try (with_reducible rfl))
    try simp only [Act.put, List.setIfInBounds_toArray, List.set_cons_zero, List.set_cons_succ]
    refine takeG (some 24) (i := 15) (v := undef) rfl rfl (by kernel_rfl) (by kernel_rfl) (by kernel_rfl) (fun _ _ _ h => h) (Or.inr ⟨by rfl, rfl⟩) hS0 ?_
    try simp only [Act.put, List.setIfInBounds_toArray, List.set_cons_zero, List.set_cons_succ]
    refine takeG (some 25) (i := 16) (v := undef) rfl rfl (by kernel_rfl) (by kernel_rfl) (by kernel_rfl) (fun _ _ _ h => h) (Or.inr ⟨by rfl, rfl⟩) hS0 ?_
    try simp only [Act.put, List.setIfInBounds_toArray, List.set_cons_zero, List.set_cons_succ]
    refine takeG (some 26) (i := 17) (v := undef) rfl rfl (by kernel_rfl) (by kernel_rfl) (by kernel_rfl) (fun _ _ _ h => h) (Or.inr ⟨by rfl, rfl⟩) hS0 ?_
    try simp only [Act.put, List.setIfInBounds_toArray, List.set_cons_zero, List.set_cons_succ]
    refine takeG (some 27) (i := 18) (v := undef) rfl rfl (by kernel_rfl) (by kernel_rfl) (by kernel_rfl) (fun _ _ _ h => h) (Or.inr ⟨by rfl, rfl⟩) hS0 ?_
    try simp only [Act.put, List.setIfInBounds_toArray, List.set_cons_zero, List.set_cons_succ]
    refine takeG (some 28) (i := 19) (v := undef) rfl rfl (by kernel_rfl) (by kernel_rfl) (by kernel_rfl) (fun _ _ _ h => h) (Or.inr ⟨by rfl, rfl⟩) hS0 ?_
    try simp only [Act.put, List.setIfInBounds_toArray, List.set_cons_zero, List.set_cons_succ]
    refine takeG (some 29) (i := 20) (v := undef) rfl rfl (by kernel_rfl) (by kernel_rfl) (by kernel_rfl) (fun _ _ _ h => h) (Or.inr ⟨by rfl, rfl⟩) hS0 ?_
    try simp only [Act.put, List.setIfInBounds_toArray, List.set_cons_zero, List.set_cons_succ]
    refine takeG (some 30) (i := 21) (v := undef) rfl rfl (by kernel_rfl) (by kernel_rfl) (by kernel_rfl) (fun _ _ _ h => h) (Or.inr ⟨by rfl, rfl⟩) hS0 ?_
    try simp only [Act.put, List.setIfInBounds_toArray, List.set_cons_zero, List.set_cons_succ]
    refine takeG (some 31) (i := 22) (v := undef) rfl rfl (by kernel_rfl) (by kernel_rfl) (by kernel_rfl) (fun _ _ _ h => h) (Or.inr ⟨by rfl, rfl⟩) hS0 ?_
    try simp only [Act.put, List.setIfInBounds_toArray, List.set_cons_zero, List.set_cons_succ]
    refine takeG (some 32) (i := 23) (v := ?va23) rfl rfl (by kernel_rfl) (by kernel_rfl) (by kernel_rfl) (fun _ _ _ h => h) (Or.inl ⟨by rfl, ?ha23⟩) hS0 ?ra23
    case ha23 => (intro w _; go_simp; try (with_reducible rfl))
    try simp only [Act.put, List.setIfInBounds_toArray, List.set_cons_zero, List.set_cons_succ]
    refine takeG (some 8) (i := 24) (v := ?va24) rfl rfl (by kernel_rfl) (by kernel_rfl) (by kernel_rfl) (fun _ _ _ h => h) (Or.inl ⟨by rfl, ?ha24⟩) hS0 ?ra24
    case ha24 => (intro w _; go_simp; try (with_reducible rfl))
    try simp only [Act.put, List.setIfInBounds_toArray, List.set_cons_zero, List.set_cons_succ]
    refine wpAnyH_done (by kernel_rfl) ?_ _
    go_wp2_with fail
    go_ret
    exact ⟨ret_b HV.out, HB.out _ kd⟩
  | true =>
  cases hsd : soundTo h h.length with
  | false =>
    have HSD := Lib.hid hsd
    have HV : Hid (false = holdsB h lv l V) := Lib.hid (by rw [HR.out, hsd]; rfl)
    clear hsd
    clear HR
    refine wp_region_held_drew (S := fun wx => OrdB wx B h ∧ RelAt wx w.heap.size 37 V) (by kernel_rfl) (HS.out _ kd) (fun hS0 => ?_)
    refine takeG (some 9) (i := 0) (v := ?vb0) rfl rfl (by kernel_rfl) (by kernel_rfl) (by kernel_rfl) (fun _ _ _ h => h) (Or.inl ⟨by rfl, ?hb0⟩) hS0 ?rb0
    case hb0 => (intro w _; go_simp; try (with_reducible rfl))
    try simp only [Act.put, List.setIfInBounds_toArray, List.set_cons_zero, List.set_cons_succ]
    refine wpAnyH_ready (rs := [1]) (by kernel_rfl) (by simp) ?_
    refine AllReadyH.cons rfl (fun K hK => ?_) AllReadyH.nil
    go_simp
    refine (CI.out _).mono ?_
    rintro e q1 ⟨rfl, rfl⟩
    show K _ _
    refine hK.out _ _ hS0 (fun _ => ?_)
    clear hK K
    refine takeG (some 11) (i := 2) (v := ?vb2) rfl rfl (by kernel_rfl) (by kernel_rfl) (by kernel_rfl) (fun _ _ _ h => h) (Or.inl ⟨by rfl, ?hb2⟩) hS0 ?rb2
    case hb2 => (intro w _; go_simp; try (with_reducible rfl))
    try simp only [Act.put, List.setIfInBounds_toArray, List.set_cons_zero, List.set_cons_succ]
    refine takeG (some 12) (i := 3) (v := ?vb3) rfl rfl (by kernel_rfl) (by kernel_rfl) (by kernel_rfl) (fun _ _ _ h => h) (Or.inl ⟨by rfl, ?hb3⟩) hS0 ?rb3
    case hb3 => (intro w hw; have hn := hw.1.cS; rw [HSD.out] at hn; have hm := hw.1.cN; go_simp; try (with_reducible rfl))
    try simp only [Act.put, List.setIfInBounds_toArray, List.set_cons_zero, List.set_cons_succ]
    refine takeG (some 13) (i := 4) (v := ?vb4) rfl rfl (by kernel_rfl) (by kernel_rfl) (by kernel_rfl) (fun _ _ _ h => h) (Or.inl ⟨by rfl, ?hb4⟩) hS0 ?rb4
    case hb4 => (intro w hw; have hn := hw.1.cS; rw [HSD.out] at hn; have hm := hw.1.cN; go_simp; try (with_reducible rfl))
    try simp only [Act.put, List.setIfInBounds_toArray, List.set_cons_zero, List.set_cons_succ]
    refine takeG (some 14) (i := 5) (v := ?vb5) rfl rfl (by kernel_rfl) (by kernel_rfl) (by kernel_rfl) (fun _ _ _ h => h) (Or.inl ⟨by rfl, ?hb5⟩) hS0 ?rb5
    case hb5 => (intro w hw; have hn := hw.1.cS; rw [HSD.out] at hn; have hm := hw.1.cN; go_simp; try (with_reducible rfl))
    try simp only [Act.put, List.setIfInBounds_toArray, List.set_cons_zero, List.set_cons_succ]
    refine takeG (some 15) (i := 6) (v := ?vb6) rfl rfl (by kernel_rfl) (by kernel_rfl) (by kernel_rfl) (fun _ _ _ h => h) (Or.inl ⟨by rfl, ?hb6⟩) hS0 ?rb6
    case hb6 => (intro w hw; have hn := hw.1.cS; rw [HSD.out] at hn; have hm := hw.1.cN; go_simp; try (with_reducible rfl))
    try simp only [Act.put, List.setIfInBounds_toArray, List.set_cons_zero, List.set_cons_succ]
    refine takeG (some 16) (i := 7) (v := ?vb7) rfl rfl (by kernel_rfl) (by kernel_rfl) (by kernel_rfl) (fun _ _ _ h => h) (Or.inl ⟨by rfl, ?hb7⟩) hS0 ?rb7
    case hb7 => (intro w _; go_simp; try (with_reducible rfl))
    try simp only [Act.put, List.setIfInBounds_toArray, List.set_cons_zero, List.set_cons_succ]
    refine takeG (some 17) (i := 8) (v := ?vb8) rfl rfl (by kernel_rfl) (by kernel_rfl) (by kernel_rfl) (fun _ _ _ h => h) (Or.inl ⟨by rfl, ?hb8⟩) hS0 ?rb8
    case hb8 => (intro w _; go_simp; try (with_reducible rfl))
    try simp only [Act.put, List.setIfInBounds_toArray, List.set_cons_zero, List.set_cons_succ]
    refine takeG (some 18) (i := 9) (v := undef) rfl rfl (by kernel_rfl) (by kernel_rfl) (by kernel_rfl) (fun _ _ _ h => h) (Or.inr ⟨by rfl, rfl⟩) hS0 ?_
    try simp only [Act.put, List.setIfInBounds_toArray, List.set_cons_zero, List.set_cons_succ]
    refine takeG (some 19) (i := 10) (v := undef) rfl rfl (by kernel_rfl) (by kernel_rfl) (by kernel_rfl) (fun _ _ _ h => h) (Or.inr ⟨by rfl, rfl⟩) hS0 ?_
    try simp only [Act.put, List.setIfInBounds_toArray, List.set_cons_zero, List.set_cons_succ]
    refine takeG (some 20) (i := 11) (v := undef) rfl rfl (by kernel_rfl) (by kernel_rfl) (by kernel_rfl) (fun _ _ _ h => h) (Or.inr ⟨by rfl, rfl⟩) hS0 ?_
    try simp only [Act.put, List.setIfInBounds_toArray, List.set_cons_zero, List.set_cons_succ]
    refine takeG (some 21) (i := 12) (v := undef) rfl rfl (by kernel_rfl) (by kernel_rfl) (by kernel_rfl) (fun _ _ _ h => h) (Or.inr ⟨by rfl, rfl⟩) hS0 ?_
    try simp only [Act.put, List.setIfInBounds_toArray, List.set_cons_zero, List.set_cons_succ]
    refine takeG (some 22) (i := 13) (v := ?vb13) rfl rfl (by kernel_rfl) (by kernel_rfl) (by kernel_rfl) (fun _ _ _ h => h) (Or.inl ⟨by rfl, ?hb13⟩) hS0 ?rb13
    case hb13 => (intro w _; go_simp; try (with_reducible rfl))
    try simp only [Act.put, List.setIfInBounds_toArray, List.set_cons_zero, List.set_cons_succ]
    refine takeG (some 23) (i := 14) (v := ?vb14) rfl rfl (by kernel_rfl) (by kernel_rfl) (by kernel_rfl) (fun _ _ _ h => h) (Or.inl ⟨by rfl, ?hb14⟩) hS0 ?rb14
    case hb14 => (intro w _; go_simp; try (with_reducible rfl))
    try simp only [Act.put, List.setIfInBounds_toArray, List.set_cons_zero, List.set_cons_succ]
    refine takeG (some 24) (i := 15) (v := undef) rfl rfl (by kernel_rfl) (by kernel_rfl) (by kernel_rfl) (fun _ _ _ h => h) (Or.inr ⟨by rfl, rfl⟩) hS0 ?_
    try simp only [Act.put, List.setIfInBounds_toArray, List.set_cons_zero, List.set_cons_succ]
    refine takeG (some 25) (i := 16) (v := undef) rfl rfl (by kernel_rfl) (by kernel_rfl) (by kernel_rfl) (fun _ _ _ h => h) (Or.inr ⟨by rfl, rfl⟩) hS0 ?_
    try simp only [Act.put, List.setIfInBounds_toArray, List.set_cons_zero, List.set_cons_succ]
    refine takeG (some 26) (i := 17) (v := undef) rfl rfl (by kernel_rfl) (by kernel_rfl) (by kernel_rfl) (fun _ _ _ h => h) (Or.inr ⟨by rfl, rfl⟩) hS0 ?_
    try simp only [Act.put, List.setIfInBounds_toArray, List.set_cons_zero, List.set_cons_succ]
    refine takeG (some 27) (i := 18) (v := undef) rfl rfl (by kernel_rfl) (by kernel_rfl) (by kernel_rfl) (fun _ _ _ h => h) (Or.inr ⟨by rfl, rfl⟩) hS0 ?_
    try simp only [Act.put, List.setIfInBounds_toArray, List.set_cons_zero, List.set_cons_succ]
    refine takeG (some 28) (i := 19) (v := undef) rfl rfl (by kernel_rfl) (by kernel_rfl) (by kernel_rfl) (fun _ _ _ h => h) (Or.inr ⟨by rfl, rfl⟩) hS0 ?_
    try simp only [Act.put, List.setIfInBounds_toArray, List.set_cons_zero, List.set_cons_succ]
    refine takeG (some 29) (i := 20) (v := undef) rfl rfl (by kernel_rfl) (by kernel_rfl) (by kernel_rfl) (fun _ _ _ h => h) (Or.inr ⟨by rfl, rfl⟩) hS0 ?_
    try simp only [Act.put, List.setIfInBounds_toArray, List.set_cons_zero, List.set_cons_succ]
    refine takeG (some 30) (i := 21) (v := undef) rfl rfl (by kernel_rfl) (by kernel_rfl) (by kernel_rfl) (fun _ _ _ h => h) (Or.inr ⟨by rfl, rfl⟩) hS0 ?_
    try simp only [Act.put, List.setIfInBounds_toArray, List.set_cons_zero, List.set_cons_succ]
    refine takeG (some 31) (i := 22) (v := undef) rfl rfl (by kernel_rfl) (by kernel_rfl) (by kernel_rfl) (fun _ _ _ h => h) (Or.inr ⟨by rfl, rfl⟩) hS0 ?_
    try simp only [Act.put, List.setIfInBounds_toArray, List.set_cons_zero, List.set_cons_succ]
    refine takeG (some 32) (i := 23) (v := ?vb23) rfl rfl (by kernel_rfl) (by kernel_rfl) (by kernel_rfl) (fun _ _ _ h => h) (Or.inl ⟨by rfl, ?hb23⟩) hS0 ?rb23
    case hb23 => (intro w _; go_simp; try (with_reducible rfl))
    try simp only [Act.put, List.setIfInBounds_toArray, List.set_cons_zero, List.set_cons_succ]
    refine takeG (some 8) (i := 24) (v := ?vb24) rfl rfl (by kernel_rfl) (by kernel_rfl) (by kernel_rfl) (fun _ _ _ h => h) (Or.inl ⟨by rfl, ?hb24⟩) hS0 ?rb24
    case hb24 => (intro w _; go_simp; try (with_reducible rfl))
    try simp only [Act.put, List.setIfInBounds_toArray, List.set_cons_zero, List.set_cons_succ]
    refine wpAnyH_done (by kernel_rfl) ?_ _
    go_wp2_with fail
    go_ret
    exact ⟨ret_b HV.out, HB.out _ kd⟩
  | true =>
  have HSD := Lib.hid hsd
  cases rt with
  | false =>
    have HV : Hid (false = holdsB h lv l V) := Lib.hid (by rw [HR.out, hsd]; rfl)
    clear hsd
    clear HR
    refine wp_region_held_drew (S := fun wx => OrdB wx B h ∧ RelAt wx w.heap.size 37 V) (by kernel_rfl) (HS.out _ kd) (fun hS0 => ?_)
    refine takeG (some 9) (i := 0) (v := ?vc0) rfl rfl (by kernel_rfl) (by kernel_rfl) (by kernel_rfl) (fun _ _ _ h => h) (Or.inl ⟨by rfl, ?hc0⟩) hS0 ?rc0
    case hc0 => (intro w _; go_simp; try (with_reducible rfl))
    try simp only [Act.put, List.setIfInBounds_toArray, List.set_cons_zero, List.set_cons_succ]
    refine wpAnyH_ready (rs := [1]) (by kernel_rfl) (by simp) ?_
    refine AllReadyH.cons rfl (fun K hK => ?_) AllReadyH.nil
    go_simp
    refine (CI.out _).mono ?_
    rintro e q1 ⟨rfl, rfl⟩
    show K _ _
    refine hK.out _ _ hS0 (fun _ => ?_)
    clear hK K
    refine takeG (some 11) (i := 2) (v := ?vc2) rfl rfl (by kernel_rfl) (by kernel_rfl) (by kernel_rfl) (fun _ _ _ h => h) (Or.inl ⟨by rfl, ?hc2⟩) hS0 ?rc2
    case hc2 => (intro w _; go_simp; try (with_reducible rfl))
    try simp only [Act.put, List.setIfInBounds_toArray, List.set_cons_zero, List.set_cons_succ]
    refine takeG (some 12) (i := 3) (v := ?vc3) rfl rfl (by kernel_rfl) (by kernel_rfl) (by kernel_rfl) (fun _ _ _ h => h) (Or.inl ⟨by rfl, ?hc3⟩) hS0 ?rc3
    case hc3 => (intro w hw; have hn := hw.1.cS; rw [HSD.out] at hn; have hm := hw.1.cN; go_simp; try (with_reducible rfl))
    try simp only [Act.put, List.setIfInBounds_toArray, List.set_cons_zero, List.set_cons_succ]
    refine takeG (some 13) (i := 4) (v := ?vc4) rfl rfl (by kernel_rfl) (by kernel_rfl) (by kernel_rfl) (fun _ _ _ h => h) (Or.inl ⟨by rfl, ?hc4⟩) hS0 ?rc4
    case hc4 => (intro w hw; have hn := hw.1.cS; rw [HSD.out] at hn; have hm := hw.1.cN; go_simp; try (with_reducible rfl))
    try simp only [Act.put, List.setIfInBounds_toArray, List.set_cons_zero, List.set_cons_succ]
    refine takeG (some 14) (i := 5) (v := ?vc5) rfl rfl (by kernel_rfl) (by kernel_rfl) (by kernel_rfl) (fun _ _ _ h => h) (Or.inl ⟨by rfl, ?hc5⟩) hS0 ?rc5
    case hc5 => (intro w hw; have hn := hw.1.cS; rw [HSD.out] at hn; have hm := hw.1.cN; go_simp; try (with_reducible rfl))
    try simp only [Act.put, List.setIfInBounds_toArray, List.set_cons_zero, List.set_cons_succ]
    refine takeG (some 15) (i := 6) (v := ?vc6) rfl rfl (by kernel_rfl) (by kernel_rfl) (by kernel_rfl) (fun _ _ _ h => h) (Or.inl ⟨by rfl, ?hc6⟩) hS0 ?rc6
    case hc6 => (intro w hw; have hn := hw.1.cS; rw [HSD.out] at hn; have hm := hw.1.cN; go_simp; try (with_reducible rfl))
    try simp only [Act.put, List.setIfInBounds_toArray, List.set_cons_zero, List.set_cons_succ]
    refine takeG (some 16) (i := 7) (v := ?vc7) rfl rfl (by kernel_rfl) (by kernel_rfl) (by kernel_rfl) (fun _ _ _ h => h) (Or.inl ⟨by rfl, ?hc7⟩) hS0 ?rc7
    case hc7 => (intro w _; go_simp; try (with_reducible rfl))
    try simp only [Act.put, List.setIfInBounds_toArray, List.set_cons_zero, List.set_cons_succ]
    refine takeG (some 17) (i := 8) (v := ?vc8) rfl rfl (by kernel_rfl) (by kernel_rfl) (by kernel_rfl) (fun _ _ _ h => h) (Or.inl ⟨by rfl, ?hc8⟩) hS0 ?rc8
    case hc8 => (intro w _; go_simp; try (with_reducible rfl))
    try simp only [Act.put, List.setIfInBounds_toArray, List.set_cons_zero, List.set_cons_succ]
    refine takeG (some 18) (i := 9) (v := ?vc9) rfl rfl (by kernel_rfl) (by kernel_rfl) (by kernel_rfl) (fun _ _ _ h => h) (Or.inl ⟨by rfl, ?hc9⟩) hS0 ?rc9
    case hc9 => (intro w _; go_simp; try (with_reducible rfl))
    try simp only [Act.put, List.setIfInBounds_toArray, List.set_cons_zero, List.set_cons_succ]
    refine takeG (some 19) (i := 10) (v := ?vc10) rfl rfl (by kernel_rfl) (by kernel_rfl) (by kernel_rfl) (fun _ _ _ h => h) (Or.inl ⟨by rfl, ?hc10⟩) hS0 ?rc10
    case hc10 => (intro w _; go_simp; try (with_reducible rfl))
    try simp only [Act.put, List.setIfInBounds_toArray, List.set_cons_zero, List.set_cons_succ]
    refine takeG (some 20) (i := 11) (v := _) rfl rfl (by kernel_rfl) (by kernel_rfl) (by kernel_rfl) (fun _ _ _ h => h) (yields_rel (by rfl) _ rfl rfl (fun wx hx => hx.2)) hS0 ?_
    try simp only [Act.put, List.setIfInBounds_toArray, List.set_cons_zero, List.set_cons_succ]
    refine wpAnyH_ready (rs := [12]) (by kernel_rfl) (by simp) ?_
    refine AllReadyH.cons rfl (fun K hK => ?_) AllReadyH.nil
    go_simp
    refine (CR.out _ kd).mono ?_
    rintro e q2 ⟨rfl, hq2⟩
    show K _ _
    have k2 := below_then kd hq2
    have s2 := HS.out _ k2
    refine hK.out _ _ s2 (fun _ => ?_)
    clear hK K
    refine takeG (some 22) (i := 13) (v := ?vc13) rfl rfl (by kernel_rfl) (by kernel_rfl) (by kernel_rfl) (fun _ _ _ h => h) (Or.inl ⟨by rfl, ?hc13⟩) s2 ?rc13
    case hc13 => (intro w _; go_simp; try (with_reducible rfl))
    try simp only [Act.put, List.setIfInBounds_toArray, List.set_cons_zero, List.set_cons_succ]
    refine takeG (some 23) (i := 14) (v := ?vc14) rfl rfl (by kernel_rfl) (by kernel_rfl) (by kernel_rfl) (fun _ _ _ h => h) (Or.inl ⟨by rfl, ?hc14⟩) s2 ?rc14
    case hc14 => (intro w _; go_simp; try (with_reducible rfl))
    try simp only [Act.put, List.setIfInBounds_toArray, List.set_cons_zero, List.set_cons_succ]
    refine takeG (some 24) (i := 15) (v := undef) rfl rfl (by kernel_rfl) (by kernel_rfl) (by kernel_rfl) (fun _ _ _ h => h) (Or.inr ⟨by rfl, rfl⟩) s2 ?_
    try simp only [Act.put, List.setIfInBounds_toArray, List.set_cons_zero, List.set_cons_succ]
    refine takeG (some 25) (i := 16) (v := undef) rfl rfl (by kernel_rfl) (by kernel_rfl) (by kernel_rfl) (fun _ _ _ h => h) (Or.inr ⟨by rfl, rfl⟩) s2 ?_
    try simp only [Act.put, List.setIfInBounds_toArray, List.set_cons_zero, List.set_cons_succ]
    refine takeG (some 26) (i := 17) (v := undef) rfl rfl (by kernel_rfl) (by kernel_rfl) (by kernel_rfl) (fun _ _ _ h => h) (Or.inr ⟨by rfl, rfl⟩) s2 ?_
    try simp only [Act.put, List.setIfInBounds_toArray, List.set_cons_zero, List.set_cons_succ]
    refine takeG (some 27) (i := 18) (v := undef) rfl rfl (by kernel_rfl) (by kernel_rfl) (by kernel_rfl) (fun _ _ _ h => h) (Or.inr ⟨by rfl, rfl⟩) s2 ?_
    try simp only [Act.put, List.setIfInBounds_toArray, List.set_cons_zero, List.set_cons_succ]
    refine takeG (some 28) (i := 19) (v := undef) rfl rfl (by kernel_rfl) (by kernel_rfl) (by kernel_rfl) (fun _ _ _ h => h) (Or.inr ⟨by rfl, rfl⟩) s2 ?_
    try simp only [Act.put, List.setIfInBounds_toArray, List.set_cons_zero, List.set_cons_succ]
    refine takeG (some 29) (i := 20) (v := undef) rfl rfl (by kernel_rfl) (by kernel_rfl) (by kernel_rfl) (fun _ _ _ h => h) (Or.inr ⟨by rfl, rfl⟩) s2 ?_
    try simp only [Act.put, List.setIfInBounds_toArray, List.set_cons_zero, List.set_cons_succ]
    refine takeG (some 30) (i := 21) (v := undef) rfl rfl (by kernel_rfl) (by kernel_rfl) (by kernel_rfl) (fun _ _ _ h => h) (Or.inr ⟨by rfl, rfl⟩) s2 ?_
    try simp only [Act.put, List.setIfInBounds_toArray, List.set_cons_zero, List.set_cons_succ]
    refine takeG (some 31) (i := 22) (v := undef) rfl rfl (by kernel_rfl) (by kernel_rfl) (by kernel_rfl) (fun _ _ _ h => h) (Or.inr ⟨by rfl, rfl⟩) s2 ?_
    try simp only [Act.put, List.setIfInBounds_toArray, List.set_cons_zero, List.set_cons_succ]
    refine takeG (some 32) (i := 23) (v := ?vc23) rfl rfl (by kernel_rfl) (by kernel_rfl) (by kernel_rfl) (fun _ _ _ h => h) (Or.inl ⟨by rfl, ?hc23⟩) s2 ?rc23
    case hc23 => (intro w _; go_simp; try (with_reducible rfl))
    try simp only [Act.put, List.setIfInBounds_toArray, List.set_cons_zero, List.set_cons_succ]
    refine takeG (some 8) (i := 24) (v := ?vc24) rfl rfl (by kernel_rfl) (by kernel_rfl) (by kernel_rfl) (fun _ _ _ h => h) (Or.inl ⟨by rfl, ?hc24⟩) s2 ?rc24
    case hc24 => (intro w _; go_simp; try (with_reducible rfl))
    try simp only [Act.put, List.setIfInBounds_toArray, List.set_cons_zero, List.set_cons_succ]
    refine wpAnyH_done (by kernel_rfl) ?_ _
    go_wp2_with fail
    go_ret
    exact ⟨ret_b HV.out, HB.out _ k2⟩
  | true =>
  by_cases h0 : lackN na nk = 0
  · have HV : Hid (true = holdsB h lv l V) := Lib.hid (by rw [HR.out, hsd, decide_eq_true h0]; rfl)
    have hlk : bits .andNot .i64 (na : Int) (nk : Int) = 0 := by rw [HLK.out]; exact congrArg Nat.cast h0
    clear HR h0 hsd
    refine wp_region_held_drew (S := fun wx => OrdB wx B h ∧ RelAt wx w.heap.size 37 V) (by kernel_rfl) (HS.out _ kd) (fun hS0 => ?_)
    refine takeG (some 9) (i := 0) (v := ?vd0) rfl rfl (by kernel_rfl) (by kernel_rfl) (by kernel_rfl) (fun _ _ _ h => h) (Or.inl ⟨by rfl, ?hd0⟩) hS0 ?rd0
    case hd0 => (intro w _; go_simp; try (with_reducible rfl))
    try simp only [Act.put, List.setIfInBounds_toArray, List.set_cons_zero, List.set_cons_succ]
    refine wpAnyH_ready (rs := [1]) (by kernel_rfl) (by simp) ?_
    refine AllReadyH.cons rfl (fun K hK => ?_) AllReadyH.nil
    go_simp
    refine (CI.out _).mono ?_
    rintro e q1 ⟨rfl, rfl⟩
    show K _ _
    refine hK.out _ _ hS0 (fun _ => ?_)
    clear hK K
    refine takeG (some 11) (i := 2) (v := ?vd2) rfl rfl (by kernel_rfl) (by kernel_rfl) (by kernel_rfl) (fun _ _ _ h => h) (Or.inl ⟨by rfl, ?hd2⟩) hS0 ?rd2
    case hd2 => (intro w _; go_simp; try (with_reducible rfl))
    try simp only [Act.put, List.setIfInBounds_toArray, List.set_cons_zero, List.set_cons_succ]
    refine takeG (some 12) (i := 3) (v := ?vd3) rfl rfl (by kernel_rfl) (by kernel_rfl) (by kernel_rfl) (fun _ _ _ h => h) (Or.inl ⟨by rfl, ?hd3⟩) hS0 ?rd3
    case hd3 => (intro w hw; have hn := hw.1.cS; rw [HSD.out] at hn; have hm := hw.1.cN; go_simp; try (with_reducible rfl))
    try simp only [Act.put, List.setIfInBounds_toArray, List.set_cons_zero, List.set_cons_succ]
    refine takeG (some 13) (i := 4) (v := ?vd4) rfl rfl (by kernel_rfl) (by kernel_rfl) (by kernel_rfl) (fun _ _ _ h => h) (Or.inl ⟨by rfl, ?hd4⟩) hS0 ?rd4
    case hd4 => (intro w hw; have hn := hw.1.cS; rw [HSD.out] at hn; have hm := hw.1.cN; go_simp; try (with_reducible rfl))
    try simp only [Act.put, List.setIfInBounds_toArray, List.set_cons_zero, List.set_cons_succ]
    refine takeG (some 14) (i := 5) (v := ?vd5) rfl rfl (by kernel_rfl) (by kernel_rfl) (by kernel_rfl) (fun _ _ _ h => h) (Or.inl ⟨by rfl, ?hd5⟩) hS0 ?rd5
    case hd5 => (intro w hw; have hn := hw.1.cS; rw [HSD.out] at hn; have hm := hw.1.cN; go_simp; try (with_reducible rfl))
    try simp only [Act.put, List.setIfInBounds_toArray, List.set_cons_zero, List.set_cons_succ]
    refine takeG (some 15) (i := 6) (v := ?vd6) rfl rfl (by kernel_rfl) (by kernel_rfl) (by kernel_rfl) (fun _ _ _ h => h) (Or.inl ⟨by rfl, ?hd6⟩) hS0 ?rd6
    case hd6 => (intro w hw; have hn := hw.1.cS; rw [HSD.out] at hn; have hm := hw.1.cN; go_simp; try (with_reducible rfl))
    try simp only [Act.put, List.setIfInBounds_toArray, List.set_cons_zero, List.set_cons_succ]
    refine takeG (some 16) (i := 7) (v := ?vd7) rfl rfl (by kernel_rfl) (by kernel_rfl) (by kernel_rfl) (fun _ _ _ h => h) (Or.inl ⟨by rfl, ?hd7⟩) hS0 ?rd7
    case hd7 => (intro w _; go_simp; try (with_reducible rfl))
    try simp only [Act.put, List.setIfInBounds_toArray, List.set_cons_zero, List.set_cons_succ]
    refine takeG (some 17) (i := 8) (v := ?vd8) rfl rfl (by kernel_rfl) (by kernel_rfl) (by kernel_rfl) (fun _ _ _ h => h) (Or.inl ⟨by rfl, ?hd8⟩) hS0 ?rd8
    case hd8 => (intro w _; go_simp; try (with_reducible rfl))
    try simp only [Act.put, List.setIfInBounds_toArray, List.set_cons_zero, List.set_cons_succ]
    refine takeG (some 18) (i := 9) (v := ?vd9) rfl rfl (by kernel_rfl) (by kernel_rfl) (by kernel_rfl) (fun _ _ _ h => h) (Or.inl ⟨by rfl, ?hd9⟩) hS0 ?rd9
    case hd9 => (intro w _; go_simp; try (with_reducible rfl))
    try simp only [Act.put, List.setIfInBounds_toArray, List.set_cons_zero, List.set_cons_succ]
    refine takeG (some 19) (i := 10) (v := ?vd10) rfl rfl (by kernel_rfl) (by kernel_rfl) (by kernel_rfl) (fun _ _ _ h => h) (Or.inl ⟨by rfl, ?hd10⟩) hS0 ?rd10
    case hd10 => (intro w _; go_simp; try (with_reducible rfl))
    try simp only [Act.put, List.setIfInBounds_toArray, List.set_cons_zero, List.set_cons_succ]
    refine takeG (some 20) (i := 11) (v := _) rfl rfl (by kernel_rfl) (by kernel_rfl) (by kernel_rfl) (fun _ _ _ h => h) (yields_rel (by rfl) _ rfl rfl (fun wx hx => hx.2)) hS0 ?_
    try simp only [Act.put, List.setIfInBounds_toArray, List.set_cons_zero, List.set_cons_succ]
    refine wpAnyH_ready (rs := [12]) (by kernel_rfl) (by simp) ?_
    refine AllReadyH.cons rfl (fun K hK => ?_) AllReadyH.nil
    go_simp
    refine (CR.out _ kd).mono ?_
    rintro e q2 ⟨rfl, hq2⟩
    show K _ _
    have k2 := below_then kd hq2
    have s2 := HS.out _ k2
    refine hK.out _ _ s2 (fun _ => ?_)
    clear hK K
    refine takeG (some 22) (i := 13) (v := ?vd13) rfl rfl (by kernel_rfl) (by kernel_rfl) (by kernel_rfl) (fun _ _ _ h => h) (Or.inl ⟨by rfl, ?hd13⟩) s2 ?rd13
    case hd13 => (intro w _; go_simp; try (with_reducible rfl))
    try simp only [Act.put, List.setIfInBounds_toArray, List.set_cons_zero, List.set_cons_succ]
    refine takeG (some 23) (i := 14) (v := ?vd14) rfl rfl (by kernel_rfl) (by kernel_rfl) (by kernel_rfl) (fun _ _ _ h => h) (Or.inl ⟨by rfl, ?hd14⟩) s2 ?rd14
    case hd14 => (intro w _; go_simp; try (with_reducible rfl))
    try simp only [Act.put, List.setIfInBounds_toArray, List.set_cons_zero, List.set_cons_succ]
    refine takeG (some 24) (i := 15) (v := ?vd15) rfl rfl (by kernel_rfl) (by kernel_rfl) (by kernel_rfl) (fun _ _ _ h => h) (Or.inl ⟨by rfl, ?hd15⟩) s2 ?rd15
    case hd15 => (intro w _; go_simp; try (with_reducible rfl))
    try simp only [Act.put, List.setIfInBounds_toArray, List.set_cons_zero, List.set_cons_succ]
    refine takeG (some 26) (i := 17) (v := ?vd17) rfl rfl (by kernel_rfl) (by kernel_rfl) (by kernel_rfl) (fun _ _ _ h => h) (Or.inl ⟨by rfl, ?hd17⟩) s2 ?rd17
    case hd17 => (intro w _; go_simp; try (with_reducible rfl))
    try simp only [Act.put, List.setIfInBounds_toArray, List.set_cons_zero, List.set_cons_succ]
    refine takeG (some 27) (i := 18) (v := ?vd18) rfl rfl (by kernel_rfl) (by kernel_rfl) (by kernel_rfl) (fun _ _ _ h => h) (Or.inl ⟨by rfl, ?hd18⟩) s2 ?rd18
    case hd18 => (intro w _; go_simp; try (with_reducible rfl))
    try simp only [Act.put, List.setIfInBounds_toArray, List.set_cons_zero, List.set_cons_succ]
    refine takeG (some 28) (i := 19) (v := _) rfl rfl (by kernel_rfl) (by kernel_rfl) (by kernel_rfl) (fun _ _ _ h => h) (yields_rel (by rfl) _ rfl rfl (fun wx hx => hx.2)) s2 ?_
    try simp only [Act.put, List.setIfInBounds_toArray, List.set_cons_zero, List.set_cons_succ]
    refine wpAnyH_ready (rs := [16]) (by kernel_rfl) (by simp) ?_
    refine AllReadyH.cons rfl (fun K hK => ?_) AllReadyH.nil
    go_simp
    refine (CA.out _ k2).mono ?_
    rintro e q3 ⟨rfl, rfl⟩
    show K _ _
    refine hK.out _ _ s2 (fun _ => ?_)
    clear hK K
    refine wpAnyH_ready (rs := [20]) (by kernel_rfl) (by simp) ?_
    refine AllReadyH.cons rfl (fun K hK => ?_) AllReadyH.nil
    go_simp
    refine (CK.out _ k2).mono ?_
    rintro e q4 ⟨rfl, hq4⟩
    show K _ _
    have k4 := below_then k2 hq4
    have s4 := HS.out _ k4
    refine hK.out _ _ s4 (fun _ => ?_)
    clear hK K
    refine takeG (some 30) (i := 21) (v := ?vd21) rfl rfl (by kernel_rfl) (by kernel_rfl) (by kernel_rfl) (fun _ _ _ h => h) (Or.inl ⟨by rfl, ?hd21⟩) s4 ?rd21
    case hd21 => (intro w _; go_simp; try (with_reducible rfl))
    try simp only [Act.put, List.setIfInBounds_toArray, List.set_cons_zero, List.set_cons_succ]
    refine takeG (some 31) (i := 22) (v := ?vd22) rfl rfl (by kernel_rfl) (by kernel_rfl) (by kernel_rfl) (fun _ _ _ h => h) (Or.inl ⟨by rfl, ?hd22⟩) s4 ?rd22
    case hd22 => (intro w _; go_simp; try (with_reducible rfl))
    try simp only [Act.put, List.setIfInBounds_toArray, List.set_cons_zero, List.set_cons_succ]
    refine takeG (some 32) (i := 23) (v := ?vd23) rfl rfl (by kernel_rfl) (by kernel_rfl) (by kernel_rfl) (fun _ _ _ h => h) (Or.inl ⟨by rfl, ?hd23⟩) s4 ?rd23
    case hd23 => (intro w _; go_simp; try (with_reducible rfl))
    try simp only [Act.put, List.setIfInBounds_toArray, List.set_cons_zero, List.set_cons_succ]
    refine takeG (some 8) (i := 24) (v := ?vd24) rfl rfl (by kernel_rfl) (by kernel_rfl) (by kernel_rfl) (fun _ _ _ h => h) (Or.inl ⟨by rfl, ?hd24⟩) s4 ?rd24
    case hd24 => (intro w _; go_simp; try (with_reducible rfl))
    try simp only [Act.put, List.setIfInBounds_toArray, List.set_cons_zero, List.set_cons_succ]
    refine wpAnyH_done (by kernel_rfl) ?_ _
    go_wp2_with fail
    go_ret
    exact ⟨ret_b HV.out, HB.out _ k4⟩
  · have HV : Hid (false = holdsB h lv l V) := Lib.hid (by rw [HR.out, hsd, decide_eq_false h0]; rfl)
    obtain ⟨z, hz⟩ : ∃ z, z = lackN na nk := ⟨_, rfl⟩
    have hlk : bits .andNot .i64 (na : Int) (nk : Int) = (z : Int) := by rw [HLK.out, hz]; rfl
    have hz0 : ¬ (z : Int) = 0 := by rw [hz]; omega
    clear HR h0 hz hsd
    refine wp_region_held_drew (S := fun wx => OrdB wx B h ∧ RelAt wx w.heap.size 37 V) (by kernel_rfl) (HS.out _ kd) (fun hS0 => ?_)
    refine takeG (some 9) (i := 0) (v := ?ve0) rfl rfl (by kernel_rfl) (by kernel_rfl) (by kernel_rfl) (fun _ _ _ h => h) (Or.inl ⟨by rfl, ?he0⟩) hS0 ?re0
    case he0 => (intro w _; go_simp; try (with_reducible rfl))
    try simp only [Act.put, List.setIfInBounds_toArray, List.set_cons_zero, List.set_cons_succ]
    refine wpAnyH_ready (rs := [1]) (by kernel_rfl) (by simp) ?_
    refine AllReadyH.cons rfl (fun K hK => ?_) AllReadyH.nil
    go_simp
    refine (CI.out _).mono ?_
    rintro e q1 ⟨rfl, rfl⟩
    show K _ _
    refine hK.out _ _ hS0 (fun _ => ?_)
    clear hK K
    refine takeG (some 11) (i := 2) (v := ?ve2) rfl rfl (by kernel_rfl) (by kernel_rfl) (by kernel_rfl) (fun _ _ _ h => h) (Or.inl ⟨by rfl, ?he2⟩) hS0 ?re2
    case he2 => (intro w _; go_simp; try (with_reducible rfl))
    try simp only [Act.put, List.setIfInBounds_toArray, List.set_cons_zero, List.set_cons_succ]
    refine takeG (some 12) (i := 3) (v := ?ve3) rfl rfl (by kernel_rfl) (by kernel_rfl) (by kernel_rfl) (fun _ _ _ h => h) (Or.inl ⟨by rfl, ?he3⟩) hS0 ?re3
    case he3 => (intro w hw; have hn := hw.1.cS; rw [HSD.out] at hn; have hm := hw.1.cN; go_simp; try (with_reducible rfl))
    try simp only [Act.put, List.setIfInBounds_toArray, List.set_cons_zero, List.set_cons_succ]
    refine takeG (some 13) (i := 4) (v := ?ve4) rfl rfl (by kernel_rfl) (by kernel_rfl) (by kernel_rfl) (fun _ _ _ h => h) (Or.inl ⟨by rfl, ?he4⟩) hS0 ?re4
    case he4 => (intro w hw; have hn := hw.1.cS; rw [HSD.out] at hn; have hm := hw.1.cN; go_simp; try (with_reducible rfl))
    try simp only [Act.put, List.setIfInBounds_toArray, List.set_cons_zero, List.set_cons_succ]
    refine takeG (some 14) (i := 5) (v := ?ve5) rfl rfl (by kernel_rfl) (by kernel_rfl) (by kernel_rfl) (fun _ _ _ h => h) (Or.inl ⟨by rfl, ?he5⟩) hS0 ?re5
    case he5 => (intro w hw; have hn := hw.1.cS; rw [HSD.out] at hn; have hm := hw.1.cN; go_simp; try (with_reducible rfl))
    try simp only [Act.put, List.setIfInBounds_toArray, List.set_cons_zero, List.set_cons_succ]
    refine takeG (some 15) (i := 6) (v := ?ve6) rfl rfl (by kernel_rfl) (by kernel_rfl) (by kernel_rfl) (fun _ _ _ h => h) (Or.inl ⟨by rfl, ?he6⟩) hS0 ?re6
    case he6 => (intro w hw; have hn := hw.1.cS; rw [HSD.out] at hn; have hm := hw.1.cN; go_simp; try (with_reducible rfl))
    try simp only [Act.put, List.setIfInBounds_toArray, List.set_cons_zero, List.set_cons_succ]
    refine takeG (some 16) (i := 7) (v := ?ve7) rfl rfl (by kernel_rfl) (by kernel_rfl) (by kernel_rfl) (fun _ _ _ h => h) (Or.inl ⟨by rfl, ?he7⟩) hS0 ?re7
    case he7 => (intro w _; go_simp; try (with_reducible rfl))
    try simp only [Act.put, List.setIfInBounds_toArray, List.set_cons_zero, List.set_cons_succ]
    refine takeG (some 17) (i := 8) (v := ?ve8) rfl rfl (by kernel_rfl) (by kernel_rfl) (by kernel_rfl) (fun _ _ _ h => h) (Or.inl ⟨by rfl, ?he8⟩) hS0 ?re8
    case he8 => (intro w _; go_simp; try (with_reducible rfl))
    try simp only [Act.put, List.setIfInBounds_toArray, List.set_cons_zero, List.set_cons_succ]
    refine takeG (some 18) (i := 9) (v := ?ve9) rfl rfl (by kernel_rfl) (by kernel_rfl) (by kernel_rfl) (fun _ _ _ h => h) (Or.inl ⟨by rfl, ?he9⟩) hS0 ?re9
    case he9 => (intro w _; go_simp; try (with_reducible rfl))
    try simp only [Act.put, List.setIfInBounds_toArray, List.set_cons_zero, List.set_cons_succ]
    refine takeG (some 19) (i := 10) (v := ?ve10) rfl rfl (by kernel_rfl) (by kernel_rfl) (by kernel_rfl) (fun _ _ _ h => h) (Or.inl ⟨by rfl, ?he10⟩) hS0 ?re10
    case he10 => (intro w _; go_simp; try (with_reducible rfl))
    try simp only [Act.put, List.setIfInBounds_toArray, List.set_cons_zero, List.set_cons_succ]
    refine takeG (some 20) (i := 11) (v := _) rfl rfl (by kernel_rfl) (by kernel_rfl) (by kernel_rfl) (fun _ _ _ h => h) (yields_rel (by rfl) _ rfl rfl (fun wx hx => hx.2)) hS0 ?_
    try simp only [Act.put, List.setIfInBounds_toArray, List.set_cons_zero, List.set_cons_succ]
    refine wpAnyH_ready (rs := [12]) (by kernel_rfl) (by simp) ?_
    refine AllReadyH.cons rfl (fun K hK => ?_) AllReadyH.nil
    go_simp
    refine (CR.out _ kd).mono ?_
    rintro e q2 ⟨rfl, hq2⟩
    show K _ _
    have k2 := below_then kd hq2
    have s2 := HS.out _ k2
    refine hK.out _ _ s2 (fun _ => ?_)
    clear hK K
    refine takeG (some 22) (i := 13) (v := ?ve13) rfl rfl (by kernel_rfl) (by kernel_rfl) (by kernel_rfl) (fun _ _ _ h => h) (Or.inl ⟨by rfl, ?he13⟩) s2 ?re13
    case he13 => (intro w _; go_simp; try (with_reducible rfl))
    try simp only [Act.put, List.setIfInBounds_toArray, List.set_cons_zero, List.set_cons_succ]
    refine takeG (some 23) (i := 14) (v := ?ve14) rfl rfl (by kernel_rfl) (by kernel_rfl) (by kernel_rfl) (fun _ _ _ h => h) (Or.inl ⟨by rfl, ?he14⟩) s2 ?re14
    case he14 => (intro w _; go_simp; try (with_reducible rfl))
    try simp only [Act.put, List.setIfInBounds_toArray, List.set_cons_zero, List.set_cons_succ]
    refine takeG (some 24) (i := 15) (v := ?ve15) rfl rfl (by kernel_rfl) (by kernel_rfl) (by kernel_rfl) (fun _ _ _ h => h) (Or.inl ⟨by rfl, ?he15⟩) s2 ?re15
    case he15 => (intro w _; go_simp; try (with_reducible rfl))
    try simp only [Act.put, List.setIfInBounds_toArray, List.set_cons_zero, List.set_cons_succ]
    refine takeG (some 26) (i := 17) (v := ?ve17) rfl rfl (by kernel_rfl) (by kernel_rfl) (by kernel_rfl) (fun _ _ _ h => h) (Or.inl ⟨by rfl, ?he17⟩) s2 ?re17
    case he17 => (intro w _; go_simp; try (with_reducible rfl))
    try simp only [Act.put, List.setIfInBounds_toArray, List.set_cons_zero, List.set_cons_succ]
    refine takeG (some 27) (i := 18) (v := ?ve18) rfl rfl (by kernel_rfl) (by kernel_rfl) (by kernel_rfl) (fun _ _ _ h => h) (Or.inl ⟨by rfl, ?he18⟩) s2 ?re18
    case he18 => (intro w _; go_simp; try (with_reducible rfl))
    try simp only [Act.put, List.setIfInBounds_toArray, List.set_cons_zero, List.set_cons_succ]
    refine takeG (some 28) (i := 19) (v := _) rfl rfl (by kernel_rfl) (by kernel_rfl) (by kernel_rfl) (fun _ _ _ h => h) (yields_rel (by rfl) _ rfl rfl (fun wx hx => hx.2)) s2 ?_
    try simp only [Act.put, List.setIfInBounds_toArray, List.set_cons_zero, List.set_cons_succ]
    refine wpAnyH_ready (rs := [16]) (by kernel_rfl) (by simp) ?_
    refine AllReadyH.cons rfl (fun K hK => ?_) AllReadyH.nil
    go_simp
    refine (CA.out _ k2).mono ?_
    rintro e q3 ⟨rfl, rfl⟩
    show K _ _
    refine hK.out _ _ s2 (fun _ => ?_)
    clear hK K
    refine wpAnyH_ready (rs := [20]) (by kernel_rfl) (by simp) ?_
    refine AllReadyH.cons rfl (fun K hK => ?_) AllReadyH.nil
    go_simp
    refine (CK.out _ k2).mono ?_
    rintro e q4 ⟨rfl, hq4⟩
    show K _ _
    have k4 := below_then k2 hq4
    have s4 := HS.out _ k4
    refine hK.out _ _ s4 (fun _ => ?_)
    clear hK K
    refine takeG (some 30) (i := 21) (v := ?ve21) rfl rfl (by kernel_rfl) (by kernel_rfl) (by kernel_rfl) (fun _ _ _ h => h) (Or.inl ⟨by rfl, ?he21⟩) s4 ?re21
    case he21 => (intro w _; go_simp; try (with_reducible rfl))
    try simp only [Act.put, List.setIfInBounds_toArray, List.set_cons_zero, List.set_cons_succ]
    refine takeG (some 31) (i := 22) (v := ?ve22) rfl rfl (by kernel_rfl) (by kernel_rfl) (by kernel_rfl) (fun _ _ _ h => h) (Or.inl ⟨by rfl, ?he22⟩) s4 ?re22
    case he22 => (intro w _; go_simp; try (with_reducible rfl))
    try simp only [Act.put, List.setIfInBounds_toArray, List.set_cons_zero, List.set_cons_succ]
    refine takeG (some 32) (i := 23) (v := ?ve23) rfl rfl (by kernel_rfl) (by kernel_rfl) (by kernel_rfl) (fun _ _ _ h => h) (Or.inl ⟨by rfl, ?he23⟩) s4 ?re23
    case he23 => (intro w _; go_simp; try (with_reducible rfl))
    try simp only [Act.put, List.setIfInBounds_toArray, List.set_cons_zero, List.set_cons_succ]
    refine takeG (some 8) (i := 24) (v := ?ve24) rfl rfl (by kernel_rfl) (by kernel_rfl) (by kernel_rfl) (fun _ _ _ h => h) (Or.inl ⟨by rfl, ?he24⟩) s4 ?re24
    case he24 => (intro w _; go_simp; try (with_reducible rfl))
    try simp only [Act.put, List.setIfInBounds_toArray, List.set_cons_zero, List.set_cons_succ]
    refine wpAnyH_done (by kernel_rfl) ?_ _
    go_wp2_with fail
    go_ret
    exact ⟨ret_b (((beq_eq_false_iff_ne).2 hz0).trans HV.out), HB.out _ k4⟩
end Go.Proofs.YtkaldidcekcpnaaGreatDoor

namespace Go.Proofs.YtkaldidcekcpnaaGreatDoor
set_option maxRecDepth 100000
open Go.RowKit

/-- One stands ahead of another one in a row. -/
def Ahead : List Int → Int → Int → Prop
  | [], _, _ => False
  | c :: L, a, b => Ahead L a b ∨ (c = a ∧ b ∈ L)
theorem Ahead.mem {a b : Int} : ∀ {L : List Int}, Ahead L a b → a ∈ L ∧ b ∈ L
  | [], h => h.elim
  | c :: L, h => by
    rcases h with h | ⟨rfl, h⟩
    · exact ⟨List.mem_cons_of_mem _ (Ahead.mem h).1, List.mem_cons_of_mem _ (Ahead.mem h).2⟩
    · exact ⟨List.mem_cons_self, List.mem_cons_of_mem _ h⟩
theorem ahead_at {a b : Int} : ∀ {L : List Int}, Ahead L a b ↔ ∃ i, i < L.length ∧ L.getD i 0 = a ∧ b ∈ L.drop (i + 1)
  | [] => by simp [Ahead]
  | c :: L => by
    unfold Ahead
    rw [ahead_at]
    constructor
    · rintro (⟨i, hi, h1, h2⟩ | ⟨rfl, h⟩)
      · exact ⟨i + 1, by simpa using hi, by simpa using h1, by simpa using h2⟩
      · exact ⟨0, by simp, by simp, by simpa using h⟩
    · rintro ⟨i, hi, h1, h2⟩
      cases i with
      | zero => exact .inr ⟨by simpa using h1, by simpa using h2⟩
      | succ i => exact .inl ⟨i, by simpa using hi, by simpa using h1, by simpa using h2⟩
theorem Ahead.trans {a m b : Int} : ∀ {L : List Int}, Ahead L a m → Ahead L m b → ¬ Ahead L m m → Ahead L a b
  | [], h, _, _ => h.elim
  | c :: L, h, k, hno => by
    rcases h with h | ⟨rfl, h⟩
    · rcases k with k | ⟨rfl, k⟩
      · exact .inl (Ahead.trans h k fun x => hno (.inl x))
      · exact absurd (.inr ⟨rfl, h.mem.2⟩) hno
    · rcases k with k | ⟨rfl, k⟩
      · exact .inr ⟨rfl, k.mem.2⟩
      · exact .inr ⟨rfl, k⟩
theorem behB_iff (L : List Int) (j : Nat) : behB L j = true ↔ (j : Int) ∈ L := by
  unfold behB
  rw [List.any_eq_true]
  constructor
  · rintro ⟨a, ha, e⟩; rw [beq_iff_eq] at e; exact e ▸ ha
  · intro h; exact ⟨_, h, by simp⟩
theorem chainR_iff (i j : Nat) : ∀ (L : List Int), chainR L i j = true ↔ Ahead L i j
  | [] => by simp [chainR, noR, Ahead]
  | c :: L => by
    show (chainR L i j || (c == (i : Int) && behB L j)) = true ↔ _
    rw [Bool.or_eq_true, Bool.and_eq_true, chainR_iff i j L, beq_iff_eq, behB_iff]; rfl
end Go.Proofs.YtkaldidcekcpnaaGreatDoor

namespace Go.Proofs.YtkaldidcekcpnaaGreatDoor
set_option maxRecDepth 100000
open Go.RowKit

theorem bc_of {h : List TxnV} (hc : checkI h = 0) {i : Nat} (hi : i < h.length) : h[i].b < h[i].c := by
  have h1 := (rowR_iff.1 (may_rows (may_of hc) i hi)).1
  unfold mayT at h1
  simp only [Bool.and_eq_true, decide_eq_true_eq] at h1
  omega
end Go.Proofs.YtkaldidcekcpnaaGreatDoor

namespace Go.Proofs.YtkaldidcekcpnaaGreatDoor
set_option maxRecDepth 100000
open Go.RowKit

theorem rivM_in (h : List TxnV) (A : Mat) (i j : Nat) (hr : rivM h A i j = true) : A i j = true := by
  unfold rivM at hr
  rw [Bool.and_eq_true] at hr
  exact hr.1
theorem ahead_irr {L : List Int} (hn : L.Nodup) (a : Int) : ¬ Ahead L a a := by
  rw [ahead_at]
  rintro ⟨i, hi, h1, h2⟩
  obtain ⟨k, hk, h3⟩ := List.mem_iff_getElem.1 h2
  rw [List.length_drop] at hk
  rw [List.getElem_drop] at h3
  rw [List.getD_eq_getElem?_getD, List.getElem?_eq_getElem hi, Option.getD_some] at h1
  exact List.pairwise_iff_getElem.1 hn i (i + 1 + k) hi (by omega) (by omega) (h1.trans h3.symm)
theorem chain_trans {L : List Int} (hn : L.Nodup) {i m j : Nat} (h1 : chainR L i m = true) (h2 : chainR L m j = true) : chainR L i j = true := by
  rw [chainR_iff] at *
  exact h1.trans h2 (ahead_irr hn _)
theorem inM_iff (R S : Mat) : inM R S = true ↔ ∀ i j, i < 64 → j < 64 → R i j = true → S i j = true := by
  unfold inM inMTo
  rw [List.all_eq_true]
  constructor
  · intro h i j hi hj hr
    have h1 := (inB_iff (isSet_mkS _)).1 (h i (List.mem_range.2 hi)) j hj (by rw [testBit_mkS, hr, decide_eq_true hj]; rfl)
    rw [testBit_mkS, decide_eq_true hj] at h1
    simpa using h1
  · intro h i hi
    have hi := List.mem_range.1 hi
    rw [inB_iff (isSet_mkS _)]
    intro j hj hb
    rw [testBit_mkS, decide_eq_true hj] at hb ⊢
    simp only [Bool.true_and] at hb ⊢
    exact h i j hi hj hb
theorem hasR_nat (R : Mat) (i j : Nat) (hi : i < 64) (hj : j < 64) : hasR R (i : Int) (j : Int) = R i j := by
  unfold hasR mayB
  rw [Int.toNat_natCast, hasB_mkS _ _ hj, decide_eq_true (by omega), Bool.true_and]
end Go.Proofs.YtkaldidcekcpnaaGreatDoor

namespace Go.Proofs.YtkaldidcekcpnaaGreatDoor
set_option maxRecDepth 100000
open Go.RowKit

theorem bitA_pow : ∀ m : Fin 6, bitA m.val = 2 ^ m.val := by decide
theorem keptTo_bit (M : Nat → Mat) (V : Mat) (k : Nat) : ∀ m, m ≤ 6 → (keptTo M V m).testBit k = (decide (k < m) && inM (M k) V)
  | 0, _ => by unfold keptTo; simp
  | m + 1, h => by
    have ih := keptTo_bit M V k m (by omega)
    have e := bitA_pow ⟨m, by omega⟩
    simp only at e
    rw [keptTo_succ]
    by_cases hk : k = m
    · subst hk
      rw [decide_eq_false (Nat.lt_irrefl k), Bool.false_and] at ih
      rw [decide_eq_true (Nat.lt_succ_self k), Bool.true_and]
      cases hM : inM (M k) V with
      | true => rw [if_pos rfl, Nat.testBit_or, e, Nat.testBit_two_pow_self, Bool.or_true]
      | false => rw [if_neg (by decide)]; exact ih
    · have hd : decide (k < m + 1) = decide (k < m) := by rw [decide_eq_decide]; omega
      rw [hd]
      split
      · rw [Nat.testBit_or, e, Nat.testBit_two_pow_of_ne (by omega), Bool.or_false]; exact ih
      · exact ih
theorem kept_bit (h : List TxnV) (l : List Int) (V : Mat) {k : Nat} (hk : k < 6) : (keptN h l V).testBit k = inM (keptM h (chainR l) V k) V := by
  unfold keptN
  rw [keptTo_bit _ _ _ 6 (Nat.le_refl 6), decide_eq_true hk, Bool.true_and]
theorem lack_iff (a b : Nat) : lackN a b = 0 ↔ ∀ k, a.testBit k = true → b.testBit k = true := by
  unfold lackN
  constructor
  · intro e k hk
    have t := congrArg (fun x => Nat.testBit x k) e
    simp only [Nat.testBit_xor, Nat.testBit_and, Nat.zero_testBit, hk, Bool.true_and] at t
    cases hb : b.testBit k
    · rw [hb] at t; exact absurd t (by decide)
    · rfl
  · intro H
    apply Nat.eq_of_testBit_eq
    intro k
    rw [Nat.testBit_xor, Nat.testBit_and, Nat.zero_testBit]
    cases ha : a.testBit k
    · rfl
    · rw [H k ha]; rfl
end Go.Proofs.YtkaldidcekcpnaaGreatDoor

namespace Go.Proofs.YtkaldidcekcpnaaGreatDoor
set_option maxRecDepth 100000
open Go.RowKit

theorem hasB_nat {s : Nat} {n : Nat} (hn : n < 64) : hasB s (n : Int) = s.testBit n := by
  unfold hasB
  rw [decide_eq_true (by omega), Bool.true_and, Int.toNat_natCast]
theorem lastI_snoc (l : List Int) (a : Int) (s : Nat) : lastI (l ++ [a]) s = if hasB s a then a else lastI l s := by
  unfold lastI lastTo
  rw [List.take_length, List.take_length, List.foldl_append]
  rfl
theorem seen_bit {V : Mat} {h : List TxnV} {y : Int} {i n : Nat} (hi : i < 64) (hn : n < 64) : (seeTo V (i : Int) 64 &&& wrtN h y).testBit n = (V n i && (wrtN h y).testBit n) := by
  rw [Nat.testBit_and, seeTo_bit V (i : Int) n 64 (Nat.le_refl 64), decide_eq_true hn, Bool.true_and, hasR_nat V n i hn hi]
end Go.Proofs.YtkaldidcekcpnaaGreatDoor

namespace Go.Proofs.YtkaldidcekcpnaaGreatDoor
set_option maxRecDepth 100000
open Go.RowKit

/-- Where one stands in a row, from a place on; -1: nowhere. -/
def placeF : List Int → Int → Nat → Int
  | [], _, _ => -1
  | a :: r, i, k => if a = i then (k : Int) else placeF r i (k + 1)
def placeI (l : List Int) (i : Int) : Int := placeF l i 0
theorem placeF_neg (i : Int) : ∀ (l : List Int) (k : Nat), placeF l i k < 0 ↔ i ∉ l
  | [], k => by simp [placeF]
  | a :: r, k => by
    unfold placeF
    by_cases h : a = i
    · rw [if_pos h]
      constructor
      · intro h2; omega
      · intro h2; exact absurd (by rw [h]; exact List.mem_cons_self) h2
    · rw [if_neg h, placeF_neg i r (k + 1), List.mem_cons]
      constructor
      · intro h2 h3
        rcases h3 with h3 | h3
        · exact h h3.symm
        · exact h2 h3
      · intro h2 h3; exact h2 (.inr h3)
theorem placeF_step {l : List Int} {i : Int} {k : Nat} (h : k < l.length) : placeF (l.drop k) i k = if l[k] = i then (k : Int) else placeF (l.drop (k + 1)) i (k + 1) := by
  rw [List.drop_eq_getElem_cons h]; rfl
theorem rplace_any (va : Value) (l : List Int) (i : Int) (w : World) (hl : Ints w va l) :
    Calls Tryz.prog 103 #[va, .int .i64 i] w fun e w' => e = .returned (.int .i64 (placeI l i)) ∧ w = w' := by
  have HL := Lib.hid hl
  obtain ⟨ao, cap, rfl, hal⟩ := hl.form
  have HR : Hid (placeI l i = placeF (l.drop 0) i 0) := Lib.hid (by rw [List.drop_zero]; rfl)
  generalize placeI l i = z at *
  clear hl
  go_enter Tryz.func103, Tryz.ntmps103
  go_wp2_with fail
  go_loopw [5] (fun v wr => ∃ k : Nat, k ≤ l.length ∧ v = .int .i64 k ∧ Hid (z = placeF (l.drop k) i k) ∧ w = wr) (fun v _ => l.length - (intOf v).toNat)
  case atStart => exact ⟨0, by omega, rfl, HR, rfl⟩
  case round =>
    clear HR
    obtain ⟨k, hk, rfl, HP, rfl⟩ := hrel
    by_cases hlt : k < l.length
    · have hki : (k : Int) < (l.length : Int) := by omega
      obtain ⟨g, o, hao, e0⟩ := HL.out.at hlt
      cases hao
      have HN := Lib.hid (HP.out.trans (placeF_step hlt))
      clear HP
      generalize l[k] = x at *
      by_cases hx : x = i
      · have HV : Hid ((k : Int) = z) := Lib.hid (by rw [HN.out, if_pos hx])
        subst hx
        clear HN
        go_wp2_with fail
        go_ret
        exact ⟨congrArg (fun q => Ending.returned (Value.int .i64 q)) HV.out, rfl⟩
      · have HV : Hid (z = placeF (l.drop (k + 1)) i (k + 1)) := Lib.hid (by rw [HN.out, if_neg hx])
        clear HN
        go_wp2_with fail
        go_roundw
        case rel => exact ⟨k + 1, by omega, by go_num, HV, by first | rfl | trivial⟩
        case measure => simp [intOf]; omega
    · have hk2 : k = l.length := by omega
      subst hk2
      have HV : Hid (z = -1) := Lib.hid (by rw [HP.out, List.drop_length]; rfl)
      clear HP
      go_wp2_with fail
      go_ret
      exact ⟨congrArg (fun q => Ending.returned (Value.int .i64 q)) HV.out.symm, rfl⟩
/-- Are all numbers below n there, and no more of them? -/
def rowTo (l : List Int) (k : Nat) : Bool := (List.range k).all fun i => decide ((i : Int) ∈ l)
theorem rowTo_succ (l : List Int) (k : Nat) : rowTo l (k + 1) = (rowTo l k && decide ((k : Int) ∈ l)) := by
  unfold rowTo; rw [List.range_succ, List.all_append]; simp
theorem rowTo_no {l : List Int} {k n : Nat} (h : k < n) (hn : ¬ (k : Int) ∈ l) : rowTo l n = false := by
  unfold rowTo
  rw [List.all_eq_false]
  exact ⟨k, List.mem_range.2 h, by simpa using hn⟩
def rowRef12 (n : Nat) (l : List Int) : Bool := rowTo l n && decide ((l.length : Int) = n)
theorem rrow12_any (n : Nat) (va : Value) (l : List Int) (w : World) (hn : n ≤ 1000) (hl : Ints w va l) :
    Calls Tryz.prog 102 #[.int .i64 n, va] w fun e w' => e = .returned (.bool (rowRef12 n l)) ∧ w = w' := by
  have CP := Lib.hid (fun i => rplace_any va l i w hl)
  obtain ⟨ao, cap, rfl, hal⟩ := hl.form
  have HR : Hid (rowRef12 n l = (rowTo l n && decide ((l.length : Int) = n))) := Lib.hid rfl
  generalize rowRef12 n l = z at *
  clear hl
  go_enter Tryz.func102, Tryz.ntmps102
  go_wp2_with fail
  go_loopw [5] (fun v wr => ∃ k : Nat, k ≤ n ∧ v = .int .i64 k ∧ Hid (rowTo l k = true) ∧ w = wr) (fun v _ => n - (intOf v).toNat)
  case atStart => exact ⟨0, by omega, rfl, Lib.hid rfl, rfl⟩
  case round =>
    obtain ⟨k, hk, rfl, HP, rfl⟩ := hrel
    by_cases hlt : k < n
    · have hki : (k : Int) < (n : Int) := by omega
      have CK := Lib.hid (CP.out (k : Int))
      by_cases hm : (k : Int) ∈ l
      · have hz : ¬ placeI l (k : Int) < 0 := fun h => (placeF_neg _ l 0).1 h hm
        have HV : Hid (rowTo l (k + 1) = true) := Lib.hid (by rw [rowTo_succ, HP.out, decide_eq_true hm]; rfl)
        clear HP HR CP hm
        generalize placeI l (k : Int) = p at *
        go_wp2_with fail
        refine (CK.out).mono ?_
        rintro e w1 ⟨rfl, rfl⟩
        go_wp2_with fail
        go_roundw
        case rel => exact ⟨k + 1, by omega, by go_num, HV, by first | rfl | trivial⟩
        case measure => simp [intOf]; omega
      · have hz : placeI l (k : Int) < 0 := (placeF_neg _ l 0).2 hm
        have HV : Hid (false = z) := Lib.hid (by rw [HR.out, rowTo_no hlt hm]; rfl)
        clear HP HR CP hm
        generalize placeI l (k : Int) = p at *
        go_wp2_with fail
        refine (CK.out).mono ?_
        rintro e w1 ⟨rfl, rfl⟩
        go_wp2_with fail
        go_ret
        exact ⟨ret_b HV.out, rfl⟩
    · have hk2 : k = n := by omega
      subst hk2
      by_cases hq : (l.length : Int) = (k : Int)
      · have HV : Hid (true = z) := Lib.hid (by rw [HR.out, HP.out, decide_eq_true hq]; rfl)
        clear HP HR CP
        go_wp2_with fail
        go_ret
        exact ⟨ret_b HV.out, rfl⟩
      · have HV : Hid (false = z) := Lib.hid (by rw [HR.out, HP.out, decide_eq_false hq]; rfl)
        clear HP HR CP
        go_wp2_with fail
        go_ret
        exact ⟨ret_b ((beq_eq_false_iff_ne.2 hq).trans HV.out), rfl⟩
/-- Where the length is n, all numbers below n are there just where none but those are: counted. -/
theorem count_full : ∀ (n : Nat) (l : List Int), l.length = n → rowTo l n = true → ∀ a ∈ l, 0 ≤ a ∧ a < (n : Int)
  | 0, [], _, _, a, h => by cases h
  | n + 1, l, hl, hr, a, ha => by
    rw [rowTo_succ, Bool.and_eq_true, decide_eq_true_eq] at hr
    obtain ⟨h1, h2⟩ := hr
    have hle : (l.erase (n : Int)).length = n := by rw [List.length_erase_of_mem h2, hl]; rfl
    have hr2 : rowTo (l.erase (n : Int)) n = true := by
      unfold rowTo at h1 ⊢
      rw [List.all_eq_true] at h1 ⊢
      intro i hi
      have hin := List.mem_range.1 hi
      have h3 := h1 i hi
      rw [decide_eq_true_eq] at h3 ⊢
      exact (List.mem_erase_of_ne (by omega)).2 h3
    have ih := count_full n (l.erase (n : Int)) hle hr2
    by_cases hn : a = (n : Int)
    · omega
    · have := ih a ((List.mem_erase_of_ne hn).2 ha)
      omega
theorem row_same (n : Nat) (hn : n ≤ 64) (l : List Int) : rowOkA (n : Int) l = rowRef12 n l := by
  unfold rowOkA rowRef12
  rw [Bool.and_comm]
  by_cases hl : (l.length : Int) = n
  · rw [decide_eq_true hl, Bool.and_true, Bool.and_true, Bool.eq_iff_iff, decide_eq_true_eq, setL_eq, ← below_eq]
    have hm : min 64 ((n : Int)).toNat = n := by omega
    rw [hm]
    have hb : ∀ (m : List Int) (i : Nat), i < 64 → ((ofL m).testBit i = true ↔ (i : Int) ∈ m) := fun m i hi => by
      rw [testBit_ofL, decide_eq_true hi, Bool.true_and]
      unfold hasL
      rw [List.any_eq_true]
      constructor
      · rintro ⟨x, hx, he⟩
        have : x = (i : Int) := by simpa using he
        rw [← this]; exact hx
      · intro h; exact ⟨_, h, by simp⟩
    have hr : ∀ i : Nat, ((i : Int) ∈ (List.range n).map Int.ofNat) ↔ i < n := fun i => by
      rw [List.mem_map]
      constructor
      · rintro ⟨q, hq, e⟩
        have := List.mem_range.1 hq
        have e2 : (q : Int) = (i : Int) := e
        omega
      · intro h; exact ⟨i, List.mem_range.2 h, rfl⟩
    constructor
    · intro e
      unfold rowTo
      rw [List.all_eq_true]
      intro i hi
      have hin := List.mem_range.1 hi
      rw [decide_eq_true_eq]
      refine (hb l i (by omega)).1 ?_
      rw [e]
      exact (hb _ i (by omega)).2 ((hr i).2 hin)
    · intro h
      refine set_ext (isSet_ofL l) (isSet_ofL _) fun i hi => ?_
      rw [Bool.eq_iff_iff, hb l i hi, hb _ i hi, hr i]
      constructor
      · intro hm
        have := count_full n l (by omega) h _ hm
        omega
      · intro hin
        unfold rowTo at h
        have := List.all_eq_true.1 h i (List.mem_range.2 hin)
        simpa using this
  · rw [decide_eq_false hl, Bool.and_false, Bool.and_false]
end Go.Proofs.YtkaldidcekcpnaaGreatDoor

namespace Go.Proofs.YtkaldidcekcpnaaGreatDoor
set_option maxRecDepth 100000
open Go.RowKit

set_option maxHeartbeats 4000000 in
theorem rtime_any (va : Value) (h : List TxnV) (a b : Nat) (w : World) (hT : Txns w va h) (ha : a < h.length) (hb : b < h.length) :
    Calls Tryz.prog 24 #[va, .int .i64 a, .int .i64 b] w fun e w' => e = .returned (.bool (decide (h[a].c < h[b].b))) ∧ Below w.heap.size w w' := by
  obtain ⟨ao, cap, rfl, hal⟩ := hT.form
  obtain ⟨g, o, hao, c0, c1, c2, c3⟩ := hT.at ha
  cases hao
  obtain ⟨g', o', hao, d0, d1, d2, d3⟩ := hT.at hb
  cases hao
  have hai : (a : Int) < (h.length : Int) := by omega
  have hbi : (b : Int) < (h.length : Int) := by omega
  generalize h[a].c = x at *
  generalize h[b].b = y at *
  clear c0 c1 c3 d0 d2 d3 hT
  go_enter Tryz.func24, Tryz.ntmps24
  go_wp2_with fail
  go_quiet (fail)
  go_wp2_with fail
  go_ret
  exact ⟨rfl, below_drewN (Below.refl _ _) _⟩
set_option maxHeartbeats 4000000 in
theorem rsession_any (va : Value) (h : List TxnV) (a b : Nat) (w : World) (hT : Txns w va h) (ha : a < h.length) (hb : b < h.length) :
    Calls Tryz.prog 23 #[va, .int .i64 a, .int .i64 b] w fun e w' => e = .returned (.bool (decide (a < b) && decide (h[a].s = h[b].s))) ∧ Below w.heap.size w w' := by
  obtain ⟨ao, cap, rfl, hal⟩ := hT.form
  obtain ⟨g, o, hao, c0, c1, c2, c3⟩ := hT.at ha
  cases hao
  obtain ⟨g', o', hao, d0, d1, d2, d3⟩ := hT.at hb
  cases hao
  have hai : (a : Int) < (h.length : Int) := by omega
  have hbi : (b : Int) < (h.length : Int) := by omega
  generalize h[a].s = x at *
  generalize h[b].s = y at *
  clear c1 c2 c3 d1 d2 d3 hT
  by_cases hab : a < b
  · have H : Hid ((decide (a < b) && decide (x = y)) = decide (x = y)) := Lib.hid (by rw [decide_eq_true hab]; rfl)
    have habi : (a : Int) < (b : Int) := by omega
    rw [H.out]
    clear hab H
    go_enter Tryz.func23, Tryz.ntmps23
    go_wp2_with fail
    go_quiet (fail)
    go_wp2_with fail
    go_ret
    exact ⟨rfl, below_drewN (Below.refl _ _) _⟩
  · have H : Hid ((decide (a < b) && decide (x = y)) = false) := Lib.hid (by rw [decide_eq_false hab]; rfl)
    have habi : ¬ (a : Int) < (b : Int) := by omega
    have hd : decide ((a : Int) < (b : Int)) = false := decide_eq_false habi
    have hle : (b : Int) ≤ (a : Int) := by omega
    have hdn : decide (a < b) = false := decide_eq_false hab
    rw [H.out]
    clear H
    go_enter Tryz.func23, Tryz.ntmps23
    go_wp2_with fail
    go_quiet (fail)
    go_wp2_with fail
    go_ret
    exact ⟨rfl, below_drewN (Below.refl _ _) _⟩
end Go.Proofs.YtkaldidcekcpnaaGreatDoor

namespace Go.Proofs.YtkaldidcekcpnaaGreatDoor
set_option maxRecDepth 100000
open Go.RowKit

/-- Does one come ahead of another one in a row, as the reference says it? -/
def ahR (l : List Int) (i k : Int) : Bool := decide (placeI l i < placeI l k)
theorem rahead_any (va : Value) (l : List Int) (i k : Int) (w : World) (hl : Ints w va l) :
    Calls Tryz.prog 156 #[va, .int .i64 i, .int .i64 k] w fun e w' => e = .returned (.bool (ahR l i k)) ∧ w = w' := by
  have C := Lib.hid (fun j => rplace_any va l j w hl)
  have HR : Hid (ahR l i k = decide (placeI l i < placeI l k)) := Lib.hid rfl
  obtain ⟨ao, cap, rfl, hal⟩ := hl.form
  have CI := Lib.hid (C.out i)
  have CK := Lib.hid (C.out k)
  generalize ahR l i k = z at *
  generalize placeI l i = x at *
  generalize placeI l k = y at *
  clear hl C
  go_enter Tryz.func156, Tryz.ntmps156
  go_wp2_with fail
  refine (CI.out).mono ?_
  rintro e w1 ⟨rfl, rfl⟩
  go_wp2_with fail
  refine (CK.out).mono ?_
  rintro e w1 ⟨rfl, rfl⟩
  go_wp2_with fail
  go_ret
  exact ⟨ret_b HR.out.symm, rfl⟩
/-- Must one be seen by another one, whatever else is, as the reference says it? -/
def mustR (h : List TxnV) (x : Nat) (l : List Int) (i k : Nat) : Bool := ((froR h i k || (hasT x 1 && sesP h i k)) || (hasT x 32 && timP h i k)) || (ahR l (i : Int) (k : Int) && (hasT x 16 || (hasT x 8 && rivR h i k)))
/-- Is one seen by another one, since that sees somebody else, as the reference says it? -/
def folJ (m : List Pr) (x : Nat) (l : List Int) (i k j : Int) : Bool := hasP m j k && ((hasT x 2 && hasP m i j) || (hasT x 4 && ahR l i j))
def folR (m : List Pr) (x : Nat) (l : List Int) (i k : Int) (n : Nat) : Bool := (List.range n).any fun j => folJ m x l i k (j : Int)
end Go.Proofs.YtkaldidcekcpnaaGreatDoor

namespace Go.Proofs.YtkaldidcekcpnaaGreatDoor
set_option maxRecDepth 100000
open Go.RowKit

/-- All pairs of numbers below n. -/
def gridP (n : Nat) : List Pr := (List.range n).flatMap fun i => (List.range n).map fun k => (((i : Nat) : Int), ((k : Nat) : Int))
theorem gridP_len (n : Nat) : (gridP n).length = n * n := by
  unfold gridP
  rw [List.length_flatMap]
  have : ((List.range n).map fun i => ((List.range n).map fun k => ((((i : Nat) : Int), ((k : Nat) : Int)) : Pr)).length) = (List.range n).map fun _ => n := by simp
  rw [this, List.map_const']
  have hr : ∀ n k : Nat, (List.replicate n k).sum = n * k := by
    intro n k; induction n with
    | zero => simp
    | succ n ih => rw [List.replicate_succ, List.sum_cons, ih, Nat.succ_mul]; omega
  rw [hr, List.length_range]
theorem mem_gridP {n : Nat} {p : Pr} : p ∈ gridP n ↔ ∃ i k : Nat, i < n ∧ k < n ∧ p = ((i : Int), (k : Int)) := by
  unfold gridP
  rw [List.mem_flatMap]
  constructor
  · rintro ⟨i, hi, h⟩
    obtain ⟨k, hk, e⟩ := List.mem_map.1 h
    exact ⟨i, k, List.mem_range.1 hi, List.mem_range.1 hk, e.symm⟩
  · rintro ⟨i, k, hi, hk, rfl⟩
    exact ⟨i, List.mem_range.2 hi, List.mem_map.2 ⟨k, List.mem_range.2 hk, rfl⟩⟩
/-- Each once, of numbers below n, and each is one of M. -/
def InM (n : Nat) (M : Nat → Nat → Prop) (m : List Pr) : Prop := m.Nodup ∧ ∀ p ∈ m, ∃ i k : Nat, i < n ∧ k < n ∧ p = ((i : Int), (k : Int)) ∧ M i k
theorem InM.len {n : Nat} {M : Nat → Nat → Prop} {m : List Pr} (h : InM n M m) : m.length ≤ n * n := by
  rw [← gridP_len]
  refine nodup_le m (gridP n) h.1 fun p hp => ?_
  obtain ⟨i, k, hi, hk, e, _⟩ := h.2 p hp
  exact mem_gridP.2 ⟨i, k, hi, hk, e⟩
theorem InM.put {n : Nat} {M : Nat → Nat → Prop} {m : List Pr} (h : InM n M m) {i k : Nat} (hi : i < n) (hk : k < n) (hM : M i k) : InM n M (putP m (i : Int) (k : Int)) := by
  refine ⟨putP_nodup h.1, fun p hp => ?_⟩
  rcases mem_putP.1 hp with hp | rfl
  · exact h.2 p hp
  · exact ⟨i, k, hi, hk, rfl, hM⟩
/-- What must be seen of the start, what comes ahead, as the reference says it. -/
def staR (h : List TxnV) (x : Nat) (l : List Int) (n : Nat) : Mat := fun i k => decide (i < n) && decide (k < n) && decide (i ≠ k) && mustR h x l i k
def ahdR (l : List Int) (n : Nat) : Mat := fun i k => decide (i < n) && decide (k < n) && ahR l (i : Int) (k : Int)
theorem ahdR_iff {l : List Int} {n i k : Nat} : ahdR l n i k = true ↔ i < n ∧ k < n ∧ ahR l (i : Int) (k : Int) = true := by
  unfold ahdR; simp [and_assoc]
/-- Are all pairs ahead of a place looked at: each is there, or isn't wanted? -/
def DoneTo (n : Nat) (P : Nat → Nat → Prop) (i0 k0 : Nat) : Prop := ∀ i k : Nat, i < n → k < n → (i < i0 ∨ (i = i0 ∧ k < k0)) → P i k
theorem DoneTo.row {n : Nat} {P : Nat → Nat → Prop} {i0 : Nat} (h : DoneTo n P i0 n) : DoneTo n P (i0 + 1) 0 := fun i k hi hk hlt => h i k hi hk (by omega)
theorem DoneTo.next {n : Nat} {P : Nat → Nat → Prop} {i0 k0 : Nat} (h : DoneTo n P i0 k0) (hp : P i0 k0) : DoneTo n P i0 (k0 + 1) := fun i k hi hk hlt => by
  by_cases e : i = i0 ∧ k = k0
  · rw [e.1, e.2]; exact hp
  · exact h i k hi hk (by omega)
theorem DoneTo.none {n : Nat} {P : Nat → Nat → Prop} : DoneTo n P 0 0 := fun i k _ _ h => by omega
theorem DoneTo.mono {n : Nat} {P Q : Nat → Nat → Prop} {i0 k0 : Nat} (h : DoneTo n P i0 k0) (hp : ∀ i k, P i k → Q i k) : DoneTo n Q i0 k0 := fun i k hi hk hlt => hp i k (h i k hi hk hlt)
theorem DoneTo.all {n : Nat} {P : Nat → Nat → Prop} {k0 : Nat} (h : DoneTo n P n k0) (i k : Nat) (hi : i < n) (hk : k < n) : P i k := h i k hi hk (.inl hi)
/-- The first round: what must be seen of the start. -/
def FirP (h : List TxnV) (x : Nat) (l : List Int) (n : Nat) (m : List Pr) (i k : Nat) : Prop := staR h x l n i k = true → ((i : Int), (k : Int)) ∈ m
theorem folR_iff {m : List Pr} {x : Nat} {l : List Int} {i k : Int} {n : Nat} : folR m x l i k n = true ↔ ∃ j : Nat, j < n ∧ ((j : Int), k) ∈ m ∧ ((hasT x 2 = true ∧ (i, (j : Int)) ∈ m) ∨ (hasT x 4 = true ∧ ahR l i (j : Int) = true)) := by
  unfold folR folJ
  rw [List.any_eq_true]
  constructor
  · rintro ⟨j, hj, h⟩
    rw [Bool.and_eq_true, Bool.or_eq_true, Bool.and_eq_true, Bool.and_eq_true, hasP_iff, hasP_iff] at h
    exact ⟨j, List.mem_range.1 hj, h.1, h.2⟩
  · rintro ⟨j, hj, h1, h2⟩
    refine ⟨j, List.mem_range.2 hj, ?_⟩
    rw [Bool.and_eq_true, Bool.or_eq_true, Bool.and_eq_true, Bool.and_eq_true, hasP_iff, hasP_iff]
    exact ⟨h1, h2⟩
theorem FirP.put {h : List TxnV} {x : Nat} {l : List Int} {n : Nat} {m : List Pr} {a b : Int} {i k : Nat} (hf : FirP h x l n m i k) : FirP h x l n (putP m a b) i k := fun hs => mem_putP.2 (.inl (hf hs))
end Go.Proofs.YtkaldidcekcpnaaGreatDoor

namespace Go.Proofs.YtkaldidcekcpnaaGreatDoor
set_option maxRecDepth 100000
open Go.RowKit

/-- The row has all numbers below n, each once. -/
def FullRow (n : Nat) (l : List Int) : Prop := l.Nodup ∧ ∀ a : Int, a ∈ l ↔ 0 ≤ a ∧ a < (n : Int)
theorem full_nodup : ∀ (n : Nat) (l : List Int), l.length = n → rowTo l n = true → l.Nodup
  | 0, l, hl, _ => by
    cases l with
    | nil => exact List.nodup_nil
    | cons a l => simp at hl
  | n + 1, l, hl, hr => by
    rw [rowTo_succ, Bool.and_eq_true, decide_eq_true_eq] at hr
    obtain ⟨h1, h2⟩ := hr
    have hle : (l.erase (n : Int)).length = n := by rw [List.length_erase_of_mem h2, hl]; rfl
    have hr2 : rowTo (l.erase (n : Int)) n = true := by
      unfold rowTo at h1 ⊢
      rw [List.all_eq_true] at h1 ⊢
      intro i hi
      have hin := List.mem_range.1 hi
      have h3 := h1 i hi
      rw [decide_eq_true_eq] at h3 ⊢
      exact (List.mem_erase_of_ne (by omega)).2 h3
    have ih := full_nodup n (l.erase (n : Int)) hle hr2
    have hlt := count_full n (l.erase (n : Int)) hle hr2
    have hp := List.perm_cons_erase h2
    rw [hp.nodup_iff, List.nodup_cons]
    exact ⟨fun hm => by have := hlt _ hm; omega, ih⟩
theorem full_of_row {n : Nat} {l : List Int} (h : rowRef12 n l = true) : FullRow n l := by
  unfold rowRef12 at h
  rw [Bool.and_eq_true, decide_eq_true_eq] at h
  obtain ⟨h1, h2⟩ := h
  refine ⟨full_nodup n l (by omega) h1, fun a => ⟨fun ha => count_full n l (by omega) h1 a ha, fun ha => ?_⟩⟩
  unfold rowTo at h1
  have := List.all_eq_true.1 h1 a.toNat (List.mem_range.2 (by omega))
  rw [decide_eq_true_eq] at this
  have e : ((a.toNat : Nat) : Int) = a := by omega
  rw [e] at this
  exact this
theorem placeF_at : ∀ (l : List Int) (k0 k : Nat) (hk : k < l.length), l.Nodup → placeF l l[k] k0 = ((k0 + k : Nat) : Int)
  | [], _, k, hk, _ => by simp at hk
  | a :: l, k0, 0, _, _ => by unfold placeF; rw [if_pos (by rfl)]; rfl
  | a :: l, k0, k + 1, hk, hn => by
    rw [List.nodup_cons] at hn
    have hk2 : k < l.length := by simpa using hk
    have hne : ¬ a = (a :: l)[k + 1] := fun e => hn.1 (by rw [e]; exact List.getElem_mem hk2)
    unfold placeF
    rw [if_neg hne]
    have := placeF_at l (k0 + 1) k hk2 hn.2
    rw [show k0 + (k + 1) = k0 + 1 + k by omega]
    exact this
theorem placeI_at {l : List Int} (hn : l.Nodup) {k : Nat} (hk : k < l.length) : placeI l l[k] = (k : Int) := by
  unfold placeI
  rw [placeF_at l 0 k hk hn, Nat.zero_add]
theorem placeI_nn {l : List Int} {a : Int} : 0 ≤ placeI l a ↔ a ∈ l := by
  have h := placeF_neg a l 0
  have h2 : placeI l a < 0 ↔ a ∉ l := h
  constructor
  · intro h3
    exact Decidable.byContradiction fun h4 => by have := h2.2 h4; omega
  · intro h3
    exact Decidable.byContradiction fun h4 => h2.1 (by omega) h3
theorem ahR_iff {l : List Int} (hn : l.Nodup) {a b : Int} (ha : a ∈ l) (hb : b ∈ l) : ahR l a b = true ↔ Ahead l a b := by
  obtain ⟨i, hi, rfl⟩ := List.mem_iff_getElem.1 ha
  obtain ⟨j, hj, rfl⟩ := List.mem_iff_getElem.1 hb
  unfold ahR
  rw [placeI_at hn hi, placeI_at hn hj, decide_eq_true_eq, ahead_at]
  constructor
  · intro hij
    refine ⟨i, hi, by rw [List.getD_eq_getElem?_getD, List.getElem?_eq_getElem hi]; rfl, ?_⟩
    refine List.mem_iff_getElem.2 ⟨j - (i + 1), by rw [List.length_drop]; omega, ?_⟩
    rw [List.getElem_drop]
    congr 1
    omega
  · rintro ⟨p, hp, h1, h2⟩
    rw [List.getD_eq_getElem?_getD, List.getElem?_eq_getElem hp, Option.getD_some] at h1
    obtain ⟨q, hq, h3⟩ := List.mem_iff_getElem.1 h2
    rw [List.length_drop] at hq
    rw [List.getElem_drop] at h3
    have e1 : p = i := (List.getElem_inj hn).1 h1
    have e2 : p + 1 + q = j := (List.getElem_inj hn).1 h3
    omega
theorem chain_mem {l : List Int} {i j : Nat} (h : chainR l i j = true) : (i : Int) ∈ l ∧ (j : Int) ∈ l := (( chainR_iff i j l).1 h).mem
theorem chain_ahd {n : Nat} {l : List Int} (hf : FullRow n l) (i j : Nat) : chainR l i j = true ↔ ahdR l n i j = true := by
  rw [ahdR_iff]
  constructor
  · intro h
    obtain ⟨h1, h2⟩ := chain_mem h
    have h3 := (hf.2 _).1 h1
    have h4 := (hf.2 _).1 h2
    exact ⟨by omega, by omega, (ahR_iff hf.1 h1 h2).2 ((chainR_iff i j l).1 h)⟩
  · rintro ⟨h1, h2, h3⟩
    have m1 : (i : Int) ∈ l := (hf.2 _).2 (by omega)
    have m2 : (j : Int) ∈ l := (hf.2 _).2 (by omega)
    exact (chainR_iff i j l).2 ((ahR_iff hf.1 m1 m2).1 h3)
theorem chain_irr {n : Nat} {l : List Int} (hf : FullRow n l) (i : Nat) : chainR l i i = false := by
  cases h : chainR l i i with
  | false => rfl
  | true => exact absurd ((chainR_iff i i l).1 h) (ahead_irr hf.1 _)
theorem hasT_bits : ∀ k : Fin 64, hasT k.val 1 = k.val.testBit 0 ∧ hasT k.val 2 = k.val.testBit 1 ∧ hasT k.val 4 = k.val.testBit 2 ∧ hasT k.val 8 = k.val.testBit 3 ∧ hasT k.val 16 = k.val.testBit 4 ∧ hasT k.val 32 = k.val.testBit 5 := by decide +kernel
theorem hasP_rep {V : Mat} {m : List Pr} (h : Rep V m) {i j : Nat} (hi : i < 64) (hj : j < 64) : hasP m (i : Int) (j : Int) = V i j := by
  rw [Bool.eq_iff_iff, hasP_iff, ← hasR_rep h, hasR_nat V i j hi hj]
theorem wrt_bit {h : List TxnV} (hc : checkI h = 0) {j : Nat} (hj : j < h.length) (y : Int) : (wrtN h y).testBit j = wrsR h j y := by
  have h64 := (check_zero hc).1
  unfold wrtN
  rw [testBit_mkS, decide_eq_true (show j < 64 by omega), decide_eq_true hj, Bool.true_and, Bool.true_and, Bool.eq_iff_iff, decide_eq_true_eq, keysOf_iff hc hj]
/-- Of those that one sees and that write to a key the last one in a row, as the reference says it. -/
def lstR (h : List TxnV) (m : List Pr) (i key : Int) (l : List Int) : Int := l.foldl (fun out a => if (hasP m a i && wrsR h a.toNat key) = true then a else out) (-1)
theorem lstR_snoc (h : List TxnV) (m : List Pr) (i key : Int) (l : List Int) (a : Int) : lstR h m i key (l ++ [a]) = if (hasP m a i && wrsR h a.toNat key) = true then a else lstR h m i key l := by
  unfold lstR; rw [List.foldl_append]; rfl
theorem lstR_take (h : List TxnV) (m : List Pr) (i key : Int) (l : List Int) (k : Nat) (hk : k < l.length) : lstR h m i key (l.take (k + 1)) = if (hasP m l[k] i && wrsR h l[k].toNat key) = true then l[k] else lstR h m i key (l.take k) := by
  rw [List.take_succ_eq_append_getElem hk, lstR_snoc]
theorem lstR_same {h : List TxnV} {V : Mat} {m : List Pr} (hc : checkI h = 0) (hR : Rep V m) {i : Nat} (hi : i < 64) (y : Int) : ∀ r : List Int, (∀ a ∈ r, 0 ≤ a ∧ a < (h.length : Int)) → lstR h m (i : Int) y r.reverse = lastI r.reverse (seeTo V (i : Int) 64 &&& wrtN h y)
  | [], _ => rfl
  | a :: r, ha => by
    have h64 := (check_zero hc).1
    have ih := lstR_same hc hR hi y r (fun b hb => ha b (List.mem_cons_of_mem _ hb))
    have h1 := ha a List.mem_cons_self
    obtain ⟨j, rfl⟩ := Int.eq_ofNat_of_zero_le h1.1
    have hj : j < h.length := by omega
    rw [List.reverse_cons, lastI_snoc, lstR_snoc, ih, hasB_nat (show j < 64 by omega), seen_bit hi (show j < 64 by omega), hasP_rep hR (show j < 64 by omega) hi, wrt_bit hc hj, Int.toNat_natCast]
/-- Is one of what is seen right, and are all; as the reference says it. -/
def pairOkR (l : List Int) (p : Pr) : Bool := decide (0 ≤ placeI l p.1) && (decide (0 ≤ placeI l p.2) && decide (placeI l p.1 < placeI l p.2))
def rdOkR (h : List TxnV) (l : List Int) (m : List Pr) (i : Nat) (r : Int × Int) : Bool := decide (lstR h m (i : Int) r.1 l = r.2)
def rightR (h : List TxnV) (l : List Int) (m : List Pr) : Bool := rowRef12 h.length l && (m.all (pairOkR l) && (List.range h.length).all fun i => (rdR h (i : Int) (refReads (opsAt h i))).all (rdOkR h l m i))
theorem all_congr {α : Type} {p q : α → Bool} : ∀ (l : List α), (∀ a ∈ l, p a = q a) → l.all p = l.all q
  | [], _ => rfl
  | a :: l, h => by rw [List.all_cons, List.all_cons, h a List.mem_cons_self, all_congr l (fun b hb => h b (List.mem_cons_of_mem _ hb))]
theorem right_same {h : List TxnV} {V : Mat} {m : List Pr} (hc : checkI h = 0) (hR : Rep V m) (l : List Int) : rightM h l V = rightR h l m := by
  have h64 := (check_zero hc).1
  unfold rightM rightR
  rw [row_same h.length h64 l]
  cases hrow : rowRef12 h.length l with
  | false => rfl
  | true =>
    have hf := full_of_row hrow
    rw [Bool.true_and, Bool.true_and]
    have e1 : inM V (chainR l) = m.all (pairOkR l) := by
      rw [Bool.eq_iff_iff, inM_iff, List.all_eq_true]
      constructor
      · rintro H ⟨a, b⟩ hp
        obtain ⟨i, j, hi, hj, rfl, rfl, hv⟩ := (hR.2 _ _).1 hp
        have hch := H i j hi hj hv
        obtain ⟨m1, m2⟩ := chain_mem hch
        have h3 := (ahR_iff hf.1 m1 m2).2 ((chainR_iff i j l).1 hch)
        unfold ahR at h3
        unfold pairOkR
        simp only
        rw [decide_eq_true (placeI_nn.2 m1), decide_eq_true (placeI_nn.2 m2), h3]; rfl
      · intro H i j hi hj hv
        have := H _ ((hR.2 _ _).2 ⟨i, j, hi, hj, rfl, rfl, hv⟩)
        unfold pairOkR at this
        simp only [Bool.and_eq_true, decide_eq_true_eq] at this
        have m1 := placeI_nn.1 this.1
        have m2 := placeI_nn.1 this.2.1
        exact (chainR_iff i j l).2 ((ahR_iff hf.1 m1 m2).1 (by unfold ahR; exact decide_eq_true this.2.2))
    rw [e1]
    congr 1
    unfold rightTo
    refine all_congr _ fun i hi => ?_
    have hin := List.mem_range.1 hi
    rw [reads_same hc hin, opsAt_eq hin]
    refine all_congr _ fun r _ => ?_
    unfold readOk rdOkR
    have := lstR_same hc hR (show i < 64 by omega) r.1 l.reverse (fun a ha => (hf.2 a).1 (List.mem_reverse.1 ha))
    rw [List.reverse_reverse] at this
    rw [this]
/-- Is a thing that is asked not kept by two, is all kept, as the reference says it. -/
def brkR (h : List TxnV) (x : Nat) (l : List Int) (m : List Pr) (i k : Nat) : Bool := !(decide (i = k)) && (!(hasP m (i : Int) (k : Int)) && ((((hasT x 1 && sesP h i k) || (hasT x 32 && timP h i k)) || (ahR l (i : Int) (k : Int) && (hasT x 16 || (hasT x 8 && rivR h i k)))) || folR m x l (i : Int) (k : Int) h.length))
def keepsR (h : List TxnV) (x : Nat) (l : List Int) (m : List Pr) : Bool := (List.range h.length).all fun i => (List.range h.length).all fun k => !(brkR h x l m i k)
theorem keepsR_iff {h : List TxnV} {x : Nat} {l : List Int} {m : List Pr} : keepsR h x l m = true ↔ ∀ i k : Nat, i < h.length → k < h.length → brkR h x l m i k = false := by
  unfold keepsR
  rw [List.all_eq_true]
  constructor
  · intro H i k hi hk
    have := List.all_eq_true.1 (H i (List.mem_range.2 hi)) k (List.mem_range.2 hk)
    simpa using this
  · intro H i hi
    rw [List.all_eq_true]
    intro k hk
    rw [H i k (List.mem_range.1 hi) (List.mem_range.1 hk)]; rfl
theorem kept_lt {h : List TxnV} {l : List Int} {V : Mat} (hc : checkI h = 0) (hf : FullRow h.length l) (hV : inM V (chainR l) = true) {b : Nat} {i j : Nat} (hi : i < 64) (hj : j < 64) (hm : keptM h (chainR l) V b i j = true) : i < h.length ∧ j < h.length ∧ i ≠ j := by
  have hV := (inM_iff _ _).1 hV
  have hch : ∀ i j, chainR l i j = true → i < h.length ∧ j < h.length ∧ i ≠ j := fun i j hc2 => by
    obtain ⟨m1, m2⟩ := chain_mem hc2
    have h3 := (hf.2 _).1 m1
    have h4 := (hf.2 _).1 m2
    refine ⟨by omega, by omega, ?_⟩
    rintro rfl
    rw [chain_irr hf] at hc2; cases hc2
  have h7 : b = 0 ∨ b = 1 ∨ b = 2 ∨ b = 3 ∨ b = 4 ∨ 5 ≤ b := by omega
  rcases h7 with rfl | rfl | rfl | rfl | rfl | hb
  · obtain ⟨h1, h2, h3⟩ := (prsTo_iff (sesP h) h.length i j hi hj h.length).1 hm
    unfold sesP at h3
    rw [Bool.and_eq_true, decide_eq_true_eq] at h3
    exact ⟨h1, h2, by omega⟩
  · obtain ⟨q, hq, a1, a2⟩ := (thenR_iff V V i j).1 hm
    exact hch i j (chain_trans hf.1 (hV i q hi hq a1) (hV q j hq hj a2))
  · obtain ⟨q, hq, a1, a2⟩ := (thenR_iff _ V i j).1 hm
    exact hch i j (chain_trans hf.1 a1 (hV q j hq hj a2))
  · exact hch i j (rivM_in h _ i j hm)
  · exact hch i j hm
  · have hm2 : timM h i j = true := by
      have e : keptM h (chainR l) V b = timM h := by
        match b, hb with
        | b + 5, _ => rfl
      rw [e] at hm; exact hm
    obtain ⟨h1, h2, h3⟩ := (prsTo_iff (timP h) h.length i j hi hj h.length).1 hm2
    refine ⟨h1, h2, ?_⟩
    rintro rfl
    unfold timP at h3
    rw [decide_eq_true_eq, cAt_eq h1, bAt_eq h1] at h3
    have := bc_of hc h1
    omega
theorem rivM_at {h : List TxnV} {l : List Int} {i k : Nat} (hi : i < h.length) (hk : k < h.length) (hne : i ≠ k) : rivM h (chainR l) i k = (chainR l i k && rivR h i k) := by
  unfold rivM rivB
  rw [decide_eq_true hi, decide_eq_true hk, decide_eq_true hne, Bool.true_and, Bool.true_and, Bool.true_and]
theorem keeps_same {h : List TxnV} {V : Mat} {m : List Pr} {l : List Int} {x : Nat} (hc : checkI h = 0) (hR : Rep V m) (hf : FullRow h.length l) (hV : inM V (chainR l) = true) (hx : x < 64) : keepsR h x l m = decide (lackN x (keptN h l V) = 0) := by
  have h64 := (check_zero hc).1
  obtain ⟨t1, t2, t4, t8, t16, t32⟩ := hasT_bits ⟨x, hx⟩
  simp only at t1 t2 t4 t8 t16 t32
  rw [Bool.eq_iff_iff, keepsR_iff, decide_eq_true_eq, lack_iff]
  have hV2 := (inM_iff _ _).1 hV
  have ah : ∀ i j : Nat, i < h.length → j < h.length → (ahR l (i : Int) (j : Int) = true ↔ chainR l i j = true) := fun i j hi hj => by
    rw [chain_ahd hf, ahdR_iff]; exact ⟨fun h => ⟨hi, hj, h⟩, fun h => h.2.2⟩
  have fo : ∀ i k : Nat, i < h.length → k < h.length → (folR m x l (i : Int) (k : Int) h.length = true ↔ (x.testBit 1 = true ∧ thenR V V i k = true) ∨ (x.testBit 2 = true ∧ thenR (chainR l) V i k = true)) := fun i k hi hk => by
    rw [folR_iff, t2, t4]
    constructor
    · rintro ⟨j, hj, h1, h2⟩
      have v1 : V j k = true := by rw [← hasP_rep hR (show j < 64 by omega) (show k < 64 by omega)]; exact hasP_iff.2 h1
      rcases h2 with ⟨h2, h3⟩ | ⟨h2, h3⟩
      · have v2 : V i j = true := by rw [← hasP_rep hR (show i < 64 by omega) (show j < 64 by omega)]; exact hasP_iff.2 h3
        exact .inl ⟨h2, (thenR_iff _ _ _ _).2 ⟨j, by omega, v2, v1⟩⟩
      · exact .inr ⟨h2, (thenR_iff _ _ _ _).2 ⟨j, by omega, (ah i j hi hj).1 h3, v1⟩⟩
    · rintro (⟨h1, h2⟩ | ⟨h1, h2⟩)
      · obtain ⟨j, hj, a1, a2⟩ := (thenR_iff _ _ _ _).1 h2
        have hjn : j < h.length := by
          obtain ⟨m1, m2⟩ := chain_mem (hV2 j k hj (by omega) a2)
          have := (hf.2 _).1 m1; omega
        exact ⟨j, hjn, hasP_iff.1 (by rw [hasP_rep hR hj (by omega)]; exact a2), .inl ⟨h1, hasP_iff.1 (by rw [hasP_rep hR (by omega) hj]; exact a1)⟩⟩
      · obtain ⟨j, hj, a1, a2⟩ := (thenR_iff _ _ _ _).1 h2
        have hjn : j < h.length := by
          obtain ⟨m1, m2⟩ := chain_mem (hV2 j k hj (by omega) a2)
          have := (hf.2 _).1 m1; omega
        exact ⟨j, hjn, hasP_iff.1 (by rw [hasP_rep hR hj (by omega)]; exact a2), .inr ⟨h1, (ah i j hi hjn).2 a1⟩⟩
  constructor
  · intro H b hb
    have hb6 : b < 6 := by
      apply Decidable.byContradiction
      intro hge
      have hp : (64 : Nat) ≤ 2 ^ b := by
        have := Nat.pow_le_pow_right (n := 2) (by omega) (show 6 ≤ b by omega)
        omega
      rw [Nat.testBit_lt_two_pow (by omega)] at hb
      cases hb
    rw [kept_bit h l V hb6, inM_iff]
    intro i j hi hj hm
    obtain ⟨hin, hjn, hne⟩ := kept_lt hc hf hV hi hj hm
    have hbr := H i j hin hjn
    cases hv : V i j with
    | true => rfl
    | false =>
      exfalso
      have hp : hasP m (i : Int) (j : Int) = false := by rw [hasP_rep hR hi hj]; exact hv
      have yes : brkR h x l m i j = true := by
        unfold brkR
        rw [decide_eq_false hne, hp]
        simp only [Bool.not_false, Bool.true_and, Bool.or_eq_true, Bool.and_eq_true]
        have h7 : b = 0 ∨ b = 1 ∨ b = 2 ∨ b = 3 ∨ b = 4 ∨ b = 5 := by omega
        rcases h7 with rfl | rfl | rfl | rfl | rfl | rfl
        · exact .inl (.inl (.inl ⟨by rw [t1]; exact hb, ((prsTo_iff (sesP h) h.length i j hi hj h.length).1 hm).2.2⟩))
        · exact .inr ((fo i j hin hjn).2 (.inl ⟨hb, hm⟩))
        · exact .inr ((fo i j hin hjn).2 (.inr ⟨hb, hm⟩))
        · have hm2 : rivM h (chainR l) i j = true := hm
          rw [rivM_at hin hjn hne, Bool.and_eq_true] at hm2
          exact .inl (.inr ⟨(ah i j hin hjn).2 hm2.1, .inr ⟨by rw [t8]; exact hb, hm2.2⟩⟩)
        · exact .inl (.inr ⟨(ah i j hin hjn).2 hm, .inl (by rw [t16]; exact hb)⟩)
        · exact .inl (.inl (.inr ⟨by rw [t32]; exact hb, ((prsTo_iff (timP h) h.length i j hi hj h.length).1 hm).2.2⟩))
      rw [yes] at hbr; cases hbr
  · intro H i k hi hk
    have K : ∀ b, b < 6 → x.testBit b = true → keptM h (chainR l) V b i k = true → V i k = true := fun b hb6 hb hm => (inM_iff _ _).1 ((kept_bit h l V hb6).symm.trans (H b hb)) i k (by omega) (by omega) hm
    cases hbr : brkR h x l m i k with
    | false => rfl
    | true =>
      exfalso
      unfold brkR at hbr
      rw [hasP_rep hR (show i < 64 by omega) (show k < 64 by omega)] at hbr
      simp only [Bool.and_eq_true, Bool.or_eq_true, Bool.not_eq_true', decide_eq_false_iff_not] at hbr
      obtain ⟨hne, hv, hq⟩ := hbr
      have yes : V i k = true := by
        rcases hq with ((⟨h1, h2⟩ | ⟨h1, h2⟩) | ⟨h1, h2⟩) | h1
        · exact K 0 (by omega) (by rw [← t1]; exact h1) ((prsTo_iff (sesP h) h.length i k (by omega) (by omega) h.length).2 ⟨hi, hk, h2⟩)
        · exact K 5 (by omega) (by rw [← t32]; exact h1) ((prsTo_iff (timP h) h.length i k (by omega) (by omega) h.length).2 ⟨hi, hk, h2⟩)
        · have hch := (ah i k hi hk).1 h1
          rcases h2 with h2 | ⟨h2, h3⟩
          · exact K 4 (by omega) (by rw [← t16]; exact h2) hch
          · refine K 3 (by omega) (by rw [← t8]; exact h2) ?_
            show rivM h (chainR l) i k = true
            rw [rivM_at hi hk hne, hch, h3]; rfl
        · rcases (fo i k hi hk).1 h1 with ⟨h1, h2⟩ | ⟨h1, h2⟩
          · exact K 1 (by omega) h1 h2
          · exact K 2 (by omega) h1 h2
      rw [yes] at hv; cases hv
/-- Does a history keep what a level asks, as the reference says it? -/
def holdsR (h : List TxnV) (lv : Int) (l : List Int) (m : List Pr) : Bool := isLv lv && (soundTo h h.length && (rightR h l m && keepsR h (askN lv) l m))
theorem holds_same {h : List TxnV} {V : Mat} {m : List Pr} (hc : checkI h = 0) (hR : Rep V m) (lv : Int) (l : List Int) : holdsB h lv l V = holdsR h lv l m := by
  unfold holdsB holdsR
  rw [right_same hc hR l]
  cases hr : rightR h l m with
  | false => simp
  | true =>
    have hr2 := hr
    rw [← right_same hc hR l] at hr2
    unfold rightM at hr2
    rw [Bool.and_eq_true, Bool.and_eq_true] at hr2
    have h64 := (check_zero hc).1
    have hf := full_of_row ((row_same h.length h64 l).symm.trans hr2.1)
    rw [keeps_same hc hR hf hr2.2.1 (askN_lt lv)]
end Go.Proofs.YtkaldidcekcpnaaGreatDoor
