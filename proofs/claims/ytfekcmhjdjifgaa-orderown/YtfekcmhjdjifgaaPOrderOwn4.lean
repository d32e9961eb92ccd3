/- Walks and plain facts that the proof of the statement OrderOwn uses, joined: OrdN OrdP OrdAD OrdW OrdAE. Conditions: each theorem's own. -/
import Derived.BigQuiet
import Derived.Deep.QuietTactic
import Derived.Deep.RegionHeld
import Derived.Deep.MidRow
import Derived.Test.YtfekcmhjdjifgaaPOrderOwn0
import Derived.Test.YtfekcmhjdjifgaaPOrderOwn1
import Derived.Test.YtfekcmhjdjifgaaPOrderOwn2
import Derived.Test.YtfekcmhjdjifgaaPOrderOwn3
namespace Go.Proofs.Ytfekcmhjdjifgaa
set_option maxRecDepth 100000
open Go.RowKit

/-- The two histories: the second transaction reads x. -/
def sp8 (v1 v2 : Value) (x : Int) : List TxnV := [⟨0, 1, 2, v1, [⟨true, 0, 5⟩, ⟨true, 0, 6⟩]⟩, ⟨1, 3, 4, v2, [⟨false, 0, x⟩]⟩]
theorem sp8_ok (v1 v2 : Value) (x : Int) (hx : x = 5 ∨ x = 6) : ∀ t ∈ sp8 v1 v2 x, t.ok := by
  intro t ht
  simp [sp8] at ht
  rcases ht with rfl | rfl <;> refine ⟨?_, fun o ho => ?_⟩
  · refine ⟨?_, ?_, ?_⟩ <;> simp [IntOk]
  · simp at ho
    rcases ho with rfl | rfl <;> refine ⟨?_, ?_⟩ <;> simp [IntOk]
  · refine ⟨?_, ?_, ?_⟩ <;> simp [IntOk]
  · simp at ho
    subst ho
    rcases hx with rfl | rfl <;> refine ⟨?_, ?_⟩ <;> simp [IntOk]
theorem sp8_short (v1 v2 : Value) (x : Int) : Short (sp8 v1 v2 x) := by
  intro t ht
  simp [sp8] at ht
  rcases ht with rfl | rfl <;> simp
theorem sp8_check5 (v1 v2 : Value) : checkI (sp8 v1 v2 5) = 0 := by rfl
theorem sp8_check6 (v1 v2 : Value) : checkI (sp8 v1 v2 6) = 0 := by rfl
theorem sp8_ses5 (v1 v2 : Value) : hasR (sesM (sp8 v1 v2 5)) 0 1 = false := (hasR_prs (sesP (sp8 v1 v2 5)) 2 (by omega) 0 1 (by omega) (by omega)).trans rfl
theorem sp8_tim5 (v1 v2 : Value) : hasR (timM (sp8 v1 v2 5)) 0 1 = true := (hasR_prs (timP (sp8 v1 v2 5)) 2 (by omega) 0 1 (by omega) (by omega)).trans rfl
theorem sp8_fro5 (v1 v2 : Value) : hasR (froM (sp8 v1 v2 5)) 0 1 = true := (hasR_prs (froP (sp8 v1 v2 5)) 2 (by omega) 0 1 (by omega) (by omega)).trans rfl
theorem sp8_reads6 (v1 v2 : Value) : readsTo (sp8 v1 v2 6) 2 = [[], [(0, 0)]] := by rfl
theorem sp8_keys6 (v1 v2 : Value) : keysTo (sp8 v1 v2 6) 2 = [[0], []] := by rfl
theorem Row.cellAt {w : World} {g o n cap size : Nat} {cs : List Value} (h : Row w (.slice (some ⟨g, o, none⟩) n cap) n size cs) (i : Nat) (hn : 0 < n) (hi : i < n * size) : w.cell? ⟨g, o + i, none⟩ = cs[i]? := by
  obtain ⟨_, ao, cap', he, _, _, hc⟩ := h
  cases he
  obtain ⟨b, off, hbo, hcell⟩ := hc hn
  cases hbo
  exact hcell i hi
theorem Row.setFar {w : World} {g o n cap size : Nat} {cs : List Value} (h : Row w (.slice (some ⟨g, o, none⟩) n cap) n size cs) {p : Addr} (hp : p.block ≠ g) (v : Value) : Row (w.setCell p v) (.slice (some ⟨g, o, none⟩) n cap) n size cs := by
  obtain ⟨hl, ao, cap', he, hm, hz, hc⟩ := h
  cases he
  refine ⟨hl, _, _, rfl, hm, hz, fun hn => ?_⟩
  obtain ⟨b, off, hbo, hcell⟩ := hc hn
  cases hbo
  refine ⟨_, _, rfl, fun i hi => ?_⟩
  rw [World.cell?_setCell_other _ _ _ _ (fun e => hp (by rw [e]))]
  exact hcell i hi
theorem Row.setIn {w : World} {g o n cap size : Nat} {cs : List Value} (h : Row w (.slice (some ⟨g, o, none⟩) n cap) n size cs) {k : Nat} (hk : k < n * size) (v : Value) : Row (w.setCell ⟨g, o + k, none⟩ v) (.slice (some ⟨g, o, none⟩) n cap) n size (cs.set k v) := by
  obtain ⟨hl, ao, cap', he, hm, hz, hc⟩ := h
  cases he
  refine ⟨by rw [List.length_set]; exact hl, _, _, rfl, hm, hz, fun hn => ?_⟩
  obtain ⟨b, off, hbo, hcell⟩ := hc hn
  cases hbo
  refine ⟨_, _, rfl, fun i hi => ?_⟩
  by_cases e : i = k
  · subst e
    have h1 := hcell i hi
    rw [List.getElem?_eq_getElem (by omega)] at h1
    rw [World.cell?_setCell_same _ _ _ h1, List.getElem?_set_self (by omega)]
  · have hne : (⟨g, o + k, none⟩ : Addr) ≠ ⟨g, o + i, none⟩ := by
      intro q
      injection q with _ q2
      omega
    rw [World.cell?_setCell_other _ _ _ _ hne, List.getElem?_set_ne (by omega)]
    exact hcell i hi
theorem two_rows {α : Type} {R : List (Value × α)} {x y : α} (h : R.map (·.2) = [x, y]) : ∃ a b, R = [(a, x), (b, y)] := by
  match R, h with
  | [(a, _), (b, _)], h =>
    simp at h
    obtain ⟨rfl, rfl⟩ := h
    exact ⟨a, b, rfl⟩
theorem eqlRd (k f k' f' : Int) (w : World) : Sem.run Try.prog (binOp .eql 51 (.agg #[.int .i64 k, .int .i64 f]) (.agg #[.int .i64 k', .int .i64 f'])) w = .ok (.bool (k == k' && f == f')) w := by
  have hS : Try.prog.underlying 51 = some (.struct (Try.prog.fieldsOf 51)) := by kernel_rfl
  have hp : Try.prog.stoodInHeld 51 = false := by kernel_rfl
  have u3 := Try.underlying3
  rw [run_eql_struct, show (10000 : Nat) = 9999 + 1 from rfl, run_equalIn_agg w 9999 51 _ _ hS hp]
  simp only [Program.fieldsOf, Try.underlying51]
  go_simp
  by_cases h1 : k = k' <;> by_cases h2 : f = f' <;> simp [h1, h2]
theorem guardRd (o : BinOp) (x y : Operand) (k f k' f') (w : World) : Sem.run Try.prog (eqGuard o 51 x y (.agg #[.int .i64 k, .int .i64 f]) (.agg #[.int .i64 k', .int .i64 f'])) w = .ok () w :=
  run_eqGuard_agg w o 51 x y _ _ (by kernel_rfl)
set_option maxHeartbeats 16000000 in
theorem speaks8_any (w : World) :
    Calls Try.prog 6 #[] w fun e w' => e = .returned (.bool true) ∧ Below w.heap.size w w' := by
  have C1 := fun (wx : World) => Lib.hid (write_op 0 5 wx)
  have C2 := fun (wx : World) => Lib.hid (write_op 0 6 wx)
  have C3 := fun (wx : World) => Lib.hid (read_any 0 5 wx)
  go_enter Try.func6, Try.ntmps6
  go_wp2_with fail
  refine ((C1 w).out).mono ?_
  rintro e w1 ⟨rfl, hb1⟩
  go_wp2_with fail
  refine ((C2 _).out).mono ?_
  rintro e w2 ⟨rfl, hb2⟩
  go_wp2_with fail
  refine ((C3 _).out).mono ?_
  rintro e w3 ⟨rfl, hb3⟩
  clear C1 C2 C3
  have hbw := below_then hb1 hb2
  have hbx := below_then (hbw.alloc hbw.size (.cells #[.bool true, .int .i64 0, .int .i64 5, .bool true, .int .i64 0, .int .i64 6] 56)) hb3
  have hb4 := (hbx.alloc hbx.size (.cells #[.bool false, .int .i64 0, .int .i64 5] 56)).alloc (by simp; exact Nat.le_succ_of_le hbx.size) (.cells #[.int .i64 0, .int .i64 1, .int .i64 2, .slice (some ⟨w2.heap.size, 0, none⟩) 2 2, .int .i64 1, .int .i64 3, .int .i64 4, .slice (some ⟨w3.heap.size, 0, none⟩) 1 1] 46)
  have hO1 : Ops _ (.slice (some ⟨w2.heap.size, 0, none⟩) 2 2) [⟨true, 0, 5⟩, ⟨true, 0, 6⟩] := (((Row.of_owns (World.ownsRow_lit (base := 0) (e := 56) (size := 3) w2 #[.bool true, .int .i64 0, .int .i64 5, .bool true, .int .i64 0, .int .i64 6] 2 (Nat.zero_le _) (by decide) rfl)).below hb3).below (box_below w3 (.cells #[.bool false, .int .i64 0, .int .i64 5] 56))).below (box_below _ (.cells #[.int .i64 0, .int .i64 1, .int .i64 2, .slice (some ⟨w2.heap.size, 0, none⟩) 2 2, .int .i64 1, .int .i64 3, .int .i64 4, .slice (some ⟨w3.heap.size, 0, none⟩) 1 1] 46))
  have hO2 : Row _ (.slice (some ⟨w3.heap.size, 0, none⟩) 1 1) 1 3 _ := (Row.of_owns (World.ownsRow_lit (base := 0) (e := 56) (size := 3) w3 #[.bool false, .int .i64 0, .int .i64 5] 1 (Nat.zero_le _) (by decide) rfl)).below (box_below _ (.cells #[.int .i64 0, .int .i64 1, .int .i64 2, .slice (some ⟨w2.heap.size, 0, none⟩) 2 2, .int .i64 1, .int .i64 3, .int .i64 4, .slice (some ⟨w3.heap.size, 0, none⟩) 1 1] 46))
  have hR : Row _ _ 2 4 _ := Row.of_owns (World.ownsRow_lit (base := 0) (e := 46) (size := 4) (w3.alloc (.cells #[.bool false, .int .i64 0, .int .i64 5] 56)) #[.int .i64 0, .int .i64 1, .int .i64 2, .slice (some ⟨w2.heap.size, 0, none⟩) 2 2, .int .i64 1, .int .i64 3, .int .i64 4, .slice (some ⟨w3.heap.size, 0, none⟩) 1 1] 2 (Nat.zero_le _) (by decide) rfl)
  rw [show (w3.alloc (.cells #[.bool false, .int .i64 0, .int .i64 5] 56)).heap.size = w3.heap.size + 1 from by simp] at hR
  have h03 : w.heap.size ≤ w3.heap.size := hbx.size
  have h23 : w2.heap.size < w3.heap.size := by have := hb3.size; simp at this; omega
  have f2 : (w3.alloc (.cells #[.bool false, .int .i64 0, .int .i64 5] 56)).frozen? ⟨w3.heap.size, 2, none⟩ = false := frozen_of_row _ _ _ _ _ (heap_alloc_new w3 (.cells #[.bool false, .int .i64 0, .int .i64 5] 56))
  have f2 := ((box_below _ (.cells #[.int .i64 0, .int .i64 1, .int .i64 2, .slice (some ⟨w2.heap.size, 0, none⟩) 2 2, .int .i64 1, .int .i64 3, .int .i64 4, .slice (some ⟨w3.heap.size, 0, none⟩) 1 1] 46)).frozen (p := ⟨w3.heap.size, 2, none⟩) (by simp)).trans f2
  go_wp2_with fail
  generalize (w3.alloc (.cells #[.bool false, .int .i64 0, .int .i64 5] 56)).alloc (.cells #[.int .i64 0, .int .i64 1, .int .i64 2, .slice (some ⟨w2.heap.size, 0, none⟩) 2 2, .int .i64 1, .int .i64 3, .int .i64 4, .slice (some ⟨w3.heap.size, 0, none⟩) 1 1] 46) = w4 at *
  generalize w2.heap.size = a1 at *
  generalize w3.heap.size = a2 at *
  clear hb1 hb2 hb3 hbw hbx
  have hT : Txns w4 (.slice (some ⟨a2 + 1, 0, none⟩) 2 2) (sp8 (.slice (some ⟨a1, 0, none⟩) 2 2) (.slice (some ⟨a2, 0, none⟩) 1 1) 5) := ⟨hR, fun t ht => by
    simp [sp8] at ht
    rcases ht with rfl | rfl
    · exact hO1
    · exact hO2⟩
  refine (of_done _ _ _ hT (sp8_ok _ _ _ (.inl rfl)) (sp8_short _ _ _) (sp8_check5 _ _)).mono ?_
  rintro e w5 ⟨⟨B, rfl, hB, bm, m, c, vk, vr, K, R, hO, -⟩, hb5⟩
  have hO : OrdAt w5 B 2 (sesM (sp8 (.slice (some ⟨a1, 0, none⟩) 2 2) (.slice (some ⟨a2, 0, none⟩) 1 1) 5)) (timM (sp8 (.slice (some ⟨a1, 0, none⟩) 2 2) (.slice (some ⟨a2, 0, none⟩) 1 1) 5)) (froM (sp8 (.slice (some ⟨a1, 0, none⟩) 2 2) (.slice (some ⟨a2, 0, none⟩) 1 1) 5)) (.map (some bm)) vk vr false := hO
  have hS := sp8_ses5 (.slice (some ⟨a1, 0, none⟩) 2 2) (.slice (some ⟨a2, 0, none⟩) 1 1)
  have hTi := sp8_tim5 (.slice (some ⟨a1, 0, none⟩) 2 2) (.slice (some ⟨a2, 0, none⟩) 1 1)
  have hF := sp8_fro5 (.slice (some ⟨a1, 0, none⟩) 2 2) (.slice (some ⟨a2, 0, none⟩) 1 1)
  generalize sesM (sp8 (.slice (some ⟨a1, 0, none⟩) 2 2) (.slice (some ⟨a2, 0, none⟩) 1 1) 5) = S5 at *
  generalize timM (sp8 (.slice (some ⟨a1, 0, none⟩) 2 2) (.slice (some ⟨a2, 0, none⟩) 1 1) 5) = T5 at *
  generalize froM (sp8 (.slice (some ⟨a1, 0, none⟩) 2 2) (.slice (some ⟨a2, 0, none⟩) 1 1) 5) = F5 at *
  have HO := Lib.hid (fun wx (hx : Below w5.heap.size w5 wx) => hO.below hx hO.lt)
  have q1 := hO.cS
  have q2 := hO.rT
  clear hT hO
  go_wp2_with (with_reducible refine wpList_load_part q2 _ rfl (by kernel_rfl) rfl ?_)
  refine (rhasR_any _ _ _ _).mono ?_
  rintro e w6 ⟨rfl, hb6⟩
  rw [hTi]
  have hO := HO.out _ hb6
  have q2 := hO.rF
  clear hO
  go_wp2_with (with_reducible refine wpList_load_part q2 _ rfl (by kernel_rfl) rfl ?_)
  refine (rhasR_any _ _ _ _).mono ?_
  rintro e w7 ⟨rfl, hb7⟩
  rw [hF]
  have hb7' := below_then hb6 hb7
  have hO := HO.out _ hb7'
  have q2 := hO.rS
  clear hO
  go_wp2_with (with_reducible refine wpList_load_part q2 _ rfl (by kernel_rfl) rfl ?_)
  refine (rhasR_any _ _ _ _).mono ?_
  rintro e w8 ⟨rfl, hb8⟩
  rw [hS]
  have hb8' := below_then hb5 (below_then hb7' hb8)
  have hR8 := hR.below hb8'
  have hO8 := hO2.below hb8'
  have hO18 := hO1.below hb8'
  have ha2 : a2 < w4.heap.size := block_lt (hO2.cellAt 2 (by decide) (by decide))
  have f8 := (hb8'.frozen (p := ⟨a2, 2, none⟩) ha2).trans f2
  have c7 := hR8.cellAt 7 (by decide) (by decide)
  have c2 := hO8.cellAt 2 (by decide) (by decide)
  simp only [Nat.zero_add] at c7 c2
  have c7 : w8.cell? ⟨a2 + 1, 7, none⟩ = some (.slice (some ⟨a2, 0, none⟩) 1 1) := c7
  have c2 : w8.cell? ⟨a2, 2, none⟩ = some (.int .i64 5) := c2
  clear HO hS hTi hF f2 hR hO1 hO2 q1
  go_wp2_with fail
  have hR9 := hR8.setFar (p := ⟨a2, 2, none⟩) (by simp) (.int .i64 6)
  have hO19 : Ops _ (.slice (some ⟨a1, 0, none⟩) 2 2) [⟨true, 0, 5⟩, ⟨true, 0, 6⟩] := Row.setFar (p := ⟨a2, 2, none⟩) hO18 (by simp; omega) (.int .i64 6)
  have hO29 := hO8.setIn (k := 2) (by decide) (.int .i64 6)
  have hb9 : Below w.heap.size w (w8.setCell ⟨a2, 2, none⟩ (.int .i64 6)) := (below_then hb4 hb8').setCell h03 _
  generalize w8.setCell ⟨a2, 2, none⟩ (.int .i64 6) = w9 at *
  have hT : Txns w9 (.slice (some ⟨a2 + 1, 0, none⟩) 2 2) (sp8 (.slice (some ⟨a1, 0, none⟩) 2 2) (.slice (some ⟨a2, 0, none⟩) 1 1) 6) := ⟨hR9, fun t ht => by
    simp [sp8] at ht
    rcases ht with rfl | rfl
    · exact hO19
    · exact hO29⟩
  refine (of_done _ _ _ hT (sp8_ok _ _ _ (.inr rfl)) (sp8_short _ _ _) (sp8_check6 _ _)).mono ?_
  rintro e w10 ⟨⟨B2, rfl, hB2, bm2, m2, c2, vk2, vr2, K2, R2, hO2, hM2, -, hF2, hK2, hR2⟩, hb10⟩
  have hO2 : OrdAt w10 B2 2 _ _ _ (.map (some bm2)) vk2 vr2 true := hO2
  obtain ⟨k0, k1, rfl⟩ := two_rows (hK2.trans (sp8_keys6 _ _))
  obtain ⟨r0, r1, rfl⟩ := two_rows (hR2.trans (sp8_reads6 _ _))
  have hr : Row w10 vr2 2 1 [r0, r1] := Row.of_owns hF2.rr
  have h1 : Row w10 r1 1 2 [.int .i64 0, .int .i64 0] := Row.of_owns (hF2.re (r1, [(0, 0)]) (by simp))
  have hbz := below_then hb9 hb10
  clear hF2 hT hR9 hO19 hO29 hR8 hO8 hO18 hK2 hR2
  obtain ⟨_, _, _, rfl, _, _, hc⟩ := id hr
  obtain ⟨gr, og, rfl, hcr⟩ := hc (by decide)
  obtain ⟨_, _, cp, rfl, _, _, hc1⟩ := id h1
  obtain ⟨g1, o1, rfl, hd1⟩ := hc1 (by decide)
  have u1 : w10.cell? ⟨gr, og + 1, none⟩ = some (.slice (some ⟨g1, o1, none⟩) 1 cp) := hcr 1 (by decide)
  have u2 : w10.cell? ⟨g1, o1, none⟩ = some (.int .i64 0) := hd1 0 (by decide)
  have u3 : w10.cell? ⟨g1, o1 + 1, none⟩ = some (.int .i64 0) := hd1 1 (by decide)
  have q0 := hO2.cN
  have q1 := hO2.cS
  have q2 := hO2.cR
  have q3 := hO2.cM
  have E := eqlRd
  have G := guardRd
  have HK := lookI_run (t := 33) (el := 30) (w := w10) false keyI mapIS 0 (zeroS _) hM2 (show InI 0 by decide)
  have hw : wrsTo [(k0, [0]), (k1, [])] 2 0 = some 1 := by simp [wrsTo, wrsRow, putF, withS, bt]
  simp only [List.length_cons, List.length_nil, Nat.zero_add, Nat.reduceAdd, hw, Bool.false_eq_true, if_false, Option.getD_some, eS] at HK
  clear hM2 hw hcr hc hc1 hd1 hr h1 hO2
  go_wp2_with fail
  go_ret
  exact ⟨rfl, hbz⟩
end Go.Proofs.Ytfekcmhjdjifgaa

namespace Go.Proofs.Ytfekcmhjdjifgaa
set_option maxRecDepth 100000
open Go.RowKit

/-- The block of what follows of a history, without what it reaches. -/
def OrdB (w : World) (B : Nat) (h : List TxnV) : Prop := ∃ vm vk vr, OrdAt w B h.length (sesM h) (timM h) (froM h) vm vk vr (soundTo h h.length)
theorem OrdIs.blk {w : World} {B b : Nat} {h : List TxnV} (hO : OrdIs w B b h) : OrdB w B h := by
  obtain ⟨bm, m, c, vk, vr, K, R, h1, _⟩ := hO
  exact ⟨_, _, _, h1⟩
theorem OrdB.rS {w : World} {B : Nat} {h : List TxnV} (hO : OrdB w B h) : w.rangeAt B 1 (rowsA (sesM h)).toList := by obtain ⟨_, _, _, h⟩ := hO; exact h.rS
theorem OrdB.rT {w : World} {B : Nat} {h : List TxnV} (hO : OrdB w B h) : w.rangeAt B 65 (rowsA (timM h)).toList := by obtain ⟨_, _, _, h⟩ := hO; exact h.rT
theorem OrdB.rF {w : World} {B : Nat} {h : List TxnV} (hO : OrdB w B h) : w.rangeAt B 129 (rowsA (froM h)).toList := by obtain ⟨_, _, _, h⟩ := hO; exact h.rF
theorem OrdB.cN {w : World} {B : Nat} {h : List TxnV} (hO : OrdB w B h) : w.cell? ⟨B, 0, none⟩ = some (.int .i64 h.length) := by obtain ⟨_, _, _, h⟩ := hO; exact h.cN
theorem OrdB.cS {w : World} {B : Nat} {h : List TxnV} (hO : OrdB w B h) : w.cell? ⟨B, 196, none⟩ = some (.bool (soundTo h h.length)) := by obtain ⟨_, _, _, h⟩ := hO; exact h.cS
end Go.Proofs.Ytfekcmhjdjifgaa

namespace Go.Proofs.Ytfekcmhjdjifgaa
set_option maxRecDepth 100000
open Go.RowKit

set_option maxHeartbeats 8000000 in
theorem sametxn_any (s b c : Int) (va vb : Value) (l : List OpV) (w : World) (ha : Ops w va l) (hb : Ops w vb l) :
    Calls Try.prog 24 #[.agg #[.int .i64 s, .int .i64 b, .int .i64 c, va], .agg #[.int .i64 s, .int .i64 b, .int .i64 c, vb]] w fun e w' => e = .returned (.bool true) ∧ Below w.heap.size w w' := by
  obtain ⟨ao, cap, rfl, hal⟩ := ha.form
  obtain ⟨bo, cap', rfl, _⟩ := hb.form
  have N := neqOp
  have G := guardOp
  go_enter Try.func24, Try.ntmps24
  go_wp2_with fail
  have q1 : ((w.alloc (.cells #[.int .i64 s, .int .i64 b, .int .i64 c, .slice ao l.length cap] 46)).alloc (.cells #[.int .i64 s, .int .i64 b, .int .i64 c, .slice bo l.length cap'] 46)).cell? ⟨w.heap.size, 3, none⟩ = some (.slice ao l.length cap) := by
    rw [(box_below (w.alloc (.cells #[.int .i64 s, .int .i64 b, .int .i64 c, .slice ao l.length cap] 46)) (.cells #[.int .i64 s, .int .i64 b, .int .i64 c, .slice bo l.length cap'] 46)).cell (p := ⟨w.heap.size, 3, none⟩) (by simp), cell_of_row _ _ _ _ _ _ (heap_alloc_new w _)]; rfl
  have q2 : ((w.alloc (.cells #[.int .i64 s, .int .i64 b, .int .i64 c, .slice ao l.length cap] 46)).alloc (.cells #[.int .i64 s, .int .i64 b, .int .i64 c, .slice bo l.length cap'] 46)).cell? ⟨w.heap.size + 1, 3, none⟩ = some (.slice bo l.length cap') := by
    rw [cell_of_row _ _ _ _ _ _ (heap_alloc2_new w (.cells #[.int .i64 s, .int .i64 b, .int .i64 c, .slice ao l.length cap] 46) (.cells #[.int .i64 s, .int .i64 b, .int .i64 c, .slice bo l.length cap'] 46))]; rfl
  have hbw := (box_below w (.cells #[.int .i64 s, .int .i64 b, .int .i64 c, .slice ao l.length cap] 46)).alloc (by simp) (.cells #[.int .i64 s, .int .i64 b, .int .i64 c, .slice bo l.length cap'] 46)
  generalize (w.alloc (.cells #[.int .i64 s, .int .i64 b, .int .i64 c, .slice ao l.length cap] 46)).alloc (.cells #[.int .i64 s, .int .i64 b, .int .i64 c, .slice bo l.length cap'] 46) = w2 at *
  have l1 := block_lt q1
  have l2 := block_lt q2
  simp only at l1 l2
  go_loopw [37] (fun i wr => ∃ k : Nat, k ≤ l.length ∧ i = .int .i64 k ∧ Below w2.heap.size w2 wr) (fun i _ => l.length - (intOf i).toNat)
  case atStart => exact ⟨0, by omega, rfl, Below.refl _ _⟩
  case round =>
    obtain ⟨k, hk, rfl, hbr⟩ := hrel
    have r1 := (hbr.cell (p := ⟨w.heap.size, 3, none⟩) l1).trans q1
    have r2 := (hbr.cell (p := ⟨w.heap.size + 1, 3, none⟩) l2).trans q2
    have hb2 := below_then hbw hbr
    by_cases hlt : k < l.length
    · have hki : (k : Int) < (l.length : Int) := by omega
      obtain ⟨g, o, hao, c0, c1, c2⟩ := (ha.below hb2).at hlt
      cases hao
      obtain ⟨g', o', hao, d0, d1, d2⟩ := (hb.below hb2).at hlt
      cases hao
      generalize l[k].wr = x at *
      generalize l[k].key = y at *
      generalize l[k].val = z at *
      go_wp2_with fail
      go_quiet (fail)
      go_wp2_with fail
      go_roundw
      case rel => exact ⟨k + 1, by omega, by go_num, below_drewN hbr _⟩
      case measure => simp [intOf]; omega
    · have hk2 : k = l.length := by omega
      subst hk2
      go_wp2_with fail
      go_ret
      exact ⟨rfl, hb2⟩
end Go.Proofs.Ytfekcmhjdjifgaa

namespace Go.Proofs.Ytfekcmhjdjifgaa
set_option maxRecDepth 100000
open Go.RowKit

theorem OrdB.below {w w' : World} {B : Nat} {h : List TxnV} (hO : OrdB w B h) (hb : Below w.heap.size w w') : OrdB w' B h := by
  obtain ⟨vm, vk, vr, h1⟩ := hO
  exact ⟨_, _, _, h1.below hb h1.lt⟩
theorem OrdB.other {w : World} {B : Nat} {h : List TxnV} (hO : OrdB w B h) {k : Addr} (hk : B ≠ k.block) (v : Value) : OrdB (w.setCell k v) B h := by
  obtain ⟨vm, vk, vr, h1⟩ := hO
  exact ⟨_, _, _, h1.other hk v⟩
theorem row4_new (w : World) (x y z u : Value) (t : TypeId) : ∀ j v, [x, y, z, u][j]? = some v → (w.alloc (.cells #[x, y, z, u] t)).cell? ((⟨w.heap.size, 0, none⟩ : Addr).add j) = some v := fun j v hv => by
  rw [Addr.add_lit, cell_of_row _ _ _ _ _ _ (heap_alloc_new w _)]
  simpa using hv
theorem may_first {h : List TxnV} (hc : checkI h = 0) {k : Nat} (hk : k < h.length) : ∃ x r, h[k].l = x :: r ∧ (0 ≤ x.key ∧ x.key < 64) ∧ 0 ≤ h[k].s ∧ h[k].s < 64 := by
  have h1 := (rowR_iff.1 (may_rows (may_of hc) k hk)).1
  have h2 := (check_zero hc).2.2.2 _ (List.getElem_mem hk)
  unfold mayT at h1
  simp only [Bool.and_eq_true, decide_eq_true_eq] at h1
  cases e : h[k].l with
  | nil => rw [e] at h1; simp at h1
  | cons x r => exact ⟨x, r, rfl, h2 x (by rw [e]; simp), h1.1.1, h1.1.2.1⟩
/-- What the changing loop needs of the row that the law made. -/
structure OwnK (W : World) (gv b0 : Nat) (av : Option Addr) (D : List TxnV) : Prop where
  a : 0 < D.length → av = some ⟨gv, 0, none⟩
  n : OwnN W gv b0 0 D
  g : 0 < D.length → b0 ≤ gv ∧ gv < W.heap.size
  p : D.Pairwise ApartT
  e : ∀ t ∈ D, t.v.ownBlock ≠ some gv
  l : ∀ t ∈ D, ∀ g, t.v.ownBlock = some g → b0 ≤ g ∧ g < W.heap.size
theorem OwnK.of {W : World} {b0 : Nat} {v : Value} {D : List TxnV} (h : OwnH W b0 v D) : ∃ av cap gv, v = .slice av D.length cap ∧ OwnK W gv b0 av D := by
  have hl : ∀ t ∈ D, ∀ g, t.v.ownBlock = some g → b0 ≤ g ∧ g < W.heap.size := fun t ht g hg => World.ownsRow.lt (h.2.1 t ht) g hg
  rcases h.1.split with ⟨rfl, rfl⟩ | ⟨g, cap, rfl, hg⟩
  · exact ⟨none, 0, 0, rfl, fun q => by simp at q, fun j hj => by simp at hj, fun q => by simp at q, h.2.2, fun t ht => by simp at ht, hl⟩
  · refine ⟨_, cap, g, rfl, fun _ => rfl, OwnN.first h, fun _ => ⟨hg, (World.ownsRow.lt h.1 g rfl).2⟩, h.2.2, fun t ht e => ?_, hl⟩
    rcases ownH_apart h.1 (h.2.1 t ht) with q | q
    · rw [q] at e; cases e
    · exact q (by rw [e]; rfl)
set_option maxHeartbeats 16000000 in
theorem oown_walk (va : Value) (h : List TxnV) (w : World) (hT : Txns w va h) (hok : ∀ t ∈ h, t.ok) (hsh : Short h) :
    Calls Try.prog 5 #[va] w fun e w' => e = .returned (.bool true) ∧ Below w.heap.size w w' := by
  have HT := Lib.hid (fun wx (hx : Below w.heap.size w wx) => hT.below hx)
  obtain ⟨ao, cap, rfl, hal⟩ := hT.form
  have HOK := Lib.hid hok
  have HSH := Lib.hid hsh
  obtain ⟨i0, hi, hz0, hz1, hz2⟩ := info_parts infoOp
  obtain ⟨i1, hj, hy0, hy1, hy2⟩ := info_parts infoTxn
  clear hT hok
  go_enter Try.func5, Try.ntmps5
  go_wp2_with fail
  refine (speaks8_any _).mono ?_
  rintro e w1 ⟨rfl, hb1⟩
  go_wp2_with fail
  refine (big_any _ h _ (HT.out _ hb1) hsh).mono ?_
  rintro e w2 ⟨rfl, hb2⟩
  have hb2 := below_then hb1 hb2
  clear hb1 hsh
  by_cases hbig : bigI h = 1
  · rw [hbig]
    go_wp2_with fail
    go_ret
    exact ⟨rfl, hb2⟩
  have h0 : bigI h = 0 := by
    unfold bigI at hbig ⊢; split at hbig
    · exact (hbig rfl).elim
    · rename_i hn; rw [if_neg hn]
  obtain ⟨hs1, hs2⟩ := big_no h0
  rw [h0]
  clear hbig h0
  go_wp2_with fail
  refine (rcheck_any _ h _ (HT.out _ hb2) HSH.out).mono ?_
  rintro e w3 ⟨rfl, hb3⟩
  have hb3 := below_then hb2 hb3
  clear hb2
  rcases checkR_cases h with ⟨hc, hmay⟩ | hc | hc
  rotate_left
  · rw [hc]
    go_wp2_with fail
    go_ret
    exact ⟨rfl, hb3⟩
  · rw [hc]
    go_wp2_with fail
    go_ret
    exact ⟨rfl, hb3⟩
  have HC : Hid (checkI h = 0) := Lib.hid (by rw [check_ref]; exact hc)
  rw [hc]
  clear hc hmay
  by_cases hlong : 20 < h.length
  · have m1 : (20 : Int) < (h.length : Int) := by omega
    go_wp2_with fail
    go_ret
    exact ⟨rfl, hb3⟩
  have m2 : ¬ (20 : Int) < (h.length : Int) := by omega
  have HOPS := Lib.hid hs2
  clear hs1 hs2
  go_wp2_with fail
  clear m2
  go_loopw [3, 28] (fun ov i wr => ∃ (k : Nat) (D : List TxnV), k ≤ h.length ∧ i = .int .i64 k ∧ D.map txE = (h.take k).map txE ∧ OwnH wr w3.heap.size ov D ∧ Below w3.heap.size w3 wr) (fun _ i _ => h.length - (intOf i).toNat)
  case atStart => exact ⟨0, [], by omega, rfl, rfl, OwnH.nil _ _, Below.refl _ _⟩
  case round =>
    obtain ⟨k, D, hk, rfl, hD, hM, hb⟩ := hrel
    obtain ⟨av, cv, rfl⟩ : ∃ a cp, u3 = .slice a D.length cp := by
      rcases hM.1.split with ⟨rfl, rfl⟩ | ⟨g, cp, rfl, _⟩
      · exact ⟨none, 0, rfl⟩
      · exact ⟨_, _, rfl⟩
    have hbw := hb3.trans (hb.mono hb3.size)
    by_cases hlt : k < h.length
    · have hki : (k : Int) < (h.length : Int) := by omega
      obtain ⟨g, o, hao, c0, c1, c2, c3⟩ := (HT.out _ hbw).at hlt
      cases hao
      have hDl : D.length = k := by have := congrArg List.length hD; simpa [Nat.min_eq_left hk] using this
      have hDk : D.length ≤ k := by omega
      clear hDl
      have HTE : Hid ((h.take (k + 1)).map txE = D.map txE ++ [txE h[k]]) := Lib.hid (by rw [List.take_succ_eq_append_getElem hlt, List.map_append, hD]; rfl)
      have hOps := fun wx (hx : Below w.heap.size w wx) => (HT.out wx hx).ops hlt
      have hll : h[k].l.length ≤ 1200 := by
        have q1 := opsN_take h k hlt
        have q2 := opsN_le h (k + 1)
        have q3 := HOPS.out
        omega
      generalize h[k] = x at *
      obtain ⟨s, b, cc, v, l⟩ := x
      simp only at c0 c1 c2 c3 hOps hll
      obtain ⟨ai, capi, rfl, hli⟩ := (hOps wr hbw).form
      have hszr := hb.size
      have hbA := hbw.alloc hbw.size (.cells #[.int .i64 s, .int .i64 b, .int .i64 cc, .slice ai l.length capi] 46)
      have hbB := hbA.alloc hbA.size (.cells #[] 56)
      have hRow : Row ((wr.alloc (.cells #[.int .i64 s, .int .i64 b, .int .i64 cc, .slice ai l.length capi] 46)).alloc (.cells #[] 56)) (.slice ai l.length capi) l.length 3 (opV l) := hOps _ hbB
      obtain ⟨b0, b1, b2, b3⟩ := txnBlock wr (.int .i64 s) (.int .i64 b) (.int .i64 cc) (.slice ai l.length capi) 46
      have f3 : (wr.alloc (.cells #[.int .i64 s, .int .i64 b, .int .i64 cc, .slice ai l.length capi] 46)).frozen? ⟨wr.heap.size, 3, none⟩ = false := frozen_of_row _ _ _ _ _ (heap_alloc_new wr _)
      have hszA : (wr.alloc (.cells #[.int .i64 s, .int .i64 b, .int .i64 cc, .slice ai l.length capi] 46)).heap.size = wr.heap.size + 1 := by simp
      have hLit : ((wr.alloc (.cells #[.int .i64 s, .int .i64 b, .int .i64 cc, .slice ai l.length capi] 46)).alloc (.cells #[] 56)).ownsRow (wr.heap.size + 1) 56 3 (.slice (some ⟨wr.heap.size + 1, 0, none⟩) 0 0) 0 [] := own_made (by simp) (by simp)
      have HM := Lib.hid hM
      have HMl := Lib.hid hM.lt
      have HB := Lib.hid hb
      clear hOps hM
      go_wp2_with (first | (at_builtin; refine wpList_append_row rfl _ _ 44 rfl (wr.heap.size + 1) 56 i0 (.agg #[.bool false, .int .i64 0, .int .i64 0]) 3 24 Try.underlying44 hi hz0 hz1 hz2 rfl (by decide) _ 0 [] rfl hLit _ l.length _ rfl hRow ?d1 ?d2 ?d3 ?d4 ?_) | go_in)
      case d1 => exact opV_one _
      case d2 => unfold maxLen; omega
      case d3 => omega
      case d4 => simp
      intro v7 w7 hown7 hg7
      have hO7 : Own w7 (wr.heap.size + 1) v7 l := by
        refine ⟨by rw [opV_len], ?_⟩
        have := hown7.2
        simpa using this
      obtain ⟨a7, c7, rfl⟩ : ∃ a c, v7 = .slice a l.length c := by
        obtain ⟨a, c, e, _⟩ := hO7.ops.form
        exact ⟨a, c, e⟩
      have hgr : ∀ j, (Value.slice (some ⟨wr.heap.size + 1, 0, none⟩) 0 0).ownBlock = some j → wr.heap.size + 1 ≤ j := by intro j hj; simp [Value.ownBlock] at hj; omega
      have hbC : Below wr.heap.size wr w7 := (((Below.refl wr.heap.size wr).alloc (Nat.le_refl _) (.cells #[.int .i64 s, .int .i64 b, .int .i64 cc, .slice ai l.length capi] 46)).alloc (by simp) (.cells #[] 56)).grown hg7 (by simp; omega) (by intro k hk; simp [Value.ownBlock] at hk; omega)
      have hne7 : some wr.heap.size ≠ (Value.slice (some ⟨wr.heap.size + 1, 0, none⟩) 0 0).ownBlock := by simp [Value.ownBlock]
      have hbx := box_below (wr.alloc (.cells #[.int .i64 s, .int .i64 b, .int .i64 cc, .slice ai l.length capi] 46)) (.cells #[] 56)
      have r0 := hg7.cell ((hbx.cell (p := ⟨wr.heap.size, 0, none⟩) (by simp)).trans b0) hne7
      have r1 := hg7.cell ((hbx.cell (p := ⟨wr.heap.size, 1, none⟩) (by simp)).trans b1) hne7
      have r2 := hg7.cell ((hbx.cell (p := ⟨wr.heap.size, 2, none⟩) (by simp)).trans b2) hne7
      have r3 := hg7.cell ((hbx.cell (p := ⟨wr.heap.size, 3, none⟩) (by simp)).trans b3) hne7
      have f7 := (World.grownBy.frozen_far hg7 ⟨wr.heap.size, 3, none⟩ (by simp; omega) hne7).trans ((hbx.frozen (p := ⟨wr.heap.size, 3, none⟩) (by simp)).trans f3)
      have hs7 : wr.heap.size + 1 < w7.heap.size := by have := hg7.size; simp at this; omega
      clear hg7 hown7 hRow hLit b0 b1 b2 b3 f3 hbA hbB c0 c1 c2 c3 hbx hgr hne7
      have e0 : (w7.setCell ⟨wr.heap.size, 3, none⟩ (.slice a7 l.length c7)).cell? ⟨wr.heap.size, 0, none⟩ = some (.int .i64 s) := by rw [World.cell?_setCell_other _ _ _ _ (fun q => by injection q with q1 q2; omega)]; exact r0
      have e1 : (w7.setCell ⟨wr.heap.size, 3, none⟩ (.slice a7 l.length c7)).cell? ⟨wr.heap.size, 1, none⟩ = some (.int .i64 b) := by rw [World.cell?_setCell_other _ _ _ _ (fun q => by injection q with q1 q2; omega)]; exact r1
      have e2 : (w7.setCell ⟨wr.heap.size, 3, none⟩ (.slice a7 l.length c7)).cell? ⟨wr.heap.size, 2, none⟩ = some (.int .i64 cc) := by rw [World.cell?_setCell_other _ _ _ _ (fun q => by injection q with q1 q2; omega)]; exact r2
      have e3 : (w7.setCell ⟨wr.heap.size, 3, none⟩ (.slice a7 l.length c7)).cell? ⟨wr.heap.size, 3, none⟩ = some (.slice a7 l.length c7) := World.cell?_setCell_same _ _ _ r3
      have hO8 : Own (w7.setCell ⟨wr.heap.size, 3, none⟩ (.slice a7 l.length c7)) (wr.heap.size + 1) (.slice a7 l.length c7) l := World.ownsRow.kept hO7 (grown_setC w7 ⟨wr.heap.size, 3, none⟩ _) (.inr (fun e => by have := (World.ownsRow.lt hO7 _ e).1; simp at this; omega))
      have hb8 : Below wr.heap.size wr (w7.setCell ⟨wr.heap.size, 3, none⟩ (.slice a7 l.length c7)) := hbC.setCell (Nat.le_refl _) _
      have hs8 : wr.heap.size + 1 < (w7.setCell ⟨wr.heap.size, 3, none⟩ (.slice a7 l.length c7)).heap.size := by simpa using hs7
      have HE := Lib.hid (And.intro e0 (And.intro e1 (And.intro e2 e3)))
      clear hbC hO7 hs7 r0 r1 r2
      go_upto_region 10 with fail
      obtain ⟨e0, e1, e2, e3⟩ := HE.out
      clear r3 f7 HE
      generalize w7.setCell ⟨wr.heap.size, 3, none⟩ (.slice a7 l.length c7) = w8 at *
      have hM8 := HM.out.below hb8
      have hM9 := hM8.below (box_below w8 (.cells #[.int .i64 s, .int .i64 b, .int .i64 cc, .slice a7 l.length c7] 46))
      have hO9 : Own (w8.alloc (.cells #[.int .i64 s, .int .i64 b, .int .i64 cc, .slice a7 l.length c7] 46)) (wr.heap.size + 1) (.slice a7 l.length c7) l := hO8.alloc _
      have hOT := hM9.1
      clear hM8 hO8
      go_wp2_with (first | (at_builtin; refine wpList_append_own _ rfl _ _ 22 rfl w3.heap.size 46 i1 (.agg #[.int .i64 0, .int .i64 0, .int .i64 0, .slice none 0 0]) 4 48 Try.underlying22 hj hy0 hy1 hy2 rfl (by decide) _ _ _ rfl hOT ⟨_, 0, none⟩ 1 1 [.int .i64 s, .int .i64 b, .int .i64 cc, .slice a7 l.length c7] rfl rfl ?c1 ?c2 ?c3 ?c4 ?c5 ?_) | go_in)
      case c1 => exact row4_new w8 (.int .i64 s) (.int .i64 b) (.int .i64 cc) (.slice a7 l.length c7) 46
      case c2 =>
        intro u hu
        simp at hu
        rcases hu with rfl | rfl | rfl | rfl <;> rfl
      case c3 => unfold maxLen; omega
      case c4 => omega
      case c5 => simp; omega
      intro v10 w10 hown10 hg10 _
      have hO10 : OwnT w10 w3.heap.size v10 (D ++ [TxnV.mk s b cc (.slice a7 l.length c7) l]) := by
        unfold OwnT
        rw [List.length_append, txV_app]
        exact hown10
      have hM10 := OwnH.add hM9 hO9 (fun t ht g hg => by have := HMl.out t ht g hg; omega) (by omega) hO10 hg10
      have hb10 : Below w3.heap.size w3 w10 := (((HB.out.trans (hb8.mono HB.out.size)).alloc (by have := HB.out.size; omega) (.cells #[.int .i64 s, .int .i64 b, .int .i64 cc, .slice a7 l.length c7] 46)).grown hg10 (by simp; omega) (fun j hj => (World.ownsRow.lt hOT j hj).1))
      have HD : Hid ((D ++ [TxnV.mk s b cc (.slice a7 l.length c7) l]).map txE = (h.take (k + 1)).map txE) := Lib.hid (by rw [HTE.out, List.map_append]; rfl)
      clear hown10 hg10 hO10 hM9 hO9 hOT HTE hb8 hD
      go_wp2_with fail
      go_roundw
      case rel => exact ⟨k + 1, _, by omega, by go_num, HD.out, hM10, hb10⟩
      case measure => simp [intOf]; omega
    · have hkl : k = h.length := by omega
      subst hkl
      rw [List.take_length] at hD
      have CO := Lib.hid (of_done _ D wr hM.txns (ok_txE hD HOK.out) (short_txE hD HSH.out) (by rw [checkI_txE hD]; exact HC.out))
      have HCD : Hid (checkI D = 0) := Lib.hid (by rw [checkI_txE hD]; exact HC.out)
      have HDL : Hid (D.length = h.length) := Lib.hid (by simpa using congrArg List.length hD)
      have HTX := Lib.hid hD
      obtain ⟨av', cap', gv, e, hK⟩ := OwnK.of hM
      obtain ⟨rfl, rfl⟩ : av = av' ∧ cv = cap' := ⟨(Value.slice.inj e).1, (Value.slice.inj e).2.2⟩
      clear hM e hD
      go_wp2_with fail
      refine (CO.out).mono ?_
      rintro e w5 ⟨⟨B, rfl, hB, hO⟩, hb5⟩
      have hOB := hO.blk
      have hN := hK.n.below hb5
      have hb6 := hb.trans (hb5.mono hb.size)
      have HAV := Lib.hid hK.a
      have HGV : Hid (0 < D.length → w3.heap.size ≤ gv ∧ gv < B) := Lib.hid (fun q => ⟨(hK.g q).1, by have := (hK.g q).2; omega⟩)
      have HGL : Hid (∀ t ∈ D, ∀ g, t.v.ownBlock = some g → w3.heap.size ≤ g ∧ g < B) := Lib.hid (fun t ht g hg => ⟨(hK.l t ht g hg).1, by have := (hK.l t ht g hg).2; omega⟩)
      have HP := Lib.hid hK.p
      have HE := Lib.hid hK.e
      clear CO hO hb5 hbw hb hK
      go_wp2_with fail
      clear hB
      go_loopw [55] (fun i wx => ∃ k : Nat, k ≤ D.length ∧ i = .int .i64 k ∧ OwnN wx gv w3.heap.size k D ∧ OrdB wx B D ∧ Below w3.heap.size w3 wx) (fun i _ => D.length - (intOf i).toNat)
      case atStart => exact ⟨0, by omega, rfl, hN, hOB, hb6⟩
      case round =>
        obtain ⟨k, hk, rfl, hNk, hOk, hbk⟩ := hrel
        clear hN hOB hb6
        have hbw := hb3.trans (hbk.mono hb3.size)
        by_cases hlk : k < D.length
        · have hki : (k : Int) < (D.length : Int) := by omega
          have hkh : k < h.length := by have := HDL.out; omega
          have hkhi : (k : Int) < (h.length : Int) := by omega
          obtain rfl := HAV.out (by omega)
          obtain ⟨hg1, hg2⟩ := HGV.out (by omega)
          obtain ⟨q1, q2, q3, q4⟩ := txE_at HTX.out hlk hkh
          obtain ⟨x, r, hxl, hxk, hs0, hs1⟩ := may_first HC.out hkh
          obtain ⟨⟨c0, f0⟩, c1, c2, c3⟩ := hNk.cells hlk
          have hOwn := (hNk k hlk (Nat.le_refl _)).2
          obtain ⟨g, o, hao, d0, d1, d2, d3⟩ := (HT.out _ hbw).at hkh
          cases hao
          have hOps2 := (HT.out _ hbw).ops hkh
          have HGK := HGL.out _ (List.getElem_mem hlk)
          rw [q1] at c0
          rw [q2] at c1
          rw [q3] at c2
          rw [q4, hxl] at hOwn
          rw [hxl] at hOps2
          clear q1 q2 q3 q4 hxl
          obtain ⟨g2, cap2, hv2, e1, ef, hgb⟩ := hOwn.head
          have HSTEP : Hid (∀ wz y1 y2, OwnN wz gv w3.heap.size k D → OwnN ((wz.setCell ⟨gv, k * 4, none⟩ y1).setCell ⟨g2, 1, none⟩ y2) gv w3.heap.size (k + 1) D) := Lib.hid (fun wz y1 y2 hz => hz.step hlk HP.out (by rw [hv2]; rfl) HE.out)
          have hne : gv ≠ g2 := fun e => HE.out _ (List.getElem_mem hlk) (by rw [hv2, e]; rfl)
          obtain ⟨hk1, hk2⟩ := HGK g2 (by rw [hv2]; rfl)
          rw [hv2] at c3 hOwn
          clear HGK hv2
          generalize h[k].s = s at *
          generalize h[k].b = b at *
          generalize h[k].c = cc at *
          generalize h[k].v = hv at *
          obtain ⟨xw, xk, xv⟩ := x
          simp only at hxk e1
          obtain ⟨xk0, xk1⟩ := hxk
          obtain ⟨a2, cp2, rfl, _⟩ := hOps2.form
          have CSAME := Lib.hid (fun wx (hx : Below wr.heap.size wr wx) => sametxn_any s b cc (.slice (some ⟨g2, 0, none⟩) (r.length + 1) cap2) (.slice a2 ((OpV.mk xw xk xv) :: r).length cp2) ((OpV.mk xw xk xv) :: r) wx (hOwn.ops.below hx) (hOps2.below hx))
          simp only [List.length_cons] at CSAME d3
          have HN := Lib.hid (fun wx (hx : Below wr.heap.size wr wx) => hNk.below hx)
          have HO := Lib.hid (fun wx (hx : Below wr.heap.size wr wx) => hOk.below hx)
          have HB := Lib.hid (fun wx (hx : Below wr.heap.size wr wx) => hbk.trans (hx.mono hbk.size))
          have C0 := Lib.hid (And.intro c0 (And.intro f0 (And.intro c3 (And.intro e1 ef))))
          have kk := Below.refl wr.heap.size wr
          have hr0 : (0 : Int) < ((r.length + 1 : Nat) : Int) := by omega
          clear hOwn hOps2 hNk hOk hbk f0 e1 ef
          go_wp2_with fail
          go_still_tail 8, (by kernel_rfl)
          go_wp2_with fail
          refine (CSAME.out _ (by first | exact kk | exact kk.drew | exact below_drewN kk _)).mono ?_
          rintro e wz ⟨rfl, hbz⟩
          have kz : Below wr.heap.size wr wz := (by first | exact below_then kk hbz | exact below_then (below_drewN kk _) hbz | exact below_then kk ⟨hbz.os, hbz.tape, hbz.output, hbz.size, hbz.block⟩)
          obtain ⟨c0, f0, c3, e1, ef⟩ := C0.out
          have c0 := (kz.cell (p := ⟨gv, k * 4, none⟩) (block_lt c0)).trans c0
          have f0 := (kz.frozen (p := ⟨gv, k * 4, none⟩) (by have := block_lt c3; exact this)).trans f0
          have c3 := (kz.cell (p := ⟨gv, k * 4 + 3, none⟩) (block_lt c3)).trans c3
          have ef := (kz.frozen (p := ⟨g2, 1, none⟩) (by have := block_lt e1; exact this)).trans ef
          have e1 := (kz.cell (p := ⟨g2, 1, none⟩) (block_lt e1)).trans e1
          have c4 : (wz.setCell ⟨gv, k * 4, none⟩ (.int .i64 (s + 1))).cell? ⟨gv, k * 4 + 3, none⟩ = some (.slice (some ⟨g2, 0, none⟩) (r.length + 1) cap2) := by rw [World.cell?_setCell_other _ _ _ _ (fun q => by injection q with q1 q2; omega)]; exact c3
          have e4 : (wz.setCell ⟨gv, k * 4, none⟩ (.int .i64 (s + 1))).cell? ⟨g2, 1, none⟩ = some (.int .i64 xk) := by rw [World.cell?_setCell_other _ _ _ _ (fun q => by injection q with q1 q2; omega)]; exact e1
          have ef4 : (wz.setCell ⟨gv, k * 4, none⟩ (.int .i64 (s + 1))).frozen? ⟨g2, 1, none⟩ = false := by rw [World.frozen?_setCell]; exact ef
          have HNF := Lib.hid (HSTEP.out wz (.int .i64 (s + 1)) (.int .i64 (xk + 1)) (HN.out _ kz))
          have HOF : Hid (OrdB ((wz.setCell ⟨gv, k * 4, none⟩ (.int .i64 (s + 1))).setCell ⟨g2, 1, none⟩ (.int .i64 (xk + 1))) B D) := Lib.hid (((HO.out _ kz).other (k := ⟨gv, k * 4, none⟩) (by simp; omega) _).other (k := ⟨g2, 1, none⟩) (by simp; omega) _)
          have HBF : Hid (Below w3.heap.size w3 ((wz.setCell ⟨gv, k * 4, none⟩ (.int .i64 (s + 1))).setCell ⟨g2, 1, none⟩ (.int .i64 (xk + 1)))) := Lib.hid (((HB.out _ kz).setCell (p := ⟨gv, k * 4, none⟩) hg1 _).setCell (p := ⟨g2, 1, none⟩) hk1 _)
          clear c3 e1 ef C0 HN HO HB CSAME hbz kk hk1 hk2 hgb hne hg1 hg2 HSTEP
          go_wp2_with fail
          go_roundw
          case rel => exact ⟨k + 1, by omega, by go_num, HNF.out, HOF.out, HBF.out⟩
          case measure => simp [intOf]; omega
        · have hkl : k = D.length := by omega
          subst hkl
          have HA := Lib.hid (fun wx (hx : Below wr.heap.size wr wx) => hOk.below hx)
          have HW := Lib.hid (fun wx (hx : Below wr.heap.size wr wx) => hbw.trans (hx.mono hbw.size))
          clear hNk hbk hbw hOk HP HE HGL HGV
          have hwb := Below.refl wr.heap.size wr
          obtain ⟨W, hW⟩ : ∃ W, W = wr := ⟨_, rfl⟩
          rw [← hW] at HA HW hwb ⊢
          clear hW
          go_wp2_with fail
          go_loopw [89] (fun i wx => ∃ k : Nat, k ≤ h.length ∧ i = .int .i64 k ∧ Below W.heap.size W wx) (fun i _ => h.length - (intOf i).toNat)
          case atStart => exact ⟨0, by omega, rfl, hwb⟩
          case round =>
            obtain ⟨i, hi', rfl, hb⟩ := hrel
            clear hwb
            by_cases hlt : i < h.length
            · have hki : (i : Int) < (h.length : Int) := by omega
              go_wp2_with fail
              go_loopw [94] (fun j wx => ∃ k : Nat, k ≤ h.length ∧ j = .int .i64 k ∧ Below W.heap.size W wx) (fun j _ => h.length - (intOf j).toNat)
              case atStart => exact ⟨0, by omega, rfl, hb⟩
              case round =>
                obtain ⟨k, hk, rfl, hbk⟩ := hrel
                clear hb
                by_cases hlk : k < h.length
                · have hkk : (k : Int) < (h.length : Int) := by omega
                  by_cases e : i = k
                  · subst e
                    go_wp2_with fail
                    go_roundw
                    case rel => exact ⟨i + 1, by omega, by go_num, hbk⟩
                    case measure => simp [intOf]; omega
                  · have hne : ¬ (i : Int) = (k : Int) := by omega
                    have hneb : ((i : Int) != (k : Int)) = true := by simpa using hne
                    have F3 : Hid (hasR (froM D) (i : Int) (k : Int) = froR h i k) := Lib.hid (by rw [froM_at HCD.out (by rw [HDL.out]; exact hlt) (by rw [HDL.out]; exact hlk), froR_txE HTX.out])
                    have D3 := Lib.hid (fun wx hx => rfrom8_any _ h i k hlk wx (HT.out wx (HW.out wx hx)))
                    generalize froR h i k = p3 at *
                    have q2 := (HA.out _ hbk).rF
                    clear e
                    go_wp2_with (with_reducible refine wpList_load_part q2 _ rfl (by kernel_rfl) rfl ?_)
                    refine (rhasR_any _ _ _ _).mono ?_
                    rintro e a5 ⟨rfl, h5⟩
                    have h5 := below_then hbk h5
                    rw [F3.out]
                    clear q2
                    go_wp2_with fail
                    refine (D3.out _ h5).mono ?_
                    rintro e a6 ⟨rfl, h6⟩
                    have h6 := below_then h5 h6
                    clear F3 D3 h5
                    go_wp2_with fail
                    go_roundw
                    case rel => exact ⟨k + 1, by omega, by go_num, h6⟩
                    case measure => simp [intOf]; omega
                · have hk2 : k = h.length := by omega
                  subst hk2
                  go_wp2_with fail
                  go_roundw
                  case rel => exact ⟨i + 1, by omega, by go_num, hbk⟩
                  case measure => simp [intOf]; omega
            · have hi2 : i = h.length := by omega
              subst hi2
              go_wp2_with fail
              go_ret
              exact ⟨rfl, HW.out _ hb⟩
end Go.Proofs.Ytfekcmhjdjifgaa
