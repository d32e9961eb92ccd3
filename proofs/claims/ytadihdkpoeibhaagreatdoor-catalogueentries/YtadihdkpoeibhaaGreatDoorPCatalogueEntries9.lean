/- Walks and plain facts that the proof of the statement CatalogueEntries uses, joined: CatB CatC CatD CatE CatH CatG CatI. Conditions: each theorem's own. -/
import Derived.Test.YtadihdkpoeibhaaGreatDoorPCatalogueEntries0
import Derived.Test.YtadihdkpoeibhaaGreatDoorPCatalogueEntries2
import Derived.Test.YtadihdkpoeibhaaGreatDoorPCatalogueEntries8
namespace Go.Proofs.YtadihdkpoeibhaaGreatDoor
set_option maxHeartbeats 32000000
set_option maxRecDepth 100000
open Lib (hid)
section
open Go.RowKit
abbrev KOp := Value × List OpV
def KRows (w : World) (v : Value) (K : List KOp) : Prop := Row w v K.length 1 (K.map (·.1)) ∧ ∀ p ∈ K, Ops w p.1 p.2
section
variable {w w' : World} {v : Value} {K : List KOp}
theorem KRows.below (h : KRows w v K) (hb : Below w.heap.size w w') : KRows w' v K := ⟨h.1.below hb, fun p hp => Row.below (h.2 p hp) hb⟩
theorem KRows.form (h : KRows w v K) : ∃ ao cap, v = .slice ao K.length cap ∧ K.length ≤ 9223372036854775807 := by
 obtain ⟨_, ao, cap, rfl, hm, _, _⟩ := h.1
 exact ⟨ao, cap, rfl, Nat.le_trans hm.1 hm.2⟩
theorem KRows.at {ao : Option Addr} {n cap : Nat} (h : KRows w (.slice ao n cap) K) {k : Nat} (hk : k < K.length) : ∃ g o, ao = some ⟨g, o, none⟩ ∧ w.cell? ⟨g, o + k, none⟩ = some K[k].1 ∧ Ops w K[k].1 K[k].2 := by
 obtain ⟨_, ao', cap', he, _, _, hc⟩ := h.1
 cases he
 obtain ⟨b, off, e, hcell⟩ := hc (by omega)
 refine ⟨b, off, e, ?_, h.2 _ (List.getElem_mem hk)⟩
 have := hcell k (by omega)
 rw [this]
 simp [hk]
end
theorem Ops.slice {w : World} {v : Value} {l : List OpV} (h : Ops w v l) : ∃ ua un uc, v = .slice ua un uc := by
 obtain ⟨_, ao, cap, rfl, _⟩ := h
 exact ⟨ao, _, cap, rfl⟩
def turn1 (K : List KOp) (k : Nat) : List TxnV := (List.range k).filterMap fun (i : Nat) => K[i]?.map fun p => ⟨0, 2 * (i : Int), 2 * (i : Int) + 1, p.1, p.2⟩
def turn2 (K : List KOp) (k : Nat) : List TxnV := (List.range k).filterMap fun (i : Nat) => K[i]?.map fun p => ⟨(i : Int) % 2, 2 * (i : Int), 2 * (i : Int) + 1, p.1, p.2⟩
def onceL (K : List KOp) (k : Nat) : List TxnV := (List.range k).filterMap fun (i : Nat) => K[i]?.map fun p => ⟨(i : Int), (i : Int), (K.length : Int) + (i : Int), p.1, p.2⟩
theorem cturn1_succ {K : List KOp} {k : Nat} (hk : k < K.length) : turn1 K (k + 1) = turn1 K k ++ [⟨0, 2 * (k : Int), 2 * (k : Int) + 1, K[k].1, K[k].2⟩] := by
 unfold turn1; rw [List.range_succ, List.filterMap_append]; simp [hk]
theorem cturn2_succ {K : List KOp} {k : Nat} (hk : k < K.length) : turn2 K (k + 1) = turn2 K k ++ [⟨(k : Int) % 2, 2 * (k : Int), 2 * (k : Int) + 1, K[k].1, K[k].2⟩] := by
 unfold turn2; rw [List.range_succ, List.filterMap_append]; simp [hk]
theorem conce_succ {K : List KOp} {k : Nat} (hk : k < K.length) : onceL K (k + 1) = onceL K k ++ [⟨(k : Int), (k : Int), (K.length : Int) + (k : Int), K[k].1, K[k].2⟩] := by
 unfold onceL; rw [List.range_succ, List.filterMap_append]; simp [hk]
theorem cturn1_len {K : List KOp} (k : Nat) : (turn1 K k).length ≤ k := by
 unfold turn1; exact Nat.le_trans (List.length_filterMap_le _ _) (by simp)
theorem cturn2_len {K : List KOp} (k : Nat) : (turn2 K k).length ≤ k := by
 unfold turn2; exact Nat.le_trans (List.length_filterMap_le _ _) (by simp)
theorem conce_len {K : List KOp} (k : Nat) : (onceL K k).length ≤ k := by
 unfold onceL; exact Nat.le_trans (List.length_filterMap_le _ _) (by simp)
theorem cturn1_own {K : List KOp} {k b0 : Nat} {w : World} (hR : ∀ p ∈ K, Own w b0 p.1 p.2) : ∀ t ∈ turn1 K k, Own w b0 t.v t.l := fun t ht => by
 unfold turn1 at ht
 obtain ⟨i, _, e⟩ := List.mem_filterMap.1 ht
 obtain ⟨p, hp, rfl⟩ := Option.map_eq_some_iff.1 e
 exact hR p (List.mem_of_getElem? hp)
theorem cturn2_own {K : List KOp} {k b0 : Nat} {w : World} (hR : ∀ p ∈ K, Own w b0 p.1 p.2) : ∀ t ∈ turn2 K k, Own w b0 t.v t.l := fun t ht => by
 unfold turn2 at ht
 obtain ⟨i, _, e⟩ := List.mem_filterMap.1 ht
 obtain ⟨p, hp, rfl⟩ := Option.map_eq_some_iff.1 e
 exact hR p (List.mem_of_getElem? hp)
theorem conce_own {K : List KOp} {k b0 : Nat} {w : World} (hR : ∀ p ∈ K, Own w b0 p.1 p.2) : ∀ t ∈ onceL K k, Own w b0 t.v t.l := fun t ht => by
 unfold onceL at ht
 obtain ⟨i, _, e⟩ := List.mem_filterMap.1 ht
 obtain ⟨p, hp, rfl⟩ := Option.map_eq_some_iff.1 e
 exact hR p (List.mem_of_getElem? hp)
def CatH (w : World) (b0 : Nat) (v : Value) (h : List TxnV) : Prop := OwnT w b0 v h ∧ ∀ t ∈ h, Own w b0 t.v t.l
section
variable {w w' : World} {b0 : Nat} {v : Value} {h : List TxnV}
theorem CatH.below (q : CatH w b0 v h) (hb : Below w.heap.size w w') : CatH w' b0 v h := ⟨q.1.below hb, fun t ht => (q.2 t ht).below hb⟩
theorem CatH.txns (q : CatH w b0 v h) : Txns w v h := ⟨Row.of_owns q.1, fun t ht => (q.2 t ht).ops⟩
theorem CatH.base {b1 : Nat} (q : CatH w b0 v h) (hb : b1 ≤ b0) : CatH w b1 v h := ⟨own_base' q.1 hb, fun t ht => own_base' (q.2 t ht) hb⟩
theorem CatH.far (q : CatH w b0 v h) {p : Addr} (hp : p.block < b0) (u : Value) : CatH (w.setCell p u) b0 v h := ⟨pl_far q.1 hp u, fun t ht => pl_far (q.2 t ht) hp u⟩
def AllOwn (w : World) (b0 : Nat) : List KOp → Prop
 | [] => True
 | p :: K => Own w b0 p.1 p.2 ∧ AllOwn w b0 K
theorem all_own {b0 : Nat} : ∀ {K : List KOp}, AllOwn w b0 K → ∀ p ∈ K, Own w b0 p.1 p.2
 | [], _, p, hp => by cases hp
 | q :: K, h, p, hp => by
  rcases List.mem_cons.1 hp with rfl | hp
  ·exact h.1
  ·exact all_own h.2 p hp
end
theorem cturn1_txns {K : List KOp} {k : Nat} {w : World} {v va : Value} (hR : KRows w va K) (h : Row w v (turn1 K k).length 4 (txV (turn1 K k))) : Txns w v (turn1 K k) := ⟨h, fun t ht => by
 unfold turn1 at ht
 obtain ⟨i, _, e⟩ := List.mem_filterMap.1 ht
 obtain ⟨p, hp, rfl⟩ := Option.map_eq_some_iff.1 e
 exact hR.2 p (List.mem_of_getElem? hp)⟩
theorem cturn2_txns {K : List KOp} {k : Nat} {w : World} {v va : Value} (hR : KRows w va K) (h : Row w v (turn2 K k).length 4 (txV (turn2 K k))) : Txns w v (turn2 K k) := ⟨h, fun t ht => by
 unfold turn2 at ht
 obtain ⟨i, _, e⟩ := List.mem_filterMap.1 ht
 obtain ⟨p, hp, rfl⟩ := Option.map_eq_some_iff.1 e
 exact hR.2 p (List.mem_of_getElem? hp)⟩
theorem conce_txns {K : List KOp} {k : Nat} {w : World} {v va : Value} (hR : KRows w va K) (h : Row w v (onceL K k).length 4 (txV (onceL K k))) : Txns w v (onceL K k) := ⟨h, fun t ht => by
 unfold onceL at ht
 obtain ⟨i, _, e⟩ := List.mem_filterMap.1 ht
 obtain ⟨p, hp, rfl⟩ := Option.map_eq_some_iff.1 e
 exact hR.2 p (List.mem_of_getElem? hp)⟩
theorem crow_any (ao : Option Addr) (n cap : Nat) (w : World) : Calls Tryz.prog 50 #[.slice ao n cap] w fun e w' => e = .returned (.slice ao n cap) ∧ w = w' := by
 go_enter Tryz.func50, Tryz.ntmps50
 go_wp2_with fail
 go_ret
 exact ⟨rfl, rfl⟩
theorem cturn1_any  (va : Value) (K : List KOp) (w : World) (hR : KRows w va K) (hn : K.length ≤ 1000) :
  Calls Tryz.prog 49 #[.int .i64 1, va] w fun e w' => ∃ v, e = .returned v ∧ w'.ownsRow w.heap.size 59 4 v (turn1 K K.length).length (txV (turn1 K K.length)) ∧ Txns w' v (turn1 K K.length) ∧ Below w.heap.size w w' := by
 obtain ⟨i1, hj, hy0, hy1, hy2⟩ := info_parts infoTxn
 obtain ⟨ao, cap, rfl, hm⟩ := hR.form
 have HR := hid (fun wx (hx : Below w.heap.size w wx) => hR.below hx)
 clear hR
 go_enter Tryz.func49, Tryz.ntmps49
 go_wp2_with fail
 go_loopw [5, 10] (fun v i wr => ∃ k : Nat, k ≤ K.length ∧ i = .int .i64 (k : Int) ∧ Hid (wr.ownsRow w.heap.size 59 4 v (turn1 K k).length (txV (turn1 K k))) ∧ Hid (Below w.heap.size w wr)) (fun _ i _ => K.length - (intOf i).toNat)
 case atStart => exact ⟨0, by omega, rfl, hid (World.ownsRow_nil _ _ _ _), hid (Below.refl _ _)⟩
 case round =>
  obtain ⟨k, hk, rfl, HO, HB⟩ := hrel
  by_cases hlt : k < K.length
  ·have hki : (k : Int) < (K.length : Int) := by omega
   obtain ⟨g, o, hg, hc, hops⟩ := (HR.out wr HB.out).at hlt
   cases hg
   have hown := HO.out
   obtain ⟨ua, un, uc, hu⟩ := hops.slice
   rw [hu] at hc
   have HL : Hid (turn1 K (k + 1) = turn1 K k ++ [⟨0, (2 * (k : Int)), (2 * (k : Int) + 1), .slice ua un uc, K[k].2⟩]) := hid (by rw [cturn1_succ hlt]; rw [hu])
   have hll : (turn1 K k).length ≤ 1000 := Nat.le_trans (cturn1_len k) (by omega)
   have hka : (k : Int) ≤ 1000 := by omega
   have hbs := HB.out.size
   clear HO hops
   go_wp2_with (first | (at_builtin; refine wpList_append_own _ rfl _ _ 22 rfl w.heap.size 59 i1 (.agg #[.int .i64 0, .int .i64 0, .int .i64 0, .slice none 0 0]) 4 48 Tryz.underlying22 hj hy0 hy1 hy2 rfl (by decide) _ _ _ rfl (hown.alloc _) ⟨_, 0, none⟩ 1 1 [.int .i64 0, .int .i64 (2 * (k : Int)), .int .i64 (2 * (k : Int) + 1), .slice ua un uc] rfl rfl ?c1 ?c2 ?c3 ?c4 ?c5 ?_) | go_in)
   case c1 => exact row4_newM wr _ _ _ _ _
   case c2 =>
    intro u hu
    simp at hu
    rcases hu with rfl | rfl | rfl | rfl <;> rfl
   case c3 => unfold maxLen; omega
   case c4 => omega
   case c5 => simp; omega
   intro v10 w10 hown10 hg10 _
   have HO10 : Hid (w10.ownsRow w.heap.size 59 4 v10 (turn1 K (k + 1)).length (txV (turn1 K (k + 1)))) := hid (by
    rw [HL.out, List.length_append, txV_app]
    exact hown10)
   have HB10 : Hid (Below w.heap.size w w10) := hid (below_app0 HB.out (Nat.le_refl _) hown (Nat.le_refl _) hg10)
   clear hown10 hg10 hown HL
   go_wp2_with fail
   go_roundw
   case rel => exact ⟨k + 1, by omega, by go_num, HO10, HB10⟩
   case measure => simp [intOf]; omega
  ·obtain rfl : k = K.length := by omega
   have hki : ¬ (K.length : Int) < (K.length : Int) := by omega
   have hR := HR.out wr HB.out
   have HT := hid (cturn1_txns hR (Row.of_owns HO.out))
   clear hR HR
   go_wp2_with fail
   go_ret
   exact ⟨_, rfl, HO.out, HT.out, HB.out⟩
theorem cturn2_any  (va : Value) (K : List KOp) (w : World) (hR : KRows w va K) (hn : K.length ≤ 1000) :
  Calls Tryz.prog 49 #[.int .i64 2, va] w fun e w' => ∃ v, e = .returned v ∧ w'.ownsRow w.heap.size 59 4 v (turn2 K K.length).length (txV (turn2 K K.length)) ∧ Txns w' v (turn2 K K.length) ∧ Below w.heap.size w w' := by
 obtain ⟨i1, hj, hy0, hy1, hy2⟩ := info_parts infoTxn
 obtain ⟨ao, cap, rfl, hm⟩ := hR.form
 have HR := hid (fun wx (hx : Below w.heap.size w wx) => hR.below hx)
 clear hR
 go_enter Tryz.func49, Tryz.ntmps49
 go_wp2_with fail
 go_loopw [5, 10] (fun v i wr => ∃ k : Nat, k ≤ K.length ∧ i = .int .i64 (k : Int) ∧ Hid (wr.ownsRow w.heap.size 59 4 v (turn2 K k).length (txV (turn2 K k))) ∧ Hid (Below w.heap.size w wr)) (fun _ i _ => K.length - (intOf i).toNat)
 case atStart => exact ⟨0, by omega, rfl, hid (World.ownsRow_nil _ _ _ _), hid (Below.refl _ _)⟩
 case round =>
  obtain ⟨k, hk, rfl, HO, HB⟩ := hrel
  by_cases hlt : k < K.length
  ·have hki : (k : Int) < (K.length : Int) := by omega
   obtain ⟨g, o, hg, hc, hops⟩ := (HR.out wr HB.out).at hlt
   cases hg
   have hown := HO.out
   obtain ⟨ua, un, uc, hu⟩ := hops.slice
   rw [hu] at hc
   have HL : Hid (turn2 K (k + 1) = turn2 K k ++ [⟨((k : Int) % 2), (2 * (k : Int)), (2 * (k : Int) + 1), .slice ua un uc, K[k].2⟩]) := hid (by rw [cturn2_succ hlt]; rw [hu])
   have hll : (turn2 K k).length ≤ 1000 := Nat.le_trans (cturn2_len k) (by omega)
   have hka : (k : Int) ≤ 1000 := by omega
   have hbs := HB.out.size
   clear HO hops
   go_wp2_with (first | (at_builtin; refine wpList_append_own _ rfl _ _ 22 rfl w.heap.size 59 i1 (.agg #[.int .i64 0, .int .i64 0, .int .i64 0, .slice none 0 0]) 4 48 Tryz.underlying22 hj hy0 hy1 hy2 rfl (by decide) _ _ _ rfl (hown.alloc _) ⟨_, 0, none⟩ 1 1 [.int .i64 ((k : Int) % 2), .int .i64 (2 * (k : Int)), .int .i64 (2 * (k : Int) + 1), .slice ua un uc] rfl rfl ?c1 ?c2 ?c3 ?c4 ?c5 ?_) | go_in)
   case c1 => exact row4_newM wr _ _ _ _ _
   case c2 =>
    intro u hu
    simp at hu
    rcases hu with rfl | rfl | rfl | rfl <;> rfl
   case c3 => unfold maxLen; omega
   case c4 => omega
   case c5 => simp; omega
   intro v10 w10 hown10 hg10 _
   have HO10 : Hid (w10.ownsRow w.heap.size 59 4 v10 (turn2 K (k + 1)).length (txV (turn2 K (k + 1)))) := hid (by
    rw [HL.out, List.length_append, txV_app]
    exact hown10)
   have HB10 : Hid (Below w.heap.size w w10) := hid (below_app0 HB.out (Nat.le_refl _) hown (Nat.le_refl _) hg10)
   clear hown10 hg10 hown HL
   go_wp2_with fail
   go_roundw
   case rel => exact ⟨k + 1, by omega, by go_num, HO10, HB10⟩
   case measure => simp [intOf]; omega
  ·obtain rfl : k = K.length := by omega
   have hki : ¬ (K.length : Int) < (K.length : Int) := by omega
   have hR := HR.out wr HB.out
   have HT := hid (cturn2_txns hR (Row.of_owns HO.out))
   clear hR HR
   go_wp2_with fail
   go_ret
   exact ⟨_, rfl, HO.out, HT.out, HB.out⟩
theorem conce_any  (va : Value) (K : List KOp) (w : World) (hR : KRows w va K) (hn : K.length ≤ 1000) :
  Calls Tryz.prog 53 #[va] w fun e w' => ∃ v, e = .returned v ∧ w'.ownsRow w.heap.size 59 4 v (onceL K K.length).length (txV (onceL K K.length)) ∧ Txns w' v (onceL K K.length) ∧ Below w.heap.size w w' := by
 obtain ⟨i1, hj, hy0, hy1, hy2⟩ := info_parts infoTxn
 obtain ⟨ao, cap, rfl, hm⟩ := hR.form
 have HR := hid (fun wx (hx : Below w.heap.size w wx) => hR.below hx)
 clear hR
 go_enter Tryz.func53, Tryz.ntmps53
 go_wp2_with fail
 go_loopw [3, 8] (fun v i wr => ∃ k : Nat, k ≤ K.length ∧ i = .int .i64 (k : Int) ∧ Hid (wr.ownsRow w.heap.size 59 4 v (onceL K k).length (txV (onceL K k))) ∧ Hid (Below w.heap.size w wr)) (fun _ i _ => K.length - (intOf i).toNat)
 case atStart => exact ⟨0, by omega, rfl, hid (World.ownsRow_nil _ _ _ _), hid (Below.refl _ _)⟩
 case round =>
  obtain ⟨k, hk, rfl, HO, HB⟩ := hrel
  by_cases hlt : k < K.length
  ·have hki : (k : Int) < (K.length : Int) := by omega
   obtain ⟨g, o, hg, hc, hops⟩ := (HR.out wr HB.out).at hlt
   cases hg
   have hown := HO.out
   obtain ⟨ua, un, uc, hu⟩ := hops.slice
   rw [hu] at hc
   have HL : Hid (onceL K (k + 1) = onceL K k ++ [⟨(k : Int), (k : Int), ((K.length : Int) + (k : Int)), .slice ua un uc, K[k].2⟩]) := hid (by rw [conce_succ hlt]; rw [hu])
   have hll : (onceL K k).length ≤ 1000 := Nat.le_trans (conce_len k) (by omega)
   have hka : (k : Int) ≤ 1000 := by omega
   have hbs := HB.out.size
   clear HO hops
   go_wp2_with (first | (at_builtin; refine wpList_append_own _ rfl _ _ 22 rfl w.heap.size 59 i1 (.agg #[.int .i64 0, .int .i64 0, .int .i64 0, .slice none 0 0]) 4 48 Tryz.underlying22 hj hy0 hy1 hy2 rfl (by decide) _ _ _ rfl (hown.alloc _) ⟨_, 0, none⟩ 1 1 [.int .i64 (k : Int), .int .i64 (k : Int), .int .i64 ((K.length : Int) + (k : Int)), .slice ua un uc] rfl rfl ?c1 ?c2 ?c3 ?c4 ?c5 ?_) | go_in)
   case c1 => exact row4_newM wr _ _ _ _ _
   case c2 =>
    intro u hu
    simp at hu
    rcases hu with rfl | rfl | rfl | rfl <;> rfl
   case c3 => unfold maxLen; omega
   case c4 => omega
   case c5 => simp; omega
   intro v10 w10 hown10 hg10 _
   have HO10 : Hid (w10.ownsRow w.heap.size 59 4 v10 (onceL K (k + 1)).length (txV (onceL K (k + 1)))) := hid (by
    rw [HL.out, List.length_append, txV_app]
    exact hown10)
   have HB10 : Hid (Below w.heap.size w w10) := hid (below_app0 HB.out (Nat.le_refl _) hown (Nat.le_refl _) hg10)
   clear hown10 hg10 hown HL
   go_wp2_with fail
   go_roundw
   case rel => exact ⟨k + 1, by omega, by go_num, HO10, HB10⟩
   case measure => simp [intOf]; omega
  ·obtain rfl : k = K.length := by omega
   have hki : ¬ (K.length : Int) < (K.length : Int) := by omega
   have hR := HR.out wr HB.out
   have HT := hid (conce_txns hR (Row.of_owns HO.out))
   clear hR HR
   go_wp2_with fail
   go_ret
   exact ⟨_, rfl, HO.out, HT.out, HB.out⟩
end

section
open Go.RowKit
def catS (i : Nat) : ByteArray :=
  if i = 0 then ⟨#[111, 119, 110, 32, 119, 114, 105, 116, 101, 32, 117, 110, 115, 101, 101, 110]⟩
  else if i = 1 then ⟨#[99, 97, 117, 115, 101, 32, 117, 110, 115, 101, 101, 110]⟩
  else if i = 2 then ⟨#[108, 111, 110, 103, 32, 102, 111, 114, 107]⟩
  else if i = 3 then ⟨#[108, 111, 115, 116, 32, 117, 112, 100, 97, 116, 101]⟩
  else if i = 4 then ⟨#[119, 114, 105, 116, 101, 32, 115, 107, 101, 119]⟩
  else ⟨#[115, 116, 97, 108, 101, 32, 114, 101, 97, 100]⟩
def CatAt (w : World) (g : Nat) (vs : Nat → Value) : Prop := ∀ i, i < 6 → w.cell? ⟨g, i * 3, none⟩ = some (.string (catS i)) ∧ w.cell? ⟨g, i * 3 + 1, none⟩ = some (vs i) ∧ w.cell? ⟨g, i * 3 + 2, none⟩ = some (.int .i64 ((2 ^ i : Nat) : Int))
theorem CatAt.lt {w : World} {g : Nat} {vs : Nat → Value} (h : CatAt w g vs) : g < w.heap.size := block_lt (h 0 (by omega)).1
theorem CatAt.below {w w' : World} {g : Nat} {vs : Nat → Value} (h : CatAt w g vs) (hb : Below w.heap.size w w') : CatAt w' g vs := fun i hi => by
 have hl := h.lt
 obtain ⟨h0, h1, h2⟩ := h i hi
 exact ⟨(hb.cell (p := ⟨g, i * 3, none⟩) hl).trans h0, (hb.cell (p := ⟨g, i * 3 + 1, none⟩) hl).trans h1, (hb.cell (p := ⟨g, i * 3 + 2, none⟩) hl).trans h2⟩
theorem cat_made (w : World) (t : TypeId) (vs : Nat → Value) : CatAt (w.alloc (.cells #[.string ⟨#[111, 119, 110, 32, 119, 114, 105, 116, 101, 32, 117, 110, 115, 101, 101, 110]⟩, vs 0, .int .i64 1, .string ⟨#[99, 97, 117, 115, 101, 32, 117, 110, 115, 101, 101, 110]⟩, vs 1, .int .i64 2, .string ⟨#[108, 111, 110, 103, 32, 102, 111, 114, 107]⟩, vs 2, .int .i64 4, .string ⟨#[108, 111, 115, 116, 32, 117, 112, 100, 97, 116, 101]⟩, vs 3, .int .i64 8, .string ⟨#[119, 114, 105, 116, 101, 32, 115, 107, 101, 119]⟩, vs 4, .int .i64 16, .string ⟨#[115, 116, 97, 108, 101, 32, 114, 101, 97, 100]⟩, vs 5, .int .i64 32] t)) w.heap.size vs := fun i hi => by
 have hn := heap_alloc_new w (.cells #[.string ⟨#[111, 119, 110, 32, 119, 114, 105, 116, 101, 32, 117, 110, 115, 101, 101, 110]⟩, vs 0, .int .i64 1, .string ⟨#[99, 97, 117, 115, 101, 32, 117, 110, 115, 101, 101, 110]⟩, vs 1, .int .i64 2, .string ⟨#[108, 111, 110, 103, 32, 102, 111, 114, 107]⟩, vs 2, .int .i64 4, .string ⟨#[108, 111, 115, 116, 32, 117, 112, 100, 97, 116, 101]⟩, vs 3, .int .i64 8, .string ⟨#[119, 114, 105, 116, 101, 32, 115, 107, 101, 119]⟩, vs 4, .int .i64 16, .string ⟨#[115, 116, 97, 108, 101, 32, 114, 101, 97, 100]⟩, vs 5, .int .i64 32] t)
 rcases (by omega : i = 0 ∨ i = 1 ∨ i = 2 ∨ i = 3 ∨ i = 4 ∨ i = 5) with rfl | rfl | rfl | rfl | rfl | rfl <;> exact ⟨by rw [cell_of_row _ _ _ _ _ _ hn]; rfl, by rw [cell_of_row _ _ _ _ _ _ hn]; rfl, by rw [cell_of_row _ _ _ _ _ _ hn]; rfl⟩
theorem txns_slice {w : World} {v : Value} {h : List TxnV} (q : Txns w v h) : ∃ ao n cap, v = .slice ao n cap := by
 obtain ⟨ao, cap, e, _⟩ := q.form
 exact ⟨ao, _, cap, e⟩
def AllOps (w : World) : List KOp → Prop
 | [] => True
 | p :: K => Ops w p.1 p.2 ∧ AllOps w K
theorem krows_all {w : World} : ∀ {K : List KOp}, AllOps w K → ∀ p ∈ K, Ops w p.1 p.2
 | [], _, p, hp => by cases hp
 | q :: K, h, p, hp => by
  rcases List.mem_cons.1 hp with rfl | hp
  ·exact h.1
  ·exact krows_all h.2 p hp
theorem call_any (w : World) : Calls Tryz.prog 19 #[] w fun e w' => (∃ (g : Nat) (vs : Nat → Value) (us : Nat → Nat → Value), e = .returned (.slice (some ⟨g, 0, none⟩) 6 6) ∧ CatAt w' g vs ∧ ∀ i, i < 6 → CatH w' w.heap.size (vs i) (catN i (us i))) ∧ Below w.heap.size w w' := by
 have hb := Below.refl w.heap.size w
 go_enter Tryz.func19, Tryz.ntmps19
 go_wp2_with fail
 refine (write_op 0 1 w).mono ?_
 rintro e w1 ⟨rfl, hx1⟩
 have hb := below_then hb hx1
 clear hx1
 have O0x0 : Own (w1.alloc (.cells #[.bool true, .int .i64 0, .int .i64 1] 56)) w.heap.size (.slice (some ⟨w1.heap.size, 0, none⟩) 1 1) [⟨true, 0, 1⟩] := World.ownsRow_lit (base := w.heap.size) (e := 56) (size := 3) w1 #[.bool true, .int .i64 0, .int .i64 1] 1 hb.size (by decide) rfl
 have hb := below_then hb (box_below w1 (.cells #[.bool true, .int .i64 0, .int .i64 1] 56))
 go_wp2_with fail
 generalize w1.alloc (.cells #[.bool true, .int .i64 0, .int .i64 1] 56) = w2 at *
 generalize w1.heap.size = a0x0 at *
 refine (crow_any _ _ _ _).mono ?_
 rintro e wq ⟨rfl, rfl⟩
 go_wp2_with fail
 refine (read_any 0 0 w2).mono ?_
 rintro e w3 ⟨rfl, hx3⟩
 have O0x0 := O0x0.below hx3
 have hb := below_then hb hx3
 clear hx3
 have O0x1 : Own (w3.alloc (.cells #[.bool false, .int .i64 0, .int .i64 0] 56)) w.heap.size (.slice (some ⟨w3.heap.size, 0, none⟩) 1 1) [⟨false, 0, 0⟩] := World.ownsRow_lit (base := w.heap.size) (e := 56) (size := 3) w3 #[.bool false, .int .i64 0, .int .i64 0] 1 hb.size (by decide) rfl
 have O0x0 := O0x0.below (box_below w3 (.cells #[.bool false, .int .i64 0, .int .i64 0] 56))
 have hb := below_then hb (box_below w3 (.cells #[.bool false, .int .i64 0, .int .i64 0] 56))
 go_wp2_with fail
 generalize w3.alloc (.cells #[.bool false, .int .i64 0, .int .i64 0] 56) = w4 at *
 generalize w3.heap.size = a0x1 at *
 refine (crow_any _ _ _ _).mono ?_
 rintro e wq ⟨rfl, rfl⟩
 have O0x0 := O0x0.below (box_below w4 (.cells #[.slice (some ⟨a0x0, 0, none⟩) 1 1, .slice (some ⟨a0x1, 0, none⟩) 1 1] 57))
 have O0x1 := O0x1.below (box_below w4 (.cells #[.slice (some ⟨a0x0, 0, none⟩) 1 1, .slice (some ⟨a0x1, 0, none⟩) 1 1] 57))
 have hb := below_then hb (box_below w4 (.cells #[.slice (some ⟨a0x0, 0, none⟩) 1 1, .slice (some ⟨a0x1, 0, none⟩) 1 1] 57))
 have KR0 : KRows (w4.alloc (.cells #[.slice (some ⟨a0x0, 0, none⟩) 1 1, .slice (some ⟨a0x1, 0, none⟩) 1 1] 57)) (.slice (some ⟨w4.heap.size, 0, none⟩) 2 2) [((.slice (some ⟨a0x0, 0, none⟩) 1 1), [⟨true, 0, 1⟩]), ((.slice (some ⟨a0x1, 0, none⟩) 1 1), [⟨false, 0, 0⟩])] := ⟨Row.of_owns (World.ownsRow_lit (base := 0) (e := 57) (size := 1) w4 #[.slice (some ⟨a0x0, 0, none⟩) 1 1, .slice (some ⟨a0x1, 0, none⟩) 1 1] 2 (Nat.zero_le _) (by decide) rfl), krows_all (⟨O0x0.ops, ⟨O0x1.ops, trivial⟩⟩)⟩
 go_wp2_with fail
 generalize w4.alloc (.cells #[.slice (some ⟨a0x0, 0, none⟩) 1 1, .slice (some ⟨a0x1, 0, none⟩) 1 1] 57) = w5 at *
 generalize w4.heap.size = k0 at *
 refine (cturn1_any _ _ _ KR0 (by simp)).mono ?_
 rintro e w6 ⟨v0, rfl, hW, hT, hx6⟩
 obtain ⟨o0, n0, c0, rfl⟩ := txns_slice hT
 have e0 : turn1 [((.slice (some ⟨a0x0, 0, none⟩) 1 1), [⟨true, 0, 1⟩]), ((.slice (some ⟨a0x1, 0, none⟩) 1 1), [⟨false, 0, 0⟩])] ([((.slice (some ⟨a0x0, 0, none⟩) 1 1), [⟨true, 0, 1⟩]), ((.slice (some ⟨a0x1, 0, none⟩) 1 1), [⟨false, 0, 0⟩])] : List KOp).length = catN 0 (fun (j : Nat) => ([.slice (some ⟨a0x0, 0, none⟩) 1 1, .slice (some ⟨a0x1, 0, none⟩) 1 1] : List Value).getD j undef) := by kernel_rfl
 have hI : CatH w6 w.heap.size (.slice o0 n0 c0) (turn1 [((.slice (some ⟨a0x0, 0, none⟩) 1 1), [⟨true, 0, 1⟩]), ((.slice (some ⟨a0x1, 0, none⟩) 1 1), [⟨false, 0, 0⟩])] ([((.slice (some ⟨a0x0, 0, none⟩) 1 1), [⟨true, 0, 1⟩]), ((.slice (some ⟨a0x1, 0, none⟩) 1 1), [⟨false, 0, 0⟩])] : List KOp).length) := ⟨own_base' hW hb.size, cturn1_own (all_own (⟨O0x0.below hx6, ⟨O0x1.below hx6, trivial⟩⟩))⟩
 rw [e0] at hI
 generalize (fun (j : Nat) => ([.slice (some ⟨a0x0, 0, none⟩) 1 1, .slice (some ⟨a0x1, 0, none⟩) 1 1] : List Value).getD j undef) = u0 at hI
 have hb := below_then hb hx6
 have T0 := hI
 clear hI hT hW hx6 KR0 e0 O0x0 O0x1
 go_wp2_with fail
 refine (write_op 0 1 w6).mono ?_
 rintro e w7 ⟨rfl, hx7⟩
 have T0 := T0.below hx7
 have hb := below_then hb hx7
 clear hx7
 have O1x0 : Own (w7.alloc (.cells #[.bool true, .int .i64 0, .int .i64 1] 56)) w.heap.size (.slice (some ⟨w7.heap.size, 0, none⟩) 1 1) [⟨true, 0, 1⟩] := World.ownsRow_lit (base := w.heap.size) (e := 56) (size := 3) w7 #[.bool true, .int .i64 0, .int .i64 1] 1 hb.size (by decide) rfl
 have T0 := T0.below (box_below w7 (.cells #[.bool true, .int .i64 0, .int .i64 1] 56))
 have hb := below_then hb (box_below w7 (.cells #[.bool true, .int .i64 0, .int .i64 1] 56))
 go_wp2_with fail
 generalize w7.alloc (.cells #[.bool true, .int .i64 0, .int .i64 1] 56) = w8 at *
 generalize w7.heap.size = a1x0 at *
 refine (crow_any _ _ _ _).mono ?_
 rintro e wq ⟨rfl, rfl⟩
 go_wp2_with fail
 refine (read_any 0 1 w8).mono ?_
 rintro e w9 ⟨rfl, hx9⟩
 have T0 := T0.below hx9
 have O1x0 := O1x0.below hx9
 have hb := below_then hb hx9
 clear hx9
 go_wp2_with fail
 refine (write_op 1 2 w9).mono ?_
 rintro e w10 ⟨rfl, hx10⟩
 have T0 := T0.below hx10
 have O1x0 := O1x0.below hx10
 have hb := below_then hb hx10
 clear hx10
 have O1x1 : Own (w10.alloc (.cells #[.bool false, .int .i64 0, .int .i64 1, .bool true, .int .i64 1, .int .i64 2] 56)) w.heap.size (.slice (some ⟨w10.heap.size, 0, none⟩) 2 2) [⟨false, 0, 1⟩, ⟨true, 1, 2⟩] := World.ownsRow_lit (base := w.heap.size) (e := 56) (size := 3) w10 #[.bool false, .int .i64 0, .int .i64 1, .bool true, .int .i64 1, .int .i64 2] 2 hb.size (by decide) rfl
 have T0 := T0.below (box_below w10 (.cells #[.bool false, .int .i64 0, .int .i64 1, .bool true, .int .i64 1, .int .i64 2] 56))
 have O1x0 := O1x0.below (box_below w10 (.cells #[.bool false, .int .i64 0, .int .i64 1, .bool true, .int .i64 1, .int .i64 2] 56))
 have hb := below_then hb (box_below w10 (.cells #[.bool false, .int .i64 0, .int .i64 1, .bool true, .int .i64 1, .int .i64 2] 56))
 go_wp2_with fail
 generalize w10.alloc (.cells #[.bool false, .int .i64 0, .int .i64 1, .bool true, .int .i64 1, .int .i64 2] 56) = w11 at *
 generalize w10.heap.size = a1x1 at *
 refine (crow_any _ _ _ _).mono ?_
 rintro e wq ⟨rfl, rfl⟩
 go_wp2_with fail
 refine (read_any 1 2 w11).mono ?_
 rintro e w12 ⟨rfl, hx12⟩
 have T0 := T0.below hx12
 have O1x0 := O1x0.below hx12
 have O1x1 := O1x1.below hx12
 have hb := below_then hb hx12
 clear hx12
 go_wp2_with fail
 refine (read_any 0 0 w12).mono ?_
 rintro e w13 ⟨rfl, hx13⟩
 have T0 := T0.below hx13
 have O1x0 := O1x0.below hx13
 have O1x1 := O1x1.below hx13
 have hb := below_then hb hx13
 clear hx13
 have O1x2 : Own (w13.alloc (.cells #[.bool false, .int .i64 1, .int .i64 2, .bool false, .int .i64 0, .int .i64 0] 56)) w.heap.size (.slice (some ⟨w13.heap.size, 0, none⟩) 2 2) [⟨false, 1, 2⟩, ⟨false, 0, 0⟩] := World.ownsRow_lit (base := w.heap.size) (e := 56) (size := 3) w13 #[.bool false, .int .i64 1, .int .i64 2, .bool false, .int .i64 0, .int .i64 0] 2 hb.size (by decide) rfl
 have T0 := T0.below (box_below w13 (.cells #[.bool false, .int .i64 1, .int .i64 2, .bool false, .int .i64 0, .int .i64 0] 56))
 have O1x0 := O1x0.below (box_below w13 (.cells #[.bool false, .int .i64 1, .int .i64 2, .bool false, .int .i64 0, .int .i64 0] 56))
 have O1x1 := O1x1.below (box_below w13 (.cells #[.bool false, .int .i64 1, .int .i64 2, .bool false, .int .i64 0, .int .i64 0] 56))
 have hb := below_then hb (box_below w13 (.cells #[.bool false, .int .i64 1, .int .i64 2, .bool false, .int .i64 0, .int .i64 0] 56))
 go_wp2_with fail
 generalize w13.alloc (.cells #[.bool false, .int .i64 1, .int .i64 2, .bool false, .int .i64 0, .int .i64 0] 56) = w14 at *
 generalize w13.heap.size = a1x2 at *
 refine (crow_any _ _ _ _).mono ?_
 rintro e wq ⟨rfl, rfl⟩
 have T0 := T0.below (box_below w14 (.cells #[.slice (some ⟨a1x0, 0, none⟩) 1 1, .slice (some ⟨a1x1, 0, none⟩) 2 2, .slice (some ⟨a1x2, 0, none⟩) 2 2] 57))
 have O1x0 := O1x0.below (box_below w14 (.cells #[.slice (some ⟨a1x0, 0, none⟩) 1 1, .slice (some ⟨a1x1, 0, none⟩) 2 2, .slice (some ⟨a1x2, 0, none⟩) 2 2] 57))
 have O1x1 := O1x1.below (box_below w14 (.cells #[.slice (some ⟨a1x0, 0, none⟩) 1 1, .slice (some ⟨a1x1, 0, none⟩) 2 2, .slice (some ⟨a1x2, 0, none⟩) 2 2] 57))
 have O1x2 := O1x2.below (box_below w14 (.cells #[.slice (some ⟨a1x0, 0, none⟩) 1 1, .slice (some ⟨a1x1, 0, none⟩) 2 2, .slice (some ⟨a1x2, 0, none⟩) 2 2] 57))
 have hb := below_then hb (box_below w14 (.cells #[.slice (some ⟨a1x0, 0, none⟩) 1 1, .slice (some ⟨a1x1, 0, none⟩) 2 2, .slice (some ⟨a1x2, 0, none⟩) 2 2] 57))
 have KR1 : KRows (w14.alloc (.cells #[.slice (some ⟨a1x0, 0, none⟩) 1 1, .slice (some ⟨a1x1, 0, none⟩) 2 2, .slice (some ⟨a1x2, 0, none⟩) 2 2] 57)) (.slice (some ⟨w14.heap.size, 0, none⟩) 3 3) [((.slice (some ⟨a1x0, 0, none⟩) 1 1), [⟨true, 0, 1⟩]), ((.slice (some ⟨a1x1, 0, none⟩) 2 2), [⟨false, 0, 1⟩, ⟨true, 1, 2⟩]), ((.slice (some ⟨a1x2, 0, none⟩) 2 2), [⟨false, 1, 2⟩, ⟨false, 0, 0⟩])] := ⟨Row.of_owns (World.ownsRow_lit (base := 0) (e := 57) (size := 1) w14 #[.slice (some ⟨a1x0, 0, none⟩) 1 1, .slice (some ⟨a1x1, 0, none⟩) 2 2, .slice (some ⟨a1x2, 0, none⟩) 2 2] 3 (Nat.zero_le _) (by decide) rfl), krows_all (⟨O1x0.ops, ⟨O1x1.ops, ⟨O1x2.ops, trivial⟩⟩⟩)⟩
 go_wp2_with fail
 generalize w14.alloc (.cells #[.slice (some ⟨a1x0, 0, none⟩) 1 1, .slice (some ⟨a1x1, 0, none⟩) 2 2, .slice (some ⟨a1x2, 0, none⟩) 2 2] 57) = w15 at *
 generalize w14.heap.size = k1 at *
 refine (conce_any _ _ _ KR1 (by simp)).mono ?_
 rintro e w16 ⟨v1, rfl, hW, hT, hx16⟩
 obtain ⟨o1, n1, c1, rfl⟩ := txns_slice hT
 have e1 : onceL [((.slice (some ⟨a1x0, 0, none⟩) 1 1), [⟨true, 0, 1⟩]), ((.slice (some ⟨a1x1, 0, none⟩) 2 2), [⟨false, 0, 1⟩, ⟨true, 1, 2⟩]), ((.slice (some ⟨a1x2, 0, none⟩) 2 2), [⟨false, 1, 2⟩, ⟨false, 0, 0⟩])] ([((.slice (some ⟨a1x0, 0, none⟩) 1 1), [⟨true, 0, 1⟩]), ((.slice (some ⟨a1x1, 0, none⟩) 2 2), [⟨false, 0, 1⟩, ⟨true, 1, 2⟩]), ((.slice (some ⟨a1x2, 0, none⟩) 2 2), [⟨false, 1, 2⟩, ⟨false, 0, 0⟩])] : List KOp).length = catN 1 (fun (j : Nat) => ([.slice (some ⟨a1x0, 0, none⟩) 1 1, .slice (some ⟨a1x1, 0, none⟩) 2 2, .slice (some ⟨a1x2, 0, none⟩) 2 2] : List Value).getD j undef) := by kernel_rfl
 have hI : CatH w16 w.heap.size (.slice o1 n1 c1) (onceL [((.slice (some ⟨a1x0, 0, none⟩) 1 1), [⟨true, 0, 1⟩]), ((.slice (some ⟨a1x1, 0, none⟩) 2 2), [⟨false, 0, 1⟩, ⟨true, 1, 2⟩]), ((.slice (some ⟨a1x2, 0, none⟩) 2 2), [⟨false, 1, 2⟩, ⟨false, 0, 0⟩])] ([((.slice (some ⟨a1x0, 0, none⟩) 1 1), [⟨true, 0, 1⟩]), ((.slice (some ⟨a1x1, 0, none⟩) 2 2), [⟨false, 0, 1⟩, ⟨true, 1, 2⟩]), ((.slice (some ⟨a1x2, 0, none⟩) 2 2), [⟨false, 1, 2⟩, ⟨false, 0, 0⟩])] : List KOp).length) := ⟨own_base' hW hb.size, conce_own (all_own (⟨O1x0.below hx16, ⟨O1x1.below hx16, ⟨O1x2.below hx16, trivial⟩⟩⟩))⟩
 rw [e1] at hI
 generalize (fun (j : Nat) => ([.slice (some ⟨a1x0, 0, none⟩) 1 1, .slice (some ⟨a1x1, 0, none⟩) 2 2, .slice (some ⟨a1x2, 0, none⟩) 2 2] : List Value).getD j undef) = u1 at hI
 have T0 := T0.below hx16
 have hb := below_then hb hx16
 have T1 := hI
 clear hI hT hW hx16 KR1 e1 O1x0 O1x1 O1x2
 go_wp2_with fail
 refine (write_op 0 1 w16).mono ?_
 rintro e w17 ⟨rfl, hx17⟩
 have T0 := T0.below hx17
 have T1 := T1.below hx17
 have hb := below_then hb hx17
 clear hx17
 have O2x0 : Own (w17.alloc (.cells #[.bool true, .int .i64 0, .int .i64 1] 56)) w.heap.size (.slice (some ⟨w17.heap.size, 0, none⟩) 1 1) [⟨true, 0, 1⟩] := World.ownsRow_lit (base := w.heap.size) (e := 56) (size := 3) w17 #[.bool true, .int .i64 0, .int .i64 1] 1 hb.size (by decide) rfl
 have T0 := T0.below (box_below w17 (.cells #[.bool true, .int .i64 0, .int .i64 1] 56))
 have T1 := T1.below (box_below w17 (.cells #[.bool true, .int .i64 0, .int .i64 1] 56))
 have hb := below_then hb (box_below w17 (.cells #[.bool true, .int .i64 0, .int .i64 1] 56))
 go_wp2_with fail
 generalize w17.alloc (.cells #[.bool true, .int .i64 0, .int .i64 1] 56) = w18 at *
 generalize w17.heap.size = a2x0 at *
 refine (crow_any _ _ _ _).mono ?_
 rintro e wq ⟨rfl, rfl⟩
 go_wp2_with fail
 refine (write_op 1 2 w18).mono ?_
 rintro e w19 ⟨rfl, hx19⟩
 have T0 := T0.below hx19
 have T1 := T1.below hx19
 have O2x0 := O2x0.below hx19
 have hb := below_then hb hx19
 clear hx19
 have O2x1 : Own (w19.alloc (.cells #[.bool true, .int .i64 1, .int .i64 2] 56)) w.heap.size (.slice (some ⟨w19.heap.size, 0, none⟩) 1 1) [⟨true, 1, 2⟩] := World.ownsRow_lit (base := w.heap.size) (e := 56) (size := 3) w19 #[.bool true, .int .i64 1, .int .i64 2] 1 hb.size (by decide) rfl
 have T0 := T0.below (box_below w19 (.cells #[.bool true, .int .i64 1, .int .i64 2] 56))
 have T1 := T1.below (box_below w19 (.cells #[.bool true, .int .i64 1, .int .i64 2] 56))
 have O2x0 := O2x0.below (box_below w19 (.cells #[.bool true, .int .i64 1, .int .i64 2] 56))
 have hb := below_then hb (box_below w19 (.cells #[.bool true, .int .i64 1, .int .i64 2] 56))
 go_wp2_with fail
 generalize w19.alloc (.cells #[.bool true, .int .i64 1, .int .i64 2] 56) = w20 at *
 generalize w19.heap.size = a2x1 at *
 refine (crow_any _ _ _ _).mono ?_
 rintro e wq ⟨rfl, rfl⟩
 go_wp2_with fail
 refine (read_any 0 1 w20).mono ?_
 rintro e w21 ⟨rfl, hx21⟩
 have T0 := T0.below hx21
 have T1 := T1.below hx21
 have O2x0 := O2x0.below hx21
 have O2x1 := O2x1.below hx21
 have hb := below_then hb hx21
 clear hx21
 go_wp2_with fail
 refine (read_any 1 0 w21).mono ?_
 rintro e w22 ⟨rfl, hx22⟩
 have T0 := T0.below hx22
 have T1 := T1.below hx22
 have O2x0 := O2x0.below hx22
 have O2x1 := O2x1.below hx22
 have hb := below_then hb hx22
 clear hx22
 have O2x2 : Own (w22.alloc (.cells #[.bool false, .int .i64 0, .int .i64 1, .bool false, .int .i64 1, .int .i64 0] 56)) w.heap.size (.slice (some ⟨w22.heap.size, 0, none⟩) 2 2) [⟨false, 0, 1⟩, ⟨false, 1, 0⟩] := World.ownsRow_lit (base := w.heap.size) (e := 56) (size := 3) w22 #[.bool false, .int .i64 0, .int .i64 1, .bool false, .int .i64 1, .int .i64 0] 2 hb.size (by decide) rfl
 have T0 := T0.below (box_below w22 (.cells #[.bool false, .int .i64 0, .int .i64 1, .bool false, .int .i64 1, .int .i64 0] 56))
 have T1 := T1.below (box_below w22 (.cells #[.bool false, .int .i64 0, .int .i64 1, .bool false, .int .i64 1, .int .i64 0] 56))
 have O2x0 := O2x0.below (box_below w22 (.cells #[.bool false, .int .i64 0, .int .i64 1, .bool false, .int .i64 1, .int .i64 0] 56))
 have O2x1 := O2x1.below (box_below w22 (.cells #[.bool false, .int .i64 0, .int .i64 1, .bool false, .int .i64 1, .int .i64 0] 56))
 have hb := below_then hb (box_below w22 (.cells #[.bool false, .int .i64 0, .int .i64 1, .bool false, .int .i64 1, .int .i64 0] 56))
 go_wp2_with fail
 generalize w22.alloc (.cells #[.bool false, .int .i64 0, .int .i64 1, .bool false, .int .i64 1, .int .i64 0] 56) = w23 at *
 generalize w22.heap.size = a2x2 at *
 refine (crow_any _ _ _ _).mono ?_
 rintro e wq ⟨rfl, rfl⟩
 go_wp2_with fail
 refine (read_any 1 2 w23).mono ?_
 rintro e w24 ⟨rfl, hx24⟩
 have T0 := T0.below hx24
 have T1 := T1.below hx24
 have O2x0 := O2x0.below hx24
 have O2x1 := O2x1.below hx24
 have O2x2 := O2x2.below hx24
 have hb := below_then hb hx24
 clear hx24
 go_wp2_with fail
 refine (read_any 0 0 w24).mono ?_
 rintro e w25 ⟨rfl, hx25⟩
 have T0 := T0.below hx25
 have T1 := T1.below hx25
 have O2x0 := O2x0.below hx25
 have O2x1 := O2x1.below hx25
 have O2x2 := O2x2.below hx25
 have hb := below_then hb hx25
 clear hx25
 have O2x3 : Own (w25.alloc (.cells #[.bool false, .int .i64 1, .int .i64 2, .bool false, .int .i64 0, .int .i64 0] 56)) w.heap.size (.slice (some ⟨w25.heap.size, 0, none⟩) 2 2) [⟨false, 1, 2⟩, ⟨false, 0, 0⟩] := World.ownsRow_lit (base := w.heap.size) (e := 56) (size := 3) w25 #[.bool false, .int .i64 1, .int .i64 2, .bool false, .int .i64 0, .int .i64 0] 2 hb.size (by decide) rfl
 have T0 := T0.below (box_below w25 (.cells #[.bool false, .int .i64 1, .int .i64 2, .bool false, .int .i64 0, .int .i64 0] 56))
 have T1 := T1.below (box_below w25 (.cells #[.bool false, .int .i64 1, .int .i64 2, .bool false, .int .i64 0, .int .i64 0] 56))
 have O2x0 := O2x0.below (box_below w25 (.cells #[.bool false, .int .i64 1, .int .i64 2, .bool false, .int .i64 0, .int .i64 0] 56))
 have O2x1 := O2x1.below (box_below w25 (.cells #[.bool false, .int .i64 1, .int .i64 2, .bool false, .int .i64 0, .int .i64 0] 56))
 have O2x2 := O2x2.below (box_below w25 (.cells #[.bool false, .int .i64 1, .int .i64 2, .bool false, .int .i64 0, .int .i64 0] 56))
 have hb := below_then hb (box_below w25 (.cells #[.bool false, .int .i64 1, .int .i64 2, .bool false, .int .i64 0, .int .i64 0] 56))
 go_wp2_with fail
 generalize w25.alloc (.cells #[.bool false, .int .i64 1, .int .i64 2, .bool false, .int .i64 0, .int .i64 0] 56) = w26 at *
 generalize w25.heap.size = a2x3 at *
 refine (crow_any _ _ _ _).mono ?_
 rintro e wq ⟨rfl, rfl⟩
 have T0 := T0.below (box_below w26 (.cells #[.slice (some ⟨a2x0, 0, none⟩) 1 1, .slice (some ⟨a2x1, 0, none⟩) 1 1, .slice (some ⟨a2x2, 0, none⟩) 2 2, .slice (some ⟨a2x3, 0, none⟩) 2 2] 57))
 have T1 := T1.below (box_below w26 (.cells #[.slice (some ⟨a2x0, 0, none⟩) 1 1, .slice (some ⟨a2x1, 0, none⟩) 1 1, .slice (some ⟨a2x2, 0, none⟩) 2 2, .slice (some ⟨a2x3, 0, none⟩) 2 2] 57))
 have O2x0 := O2x0.below (box_below w26 (.cells #[.slice (some ⟨a2x0, 0, none⟩) 1 1, .slice (some ⟨a2x1, 0, none⟩) 1 1, .slice (some ⟨a2x2, 0, none⟩) 2 2, .slice (some ⟨a2x3, 0, none⟩) 2 2] 57))
 have O2x1 := O2x1.below (box_below w26 (.cells #[.slice (some ⟨a2x0, 0, none⟩) 1 1, .slice (some ⟨a2x1, 0, none⟩) 1 1, .slice (some ⟨a2x2, 0, none⟩) 2 2, .slice (some ⟨a2x3, 0, none⟩) 2 2] 57))
 have O2x2 := O2x2.below (box_below w26 (.cells #[.slice (some ⟨a2x0, 0, none⟩) 1 1, .slice (some ⟨a2x1, 0, none⟩) 1 1, .slice (some ⟨a2x2, 0, none⟩) 2 2, .slice (some ⟨a2x3, 0, none⟩) 2 2] 57))
 have O2x3 := O2x3.below (box_below w26 (.cells #[.slice (some ⟨a2x0, 0, none⟩) 1 1, .slice (some ⟨a2x1, 0, none⟩) 1 1, .slice (some ⟨a2x2, 0, none⟩) 2 2, .slice (some ⟨a2x3, 0, none⟩) 2 2] 57))
 have hb := below_then hb (box_below w26 (.cells #[.slice (some ⟨a2x0, 0, none⟩) 1 1, .slice (some ⟨a2x1, 0, none⟩) 1 1, .slice (some ⟨a2x2, 0, none⟩) 2 2, .slice (some ⟨a2x3, 0, none⟩) 2 2] 57))
 have KR2 : KRows (w26.alloc (.cells #[.slice (some ⟨a2x0, 0, none⟩) 1 1, .slice (some ⟨a2x1, 0, none⟩) 1 1, .slice (some ⟨a2x2, 0, none⟩) 2 2, .slice (some ⟨a2x3, 0, none⟩) 2 2] 57)) (.slice (some ⟨w26.heap.size, 0, none⟩) 4 4) [((.slice (some ⟨a2x0, 0, none⟩) 1 1), [⟨true, 0, 1⟩]), ((.slice (some ⟨a2x1, 0, none⟩) 1 1), [⟨true, 1, 2⟩]), ((.slice (some ⟨a2x2, 0, none⟩) 2 2), [⟨false, 0, 1⟩, ⟨false, 1, 0⟩]), ((.slice (some ⟨a2x3, 0, none⟩) 2 2), [⟨false, 1, 2⟩, ⟨false, 0, 0⟩])] := ⟨Row.of_owns (World.ownsRow_lit (base := 0) (e := 57) (size := 1) w26 #[.slice (some ⟨a2x0, 0, none⟩) 1 1, .slice (some ⟨a2x1, 0, none⟩) 1 1, .slice (some ⟨a2x2, 0, none⟩) 2 2, .slice (some ⟨a2x3, 0, none⟩) 2 2] 4 (Nat.zero_le _) (by decide) rfl), krows_all (⟨O2x0.ops, ⟨O2x1.ops, ⟨O2x2.ops, ⟨O2x3.ops, trivial⟩⟩⟩⟩)⟩
 go_wp2_with fail
 generalize w26.alloc (.cells #[.slice (some ⟨a2x0, 0, none⟩) 1 1, .slice (some ⟨a2x1, 0, none⟩) 1 1, .slice (some ⟨a2x2, 0, none⟩) 2 2, .slice (some ⟨a2x3, 0, none⟩) 2 2] 57) = w27 at *
 generalize w26.heap.size = k2 at *
 refine (conce_any _ _ _ KR2 (by simp)).mono ?_
 rintro e w28 ⟨v2, rfl, hW, hT, hx28⟩
 obtain ⟨o2, n2, c2, rfl⟩ := txns_slice hT
 have e2 : onceL [((.slice (some ⟨a2x0, 0, none⟩) 1 1), [⟨true, 0, 1⟩]), ((.slice (some ⟨a2x1, 0, none⟩) 1 1), [⟨true, 1, 2⟩]), ((.slice (some ⟨a2x2, 0, none⟩) 2 2), [⟨false, 0, 1⟩, ⟨false, 1, 0⟩]), ((.slice (some ⟨a2x3, 0, none⟩) 2 2), [⟨false, 1, 2⟩, ⟨false, 0, 0⟩])] ([((.slice (some ⟨a2x0, 0, none⟩) 1 1), [⟨true, 0, 1⟩]), ((.slice (some ⟨a2x1, 0, none⟩) 1 1), [⟨true, 1, 2⟩]), ((.slice (some ⟨a2x2, 0, none⟩) 2 2), [⟨false, 0, 1⟩, ⟨false, 1, 0⟩]), ((.slice (some ⟨a2x3, 0, none⟩) 2 2), [⟨false, 1, 2⟩, ⟨false, 0, 0⟩])] : List KOp).length = catN 2 (fun (j : Nat) => ([.slice (some ⟨a2x0, 0, none⟩) 1 1, .slice (some ⟨a2x1, 0, none⟩) 1 1, .slice (some ⟨a2x2, 0, none⟩) 2 2, .slice (some ⟨a2x3, 0, none⟩) 2 2] : List Value).getD j undef) := by kernel_rfl
 have hI : CatH w28 w.heap.size (.slice o2 n2 c2) (onceL [((.slice (some ⟨a2x0, 0, none⟩) 1 1), [⟨true, 0, 1⟩]), ((.slice (some ⟨a2x1, 0, none⟩) 1 1), [⟨true, 1, 2⟩]), ((.slice (some ⟨a2x2, 0, none⟩) 2 2), [⟨false, 0, 1⟩, ⟨false, 1, 0⟩]), ((.slice (some ⟨a2x3, 0, none⟩) 2 2), [⟨false, 1, 2⟩, ⟨false, 0, 0⟩])] ([((.slice (some ⟨a2x0, 0, none⟩) 1 1), [⟨true, 0, 1⟩]), ((.slice (some ⟨a2x1, 0, none⟩) 1 1), [⟨true, 1, 2⟩]), ((.slice (some ⟨a2x2, 0, none⟩) 2 2), [⟨false, 0, 1⟩, ⟨false, 1, 0⟩]), ((.slice (some ⟨a2x3, 0, none⟩) 2 2), [⟨false, 1, 2⟩, ⟨false, 0, 0⟩])] : List KOp).length) := ⟨own_base' hW hb.size, conce_own (all_own (⟨O2x0.below hx28, ⟨O2x1.below hx28, ⟨O2x2.below hx28, ⟨O2x3.below hx28, trivial⟩⟩⟩⟩))⟩
 rw [e2] at hI
 generalize (fun (j : Nat) => ([.slice (some ⟨a2x0, 0, none⟩) 1 1, .slice (some ⟨a2x1, 0, none⟩) 1 1, .slice (some ⟨a2x2, 0, none⟩) 2 2, .slice (some ⟨a2x3, 0, none⟩) 2 2] : List Value).getD j undef) = u2 at hI
 have T0 := T0.below hx28
 have T1 := T1.below hx28
 have hb := below_then hb hx28
 have T2 := hI
 clear hI hT hW hx28 KR2 e2 O2x0 O2x1 O2x2 O2x3
 go_wp2_with fail
 refine (read_any 0 0 w28).mono ?_
 rintro e w29 ⟨rfl, hx29⟩
 have T0 := T0.below hx29
 have T1 := T1.below hx29
 have T2 := T2.below hx29
 have hb := below_then hb hx29
 clear hx29
 go_wp2_with fail
 refine (write_op 0 1 w29).mono ?_
 rintro e w30 ⟨rfl, hx30⟩
 have T0 := T0.below hx30
 have T1 := T1.below hx30
 have T2 := T2.below hx30
 have hb := below_then hb hx30
 clear hx30
 have O3x0 : Own (w30.alloc (.cells #[.bool false, .int .i64 0, .int .i64 0, .bool true, .int .i64 0, .int .i64 1] 56)) w.heap.size (.slice (some ⟨w30.heap.size, 0, none⟩) 2 2) [⟨false, 0, 0⟩, ⟨true, 0, 1⟩] := World.ownsRow_lit (base := w.heap.size) (e := 56) (size := 3) w30 #[.bool false, .int .i64 0, .int .i64 0, .bool true, .int .i64 0, .int .i64 1] 2 hb.size (by decide) rfl
 have T0 := T0.below (box_below w30 (.cells #[.bool false, .int .i64 0, .int .i64 0, .bool true, .int .i64 0, .int .i64 1] 56))
 have T1 := T1.below (box_below w30 (.cells #[.bool false, .int .i64 0, .int .i64 0, .bool true, .int .i64 0, .int .i64 1] 56))
 have T2 := T2.below (box_below w30 (.cells #[.bool false, .int .i64 0, .int .i64 0, .bool true, .int .i64 0, .int .i64 1] 56))
 have hb := below_then hb (box_below w30 (.cells #[.bool false, .int .i64 0, .int .i64 0, .bool true, .int .i64 0, .int .i64 1] 56))
 go_wp2_with fail
 generalize w30.alloc (.cells #[.bool false, .int .i64 0, .int .i64 0, .bool true, .int .i64 0, .int .i64 1] 56) = w31 at *
 generalize w30.heap.size = a3x0 at *
 refine (crow_any _ _ _ _).mono ?_
 rintro e wq ⟨rfl, rfl⟩
 go_wp2_with fail
 refine (read_any 0 0 w31).mono ?_
 rintro e w32 ⟨rfl, hx32⟩
 have T0 := T0.below hx32
 have T1 := T1.below hx32
 have T2 := T2.below hx32
 have O3x0 := O3x0.below hx32
 have hb := below_then hb hx32
 clear hx32
 go_wp2_with fail
 refine (write_op 0 2 w32).mono ?_
 rintro e w33 ⟨rfl, hx33⟩
 have T0 := T0.below hx33
 have T1 := T1.below hx33
 have T2 := T2.below hx33
 have O3x0 := O3x0.below hx33
 have hb := below_then hb hx33
 clear hx33
 have O3x1 : Own (w33.alloc (.cells #[.bool false, .int .i64 0, .int .i64 0, .bool true, .int .i64 0, .int .i64 2] 56)) w.heap.size (.slice (some ⟨w33.heap.size, 0, none⟩) 2 2) [⟨false, 0, 0⟩, ⟨true, 0, 2⟩] := World.ownsRow_lit (base := w.heap.size) (e := 56) (size := 3) w33 #[.bool false, .int .i64 0, .int .i64 0, .bool true, .int .i64 0, .int .i64 2] 2 hb.size (by decide) rfl
 have T0 := T0.below (box_below w33 (.cells #[.bool false, .int .i64 0, .int .i64 0, .bool true, .int .i64 0, .int .i64 2] 56))
 have T1 := T1.below (box_below w33 (.cells #[.bool false, .int .i64 0, .int .i64 0, .bool true, .int .i64 0, .int .i64 2] 56))
 have T2 := T2.below (box_below w33 (.cells #[.bool false, .int .i64 0, .int .i64 0, .bool true, .int .i64 0, .int .i64 2] 56))
 have O3x0 := O3x0.below (box_below w33 (.cells #[.bool false, .int .i64 0, .int .i64 0, .bool true, .int .i64 0, .int .i64 2] 56))
 have hb := below_then hb (box_below w33 (.cells #[.bool false, .int .i64 0, .int .i64 0, .bool true, .int .i64 0, .int .i64 2] 56))
 go_wp2_with fail
 generalize w33.alloc (.cells #[.bool false, .int .i64 0, .int .i64 0, .bool true, .int .i64 0, .int .i64 2] 56) = w34 at *
 generalize w33.heap.size = a3x1 at *
 refine (crow_any _ _ _ _).mono ?_
 rintro e wq ⟨rfl, rfl⟩
 have T0 := T0.below (box_below w34 (.cells #[.slice (some ⟨a3x0, 0, none⟩) 2 2, .slice (some ⟨a3x1, 0, none⟩) 2 2] 57))
 have T1 := T1.below (box_below w34 (.cells #[.slice (some ⟨a3x0, 0, none⟩) 2 2, .slice (some ⟨a3x1, 0, none⟩) 2 2] 57))
 have T2 := T2.below (box_below w34 (.cells #[.slice (some ⟨a3x0, 0, none⟩) 2 2, .slice (some ⟨a3x1, 0, none⟩) 2 2] 57))
 have O3x0 := O3x0.below (box_below w34 (.cells #[.slice (some ⟨a3x0, 0, none⟩) 2 2, .slice (some ⟨a3x1, 0, none⟩) 2 2] 57))
 have O3x1 := O3x1.below (box_below w34 (.cells #[.slice (some ⟨a3x0, 0, none⟩) 2 2, .slice (some ⟨a3x1, 0, none⟩) 2 2] 57))
 have hb := below_then hb (box_below w34 (.cells #[.slice (some ⟨a3x0, 0, none⟩) 2 2, .slice (some ⟨a3x1, 0, none⟩) 2 2] 57))
 have KR3 : KRows (w34.alloc (.cells #[.slice (some ⟨a3x0, 0, none⟩) 2 2, .slice (some ⟨a3x1, 0, none⟩) 2 2] 57)) (.slice (some ⟨w34.heap.size, 0, none⟩) 2 2) [((.slice (some ⟨a3x0, 0, none⟩) 2 2), [⟨false, 0, 0⟩, ⟨true, 0, 1⟩]), ((.slice (some ⟨a3x1, 0, none⟩) 2 2), [⟨false, 0, 0⟩, ⟨true, 0, 2⟩])] := ⟨Row.of_owns (World.ownsRow_lit (base := 0) (e := 57) (size := 1) w34 #[.slice (some ⟨a3x0, 0, none⟩) 2 2, .slice (some ⟨a3x1, 0, none⟩) 2 2] 2 (Nat.zero_le _) (by decide) rfl), krows_all (⟨O3x0.ops, ⟨O3x1.ops, trivial⟩⟩)⟩
 go_wp2_with fail
 generalize w34.alloc (.cells #[.slice (some ⟨a3x0, 0, none⟩) 2 2, .slice (some ⟨a3x1, 0, none⟩) 2 2] 57) = w35 at *
 generalize w34.heap.size = k3 at *
 refine (conce_any _ _ _ KR3 (by simp)).mono ?_
 rintro e w36 ⟨v3, rfl, hW, hT, hx36⟩
 obtain ⟨o3, n3, c3, rfl⟩ := txns_slice hT
 have e3 : onceL [((.slice (some ⟨a3x0, 0, none⟩) 2 2), [⟨false, 0, 0⟩, ⟨true, 0, 1⟩]), ((.slice (some ⟨a3x1, 0, none⟩) 2 2), [⟨false, 0, 0⟩, ⟨true, 0, 2⟩])] ([((.slice (some ⟨a3x0, 0, none⟩) 2 2), [⟨false, 0, 0⟩, ⟨true, 0, 1⟩]), ((.slice (some ⟨a3x1, 0, none⟩) 2 2), [⟨false, 0, 0⟩, ⟨true, 0, 2⟩])] : List KOp).length = catN 3 (fun (j : Nat) => ([.slice (some ⟨a3x0, 0, none⟩) 2 2, .slice (some ⟨a3x1, 0, none⟩) 2 2] : List Value).getD j undef) := by kernel_rfl
 have hI : CatH w36 w.heap.size (.slice o3 n3 c3) (onceL [((.slice (some ⟨a3x0, 0, none⟩) 2 2), [⟨false, 0, 0⟩, ⟨true, 0, 1⟩]), ((.slice (some ⟨a3x1, 0, none⟩) 2 2), [⟨false, 0, 0⟩, ⟨true, 0, 2⟩])] ([((.slice (some ⟨a3x0, 0, none⟩) 2 2), [⟨false, 0, 0⟩, ⟨true, 0, 1⟩]), ((.slice (some ⟨a3x1, 0, none⟩) 2 2), [⟨false, 0, 0⟩, ⟨true, 0, 2⟩])] : List KOp).length) := ⟨own_base' hW hb.size, conce_own (all_own (⟨O3x0.below hx36, ⟨O3x1.below hx36, trivial⟩⟩))⟩
 rw [e3] at hI
 generalize (fun (j : Nat) => ([.slice (some ⟨a3x0, 0, none⟩) 2 2, .slice (some ⟨a3x1, 0, none⟩) 2 2] : List Value).getD j undef) = u3 at hI
 have T0 := T0.below hx36
 have T1 := T1.below hx36
 have T2 := T2.below hx36
 have hb := below_then hb hx36
 have T3 := hI
 clear hI hT hW hx36 KR3 e3 O3x0 O3x1
 go_wp2_with fail
 refine (read_any 1 0 w36).mono ?_
 rintro e w37 ⟨rfl, hx37⟩
 have T0 := T0.below hx37
 have T1 := T1.below hx37
 have T2 := T2.below hx37
 have T3 := T3.below hx37
 have hb := below_then hb hx37
 clear hx37
 go_wp2_with fail
 refine (write_op 0 1 w37).mono ?_
 rintro e w38 ⟨rfl, hx38⟩
 have T0 := T0.below hx38
 have T1 := T1.below hx38
 have T2 := T2.below hx38
 have T3 := T3.below hx38
 have hb := below_then hb hx38
 clear hx38
 have O4x0 : Own (w38.alloc (.cells #[.bool false, .int .i64 1, .int .i64 0, .bool true, .int .i64 0, .int .i64 1] 56)) w.heap.size (.slice (some ⟨w38.heap.size, 0, none⟩) 2 2) [⟨false, 1, 0⟩, ⟨true, 0, 1⟩] := World.ownsRow_lit (base := w.heap.size) (e := 56) (size := 3) w38 #[.bool false, .int .i64 1, .int .i64 0, .bool true, .int .i64 0, .int .i64 1] 2 hb.size (by decide) rfl
 have T0 := T0.below (box_below w38 (.cells #[.bool false, .int .i64 1, .int .i64 0, .bool true, .int .i64 0, .int .i64 1] 56))
 have T1 := T1.below (box_below w38 (.cells #[.bool false, .int .i64 1, .int .i64 0, .bool true, .int .i64 0, .int .i64 1] 56))
 have T2 := T2.below (box_below w38 (.cells #[.bool false, .int .i64 1, .int .i64 0, .bool true, .int .i64 0, .int .i64 1] 56))
 have T3 := T3.below (box_below w38 (.cells #[.bool false, .int .i64 1, .int .i64 0, .bool true, .int .i64 0, .int .i64 1] 56))
 have hb := below_then hb (box_below w38 (.cells #[.bool false, .int .i64 1, .int .i64 0, .bool true, .int .i64 0, .int .i64 1] 56))
 go_wp2_with fail
 generalize w38.alloc (.cells #[.bool false, .int .i64 1, .int .i64 0, .bool true, .int .i64 0, .int .i64 1] 56) = w39 at *
 generalize w38.heap.size = a4x0 at *
 refine (crow_any _ _ _ _).mono ?_
 rintro e wq ⟨rfl, rfl⟩
 go_wp2_with fail
 refine (read_any 0 0 w39).mono ?_
 rintro e w40 ⟨rfl, hx40⟩
 have T0 := T0.below hx40
 have T1 := T1.below hx40
 have T2 := T2.below hx40
 have T3 := T3.below hx40
 have O4x0 := O4x0.below hx40
 have hb := below_then hb hx40
 clear hx40
 go_wp2_with fail
 refine (write_op 1 2 w40).mono ?_
 rintro e w41 ⟨rfl, hx41⟩
 have T0 := T0.below hx41
 have T1 := T1.below hx41
 have T2 := T2.below hx41
 have T3 := T3.below hx41
 have O4x0 := O4x0.below hx41
 have hb := below_then hb hx41
 clear hx41
 have O4x1 : Own (w41.alloc (.cells #[.bool false, .int .i64 0, .int .i64 0, .bool true, .int .i64 1, .int .i64 2] 56)) w.heap.size (.slice (some ⟨w41.heap.size, 0, none⟩) 2 2) [⟨false, 0, 0⟩, ⟨true, 1, 2⟩] := World.ownsRow_lit (base := w.heap.size) (e := 56) (size := 3) w41 #[.bool false, .int .i64 0, .int .i64 0, .bool true, .int .i64 1, .int .i64 2] 2 hb.size (by decide) rfl
 have T0 := T0.below (box_below w41 (.cells #[.bool false, .int .i64 0, .int .i64 0, .bool true, .int .i64 1, .int .i64 2] 56))
 have T1 := T1.below (box_below w41 (.cells #[.bool false, .int .i64 0, .int .i64 0, .bool true, .int .i64 1, .int .i64 2] 56))
 have T2 := T2.below (box_below w41 (.cells #[.bool false, .int .i64 0, .int .i64 0, .bool true, .int .i64 1, .int .i64 2] 56))
 have T3 := T3.below (box_below w41 (.cells #[.bool false, .int .i64 0, .int .i64 0, .bool true, .int .i64 1, .int .i64 2] 56))
 have O4x0 := O4x0.below (box_below w41 (.cells #[.bool false, .int .i64 0, .int .i64 0, .bool true, .int .i64 1, .int .i64 2] 56))
 have hb := below_then hb (box_below w41 (.cells #[.bool false, .int .i64 0, .int .i64 0, .bool true, .int .i64 1, .int .i64 2] 56))
 go_wp2_with fail
 generalize w41.alloc (.cells #[.bool false, .int .i64 0, .int .i64 0, .bool true, .int .i64 1, .int .i64 2] 56) = w42 at *
 generalize w41.heap.size = a4x1 at *
 refine (crow_any _ _ _ _).mono ?_
 rintro e wq ⟨rfl, rfl⟩
 have T0 := T0.below (box_below w42 (.cells #[.slice (some ⟨a4x0, 0, none⟩) 2 2, .slice (some ⟨a4x1, 0, none⟩) 2 2] 57))
 have T1 := T1.below (box_below w42 (.cells #[.slice (some ⟨a4x0, 0, none⟩) 2 2, .slice (some ⟨a4x1, 0, none⟩) 2 2] 57))
 have T2 := T2.below (box_below w42 (.cells #[.slice (some ⟨a4x0, 0, none⟩) 2 2, .slice (some ⟨a4x1, 0, none⟩) 2 2] 57))
 have T3 := T3.below (box_below w42 (.cells #[.slice (some ⟨a4x0, 0, none⟩) 2 2, .slice (some ⟨a4x1, 0, none⟩) 2 2] 57))
 have O4x0 := O4x0.below (box_below w42 (.cells #[.slice (some ⟨a4x0, 0, none⟩) 2 2, .slice (some ⟨a4x1, 0, none⟩) 2 2] 57))
 have O4x1 := O4x1.below (box_below w42 (.cells #[.slice (some ⟨a4x0, 0, none⟩) 2 2, .slice (some ⟨a4x1, 0, none⟩) 2 2] 57))
 have hb := below_then hb (box_below w42 (.cells #[.slice (some ⟨a4x0, 0, none⟩) 2 2, .slice (some ⟨a4x1, 0, none⟩) 2 2] 57))
 have KR4 : KRows (w42.alloc (.cells #[.slice (some ⟨a4x0, 0, none⟩) 2 2, .slice (some ⟨a4x1, 0, none⟩) 2 2] 57)) (.slice (some ⟨w42.heap.size, 0, none⟩) 2 2) [((.slice (some ⟨a4x0, 0, none⟩) 2 2), [⟨false, 1, 0⟩, ⟨true, 0, 1⟩]), ((.slice (some ⟨a4x1, 0, none⟩) 2 2), [⟨false, 0, 0⟩, ⟨true, 1, 2⟩])] := ⟨Row.of_owns (World.ownsRow_lit (base := 0) (e := 57) (size := 1) w42 #[.slice (some ⟨a4x0, 0, none⟩) 2 2, .slice (some ⟨a4x1, 0, none⟩) 2 2] 2 (Nat.zero_le _) (by decide) rfl), krows_all (⟨O4x0.ops, ⟨O4x1.ops, trivial⟩⟩)⟩
 go_wp2_with fail
 generalize w42.alloc (.cells #[.slice (some ⟨a4x0, 0, none⟩) 2 2, .slice (some ⟨a4x1, 0, none⟩) 2 2] 57) = w43 at *
 generalize w42.heap.size = k4 at *
 refine (conce_any _ _ _ KR4 (by simp)).mono ?_
 rintro e w44 ⟨v4, rfl, hW, hT, hx44⟩
 obtain ⟨o4, n4, c4, rfl⟩ := txns_slice hT
 have e4 : onceL [((.slice (some ⟨a4x0, 0, none⟩) 2 2), [⟨false, 1, 0⟩, ⟨true, 0, 1⟩]), ((.slice (some ⟨a4x1, 0, none⟩) 2 2), [⟨false, 0, 0⟩, ⟨true, 1, 2⟩])] ([((.slice (some ⟨a4x0, 0, none⟩) 2 2), [⟨false, 1, 0⟩, ⟨true, 0, 1⟩]), ((.slice (some ⟨a4x1, 0, none⟩) 2 2), [⟨false, 0, 0⟩, ⟨true, 1, 2⟩])] : List KOp).length = catN 4 (fun (j : Nat) => ([.slice (some ⟨a4x0, 0, none⟩) 2 2, .slice (some ⟨a4x1, 0, none⟩) 2 2] : List Value).getD j undef) := by kernel_rfl
 have hI : CatH w44 w.heap.size (.slice o4 n4 c4) (onceL [((.slice (some ⟨a4x0, 0, none⟩) 2 2), [⟨false, 1, 0⟩, ⟨true, 0, 1⟩]), ((.slice (some ⟨a4x1, 0, none⟩) 2 2), [⟨false, 0, 0⟩, ⟨true, 1, 2⟩])] ([((.slice (some ⟨a4x0, 0, none⟩) 2 2), [⟨false, 1, 0⟩, ⟨true, 0, 1⟩]), ((.slice (some ⟨a4x1, 0, none⟩) 2 2), [⟨false, 0, 0⟩, ⟨true, 1, 2⟩])] : List KOp).length) := ⟨own_base' hW hb.size, conce_own (all_own (⟨O4x0.below hx44, ⟨O4x1.below hx44, trivial⟩⟩))⟩
 rw [e4] at hI
 generalize (fun (j : Nat) => ([.slice (some ⟨a4x0, 0, none⟩) 2 2, .slice (some ⟨a4x1, 0, none⟩) 2 2] : List Value).getD j undef) = u4 at hI
 have T0 := T0.below hx44
 have T1 := T1.below hx44
 have T2 := T2.below hx44
 have T3 := T3.below hx44
 have hb := below_then hb hx44
 have T4 := hI
 clear hI hT hW hx44 KR4 e4 O4x0 O4x1
 go_wp2_with fail
 refine (write_op 0 1 w44).mono ?_
 rintro e w45 ⟨rfl, hx45⟩
 have T0 := T0.below hx45
 have T1 := T1.below hx45
 have T2 := T2.below hx45
 have T3 := T3.below hx45
 have T4 := T4.below hx45
 have hb := below_then hb hx45
 clear hx45
 have O5x0 : Own (w45.alloc (.cells #[.bool true, .int .i64 0, .int .i64 1] 56)) w.heap.size (.slice (some ⟨w45.heap.size, 0, none⟩) 1 1) [⟨true, 0, 1⟩] := World.ownsRow_lit (base := w.heap.size) (e := 56) (size := 3) w45 #[.bool true, .int .i64 0, .int .i64 1] 1 hb.size (by decide) rfl
 have T0 := T0.below (box_below w45 (.cells #[.bool true, .int .i64 0, .int .i64 1] 56))
 have T1 := T1.below (box_below w45 (.cells #[.bool true, .int .i64 0, .int .i64 1] 56))
 have T2 := T2.below (box_below w45 (.cells #[.bool true, .int .i64 0, .int .i64 1] 56))
 have T3 := T3.below (box_below w45 (.cells #[.bool true, .int .i64 0, .int .i64 1] 56))
 have T4 := T4.below (box_below w45 (.cells #[.bool true, .int .i64 0, .int .i64 1] 56))
 have hb := below_then hb (box_below w45 (.cells #[.bool true, .int .i64 0, .int .i64 1] 56))
 go_wp2_with fail
 generalize w45.alloc (.cells #[.bool true, .int .i64 0, .int .i64 1] 56) = w46 at *
 generalize w45.heap.size = a5x0 at *
 refine (crow_any _ _ _ _).mono ?_
 rintro e wq ⟨rfl, rfl⟩
 go_wp2_with fail
 refine (read_any 0 0 w46).mono ?_
 rintro e w47 ⟨rfl, hx47⟩
 have T0 := T0.below hx47
 have T1 := T1.below hx47
 have T2 := T2.below hx47
 have T3 := T3.below hx47
 have T4 := T4.below hx47
 have O5x0 := O5x0.below hx47
 have hb := below_then hb hx47
 clear hx47
 have O5x1 : Own (w47.alloc (.cells #[.bool false, .int .i64 0, .int .i64 0] 56)) w.heap.size (.slice (some ⟨w47.heap.size, 0, none⟩) 1 1) [⟨false, 0, 0⟩] := World.ownsRow_lit (base := w.heap.size) (e := 56) (size := 3) w47 #[.bool false, .int .i64 0, .int .i64 0] 1 hb.size (by decide) rfl
 have T0 := T0.below (box_below w47 (.cells #[.bool false, .int .i64 0, .int .i64 0] 56))
 have T1 := T1.below (box_below w47 (.cells #[.bool false, .int .i64 0, .int .i64 0] 56))
 have T2 := T2.below (box_below w47 (.cells #[.bool false, .int .i64 0, .int .i64 0] 56))
 have T3 := T3.below (box_below w47 (.cells #[.bool false, .int .i64 0, .int .i64 0] 56))
 have T4 := T4.below (box_below w47 (.cells #[.bool false, .int .i64 0, .int .i64 0] 56))
 have O5x0 := O5x0.below (box_below w47 (.cells #[.bool false, .int .i64 0, .int .i64 0] 56))
 have hb := below_then hb (box_below w47 (.cells #[.bool false, .int .i64 0, .int .i64 0] 56))
 go_wp2_with fail
 generalize w47.alloc (.cells #[.bool false, .int .i64 0, .int .i64 0] 56) = w48 at *
 generalize w47.heap.size = a5x1 at *
 refine (crow_any _ _ _ _).mono ?_
 rintro e wq ⟨rfl, rfl⟩
 have T0 := T0.below (box_below w48 (.cells #[.slice (some ⟨a5x0, 0, none⟩) 1 1, .slice (some ⟨a5x1, 0, none⟩) 1 1] 57))
 have T1 := T1.below (box_below w48 (.cells #[.slice (some ⟨a5x0, 0, none⟩) 1 1, .slice (some ⟨a5x1, 0, none⟩) 1 1] 57))
 have T2 := T2.below (box_below w48 (.cells #[.slice (some ⟨a5x0, 0, none⟩) 1 1, .slice (some ⟨a5x1, 0, none⟩) 1 1] 57))
 have T3 := T3.below (box_below w48 (.cells #[.slice (some ⟨a5x0, 0, none⟩) 1 1, .slice (some ⟨a5x1, 0, none⟩) 1 1] 57))
 have T4 := T4.below (box_below w48 (.cells #[.slice (some ⟨a5x0, 0, none⟩) 1 1, .slice (some ⟨a5x1, 0, none⟩) 1 1] 57))
 have O5x0 := O5x0.below (box_below w48 (.cells #[.slice (some ⟨a5x0, 0, none⟩) 1 1, .slice (some ⟨a5x1, 0, none⟩) 1 1] 57))
 have O5x1 := O5x1.below (box_below w48 (.cells #[.slice (some ⟨a5x0, 0, none⟩) 1 1, .slice (some ⟨a5x1, 0, none⟩) 1 1] 57))
 have hb := below_then hb (box_below w48 (.cells #[.slice (some ⟨a5x0, 0, none⟩) 1 1, .slice (some ⟨a5x1, 0, none⟩) 1 1] 57))
 have KR5 : KRows (w48.alloc (.cells #[.slice (some ⟨a5x0, 0, none⟩) 1 1, .slice (some ⟨a5x1, 0, none⟩) 1 1] 57)) (.slice (some ⟨w48.heap.size, 0, none⟩) 2 2) [((.slice (some ⟨a5x0, 0, none⟩) 1 1), [⟨true, 0, 1⟩]), ((.slice (some ⟨a5x1, 0, none⟩) 1 1), [⟨false, 0, 0⟩])] := ⟨Row.of_owns (World.ownsRow_lit (base := 0) (e := 57) (size := 1) w48 #[.slice (some ⟨a5x0, 0, none⟩) 1 1, .slice (some ⟨a5x1, 0, none⟩) 1 1] 2 (Nat.zero_le _) (by decide) rfl), krows_all (⟨O5x0.ops, ⟨O5x1.ops, trivial⟩⟩)⟩
 go_wp2_with fail
 generalize w48.alloc (.cells #[.slice (some ⟨a5x0, 0, none⟩) 1 1, .slice (some ⟨a5x1, 0, none⟩) 1 1] 57) = w49 at *
 generalize w48.heap.size = k5 at *
 refine (cturn2_any _ _ _ KR5 (by simp)).mono ?_
 rintro e w50 ⟨v5, rfl, hW, hT, hx50⟩
 obtain ⟨o5, n5, c5, rfl⟩ := txns_slice hT
 have e5 : turn2 [((.slice (some ⟨a5x0, 0, none⟩) 1 1), [⟨true, 0, 1⟩]), ((.slice (some ⟨a5x1, 0, none⟩) 1 1), [⟨false, 0, 0⟩])] ([((.slice (some ⟨a5x0, 0, none⟩) 1 1), [⟨true, 0, 1⟩]), ((.slice (some ⟨a5x1, 0, none⟩) 1 1), [⟨false, 0, 0⟩])] : List KOp).length = catN 5 (fun (j : Nat) => ([.slice (some ⟨a5x0, 0, none⟩) 1 1, .slice (some ⟨a5x1, 0, none⟩) 1 1] : List Value).getD j undef) := by kernel_rfl
 have hI : CatH w50 w.heap.size (.slice o5 n5 c5) (turn2 [((.slice (some ⟨a5x0, 0, none⟩) 1 1), [⟨true, 0, 1⟩]), ((.slice (some ⟨a5x1, 0, none⟩) 1 1), [⟨false, 0, 0⟩])] ([((.slice (some ⟨a5x0, 0, none⟩) 1 1), [⟨true, 0, 1⟩]), ((.slice (some ⟨a5x1, 0, none⟩) 1 1), [⟨false, 0, 0⟩])] : List KOp).length) := ⟨own_base' hW hb.size, cturn2_own (all_own (⟨O5x0.below hx50, ⟨O5x1.below hx50, trivial⟩⟩))⟩
 rw [e5] at hI
 generalize (fun (j : Nat) => ([.slice (some ⟨a5x0, 0, none⟩) 1 1, .slice (some ⟨a5x1, 0, none⟩) 1 1] : List Value).getD j undef) = u5 at hI
 have T0 := T0.below hx50
 have T1 := T1.below hx50
 have T2 := T2.below hx50
 have T3 := T3.below hx50
 have T4 := T4.below hx50
 have hb := below_then hb hx50
 have T5 := hI
 clear hI hT hW hx50 KR5 e5 O5x0 O5x1
 have T0 := T0.below (box_below w50 (.cells #[.string ⟨#[111, 119, 110, 32, 119, 114, 105, 116, 101, 32, 117, 110, 115, 101, 101, 110]⟩, .slice o0 n0 c0, .int .i64 1, .string ⟨#[99, 97, 117, 115, 101, 32, 117, 110, 115, 101, 101, 110]⟩, .slice o1 n1 c1, .int .i64 2, .string ⟨#[108, 111, 110, 103, 32, 102, 111, 114, 107]⟩, .slice o2 n2 c2, .int .i64 4, .string ⟨#[108, 111, 115, 116, 32, 117, 112, 100, 97, 116, 101]⟩, .slice o3 n3 c3, .int .i64 8, .string ⟨#[119, 114, 105, 116, 101, 32, 115, 107, 101, 119]⟩, .slice o4 n4 c4, .int .i64 16, .string ⟨#[115, 116, 97, 108, 101, 32, 114, 101, 97, 100]⟩, .slice o5 n5 c5, .int .i64 32] 50))
 have T1 := T1.below (box_below w50 (.cells #[.string ⟨#[111, 119, 110, 32, 119, 114, 105, 116, 101, 32, 117, 110, 115, 101, 101, 110]⟩, .slice o0 n0 c0, .int .i64 1, .string ⟨#[99, 97, 117, 115, 101, 32, 117, 110, 115, 101, 101, 110]⟩, .slice o1 n1 c1, .int .i64 2, .string ⟨#[108, 111, 110, 103, 32, 102, 111, 114, 107]⟩, .slice o2 n2 c2, .int .i64 4, .string ⟨#[108, 111, 115, 116, 32, 117, 112, 100, 97, 116, 101]⟩, .slice o3 n3 c3, .int .i64 8, .string ⟨#[119, 114, 105, 116, 101, 32, 115, 107, 101, 119]⟩, .slice o4 n4 c4, .int .i64 16, .string ⟨#[115, 116, 97, 108, 101, 32, 114, 101, 97, 100]⟩, .slice o5 n5 c5, .int .i64 32] 50))
 have T2 := T2.below (box_below w50 (.cells #[.string ⟨#[111, 119, 110, 32, 119, 114, 105, 116, 101, 32, 117, 110, 115, 101, 101, 110]⟩, .slice o0 n0 c0, .int .i64 1, .string ⟨#[99, 97, 117, 115, 101, 32, 117, 110, 115, 101, 101, 110]⟩, .slice o1 n1 c1, .int .i64 2, .string ⟨#[108, 111, 110, 103, 32, 102, 111, 114, 107]⟩, .slice o2 n2 c2, .int .i64 4, .string ⟨#[108, 111, 115, 116, 32, 117, 112, 100, 97, 116, 101]⟩, .slice o3 n3 c3, .int .i64 8, .string ⟨#[119, 114, 105, 116, 101, 32, 115, 107, 101, 119]⟩, .slice o4 n4 c4, .int .i64 16, .string ⟨#[115, 116, 97, 108, 101, 32, 114, 101, 97, 100]⟩, .slice o5 n5 c5, .int .i64 32] 50))
 have T3 := T3.below (box_below w50 (.cells #[.string ⟨#[111, 119, 110, 32, 119, 114, 105, 116, 101, 32, 117, 110, 115, 101, 101, 110]⟩, .slice o0 n0 c0, .int .i64 1, .string ⟨#[99, 97, 117, 115, 101, 32, 117, 110, 115, 101, 101, 110]⟩, .slice o1 n1 c1, .int .i64 2, .string ⟨#[108, 111, 110, 103, 32, 102, 111, 114, 107]⟩, .slice o2 n2 c2, .int .i64 4, .string ⟨#[108, 111, 115, 116, 32, 117, 112, 100, 97, 116, 101]⟩, .slice o3 n3 c3, .int .i64 8, .string ⟨#[119, 114, 105, 116, 101, 32, 115, 107, 101, 119]⟩, .slice o4 n4 c4, .int .i64 16, .string ⟨#[115, 116, 97, 108, 101, 32, 114, 101, 97, 100]⟩, .slice o5 n5 c5, .int .i64 32] 50))
 have T4 := T4.below (box_below w50 (.cells #[.string ⟨#[111, 119, 110, 32, 119, 114, 105, 116, 101, 32, 117, 110, 115, 101, 101, 110]⟩, .slice o0 n0 c0, .int .i64 1, .string ⟨#[99, 97, 117, 115, 101, 32, 117, 110, 115, 101, 101, 110]⟩, .slice o1 n1 c1, .int .i64 2, .string ⟨#[108, 111, 110, 103, 32, 102, 111, 114, 107]⟩, .slice o2 n2 c2, .int .i64 4, .string ⟨#[108, 111, 115, 116, 32, 117, 112, 100, 97, 116, 101]⟩, .slice o3 n3 c3, .int .i64 8, .string ⟨#[119, 114, 105, 116, 101, 32, 115, 107, 101, 119]⟩, .slice o4 n4 c4, .int .i64 16, .string ⟨#[115, 116, 97, 108, 101, 32, 114, 101, 97, 100]⟩, .slice o5 n5 c5, .int .i64 32] 50))
 have T5 := T5.below (box_below w50 (.cells #[.string ⟨#[111, 119, 110, 32, 119, 114, 105, 116, 101, 32, 117, 110, 115, 101, 101, 110]⟩, .slice o0 n0 c0, .int .i64 1, .string ⟨#[99, 97, 117, 115, 101, 32, 117, 110, 115, 101, 101, 110]⟩, .slice o1 n1 c1, .int .i64 2, .string ⟨#[108, 111, 110, 103, 32, 102, 111, 114, 107]⟩, .slice o2 n2 c2, .int .i64 4, .string ⟨#[108, 111, 115, 116, 32, 117, 112, 100, 97, 116, 101]⟩, .slice o3 n3 c3, .int .i64 8, .string ⟨#[119, 114, 105, 116, 101, 32, 115, 107, 101, 119]⟩, .slice o4 n4 c4, .int .i64 16, .string ⟨#[115, 116, 97, 108, 101, 32, 114, 101, 97, 100]⟩, .slice o5 n5 c5, .int .i64 32] 50))
 have hb := below_then hb (box_below w50 (.cells #[.string ⟨#[111, 119, 110, 32, 119, 114, 105, 116, 101, 32, 117, 110, 115, 101, 101, 110]⟩, .slice o0 n0 c0, .int .i64 1, .string ⟨#[99, 97, 117, 115, 101, 32, 117, 110, 115, 101, 101, 110]⟩, .slice o1 n1 c1, .int .i64 2, .string ⟨#[108, 111, 110, 103, 32, 102, 111, 114, 107]⟩, .slice o2 n2 c2, .int .i64 4, .string ⟨#[108, 111, 115, 116, 32, 117, 112, 100, 97, 116, 101]⟩, .slice o3 n3 c3, .int .i64 8, .string ⟨#[119, 114, 105, 116, 101, 32, 115, 107, 101, 119]⟩, .slice o4 n4 c4, .int .i64 16, .string ⟨#[115, 116, 97, 108, 101, 32, 114, 101, 97, 100]⟩, .slice o5 n5 c5, .int .i64 32] 50))
 have hn := heap_alloc_new w50 (.cells #[.string ⟨#[111, 119, 110, 32, 119, 114, 105, 116, 101, 32, 117, 110, 115, 101, 101, 110]⟩, .slice o0 n0 c0, .int .i64 1, .string ⟨#[99, 97, 117, 115, 101, 32, 117, 110, 115, 101, 101, 110]⟩, .slice o1 n1 c1, .int .i64 2, .string ⟨#[108, 111, 110, 103, 32, 102, 111, 114, 107]⟩, .slice o2 n2 c2, .int .i64 4, .string ⟨#[108, 111, 115, 116, 32, 117, 112, 100, 97, 116, 101]⟩, .slice o3 n3 c3, .int .i64 8, .string ⟨#[119, 114, 105, 116, 101, 32, 115, 107, 101, 119]⟩, .slice o4 n4 c4, .int .i64 16, .string ⟨#[115, 116, 97, 108, 101, 32, 114, 101, 97, 100]⟩, .slice o5 n5 c5, .int .i64 32] 50)
 have HF := hid (cat_made w50 50 (fun i => if i = 0 then .slice o0 n0 c0 else if i = 1 then .slice o1 n1 c1 else if i = 2 then .slice o2 n2 c2 else if i = 3 then .slice o3 n3 c3 else if i = 4 then .slice o4 n4 c4 else .slice o5 n5 c5))
 have HTT := hid (And.intro T0 (And.intro T1 (And.intro T2 (And.intro T3 (And.intro T4 T5)))))
 clear T0 T1 T2 T3 T4 T5 hn
 go_wp2_with fail
 go_ret
 refine ⟨⟨_, (fun i => if i = 0 then .slice o0 n0 c0 else if i = 1 then .slice o1 n1 c1 else if i = 2 then .slice o2 n2 c2 else if i = 3 then .slice o3 n3 c3 else if i = 4 then .slice o4 n4 c4 else .slice o5 n5 c5), (fun i => if i = 0 then u0 else if i = 1 then u1 else if i = 2 then u2 else if i = 3 then u3 else if i = 4 then u4 else u5), rfl, HF.out, fun i hi => ?_⟩, hb⟩
 obtain ⟨T0, T1, T2, T3, T4, T5⟩ := HTT.out
 rcases (by omega : i = 0 ∨ i = 1 ∨ i = 2 ∨ i = 3 ∨ i = 4 ∨ i = 5) with rfl | rfl | rfl | rfl | rfl | rfl
 ·exact T0
 ·exact T1
 ·exact T2
 ·exact T3
 ·exact T4
 ·exact T5
end

section
open Go.RowKit
def catF (a b : Int) : Option Nat := if (isLv a && isLv b) = true then (List.range 6).find? (fun i => (missN a b).testBit i) else none
theorem missN_lt (a b : Int) : missN a b < 64 := by
 unfold missN
 exact Nat.xor_lt_two_pow (n := 6) (askN_lt b) (Nat.lt_of_le_of_lt Nat.and_le_left (askN_lt b))
theorem range_find {p : Nat → Bool} {n k : Nat} (hk : k < n) (hn : ∀ j, j < k → p j = false) (hp : p k = true) : (List.range n).find? p = some k := by
 obtain ⟨d, rfl⟩ : ∃ d, n = k + (d + 1) := ⟨n - k - 1, by omega⟩
 rw [List.range_add, List.find?_append, List.find?_eq_none.2 (fun j hj => by rw [hn j (List.mem_range.1 hj)]; simp), Option.none_or]
 rw [List.range_succ_eq_map, List.map_cons, List.find?_cons]
 simp [hp]
theorem range_none {p : Nat → Bool} {n : Nat} (hn : ∀ j, j < n → p j = false) : (List.range n).find? p = none := List.find?_eq_none.2 (fun j hj => by rw [hn j (List.mem_range.1 hj)]; simp)
theorem catF_off {a b : Int} (h : (isLv a && isLv b) = false) : catF a b = none := by unfold catF; rw [if_neg (by rw [h]; simp)]
structure EntAt (w : World) (g : Nat) (s : ByteArray) (v : Value) (m : Int) : Prop where
 c0 : w.cell? ⟨g, 0, none⟩ = some (.string s)
 c1 : w.cell? ⟨g, 1, none⟩ = some v
 c2 : w.cell? ⟨g, 2, none⟩ = some (.int .i64 m)
 f0 : w.frozen? ⟨g, 0, none⟩ = false
 f1 : w.frozen? ⟨g, 1, none⟩ = false
 f2 : w.frozen? ⟨g, 2, none⟩ = false
theorem EntAt.made (w : World) (s : ByteArray) (v : Value) (m : Int) (t : TypeId) : EntAt (w.alloc (.cells #[.string s, v, .int .i64 m] t)) w.heap.size s v m := by
 have hn := heap_alloc_new w (.cells #[.string s, v, .int .i64 m] t)
 refine ⟨?_, ?_, ?_, frozen_of_row _ _ _ _ _ hn, frozen_of_row _ _ _ _ _ hn, frozen_of_row _ _ _ _ _ hn⟩ <;> (rw [cell_of_row _ _ _ _ _ _ hn]; rfl)
section
variable {w w' : World} {g : Nat} {s : ByteArray} {v : Value} {m : Int}
theorem EntAt.lt (h : EntAt w g s v m) : g < w.heap.size := block_lt h.c0
theorem EntAt.below {B : Nat} (h : EntAt w g s v m) (hb : Below B w w') (hB : g < B) : EntAt w' g s v m :=
 ⟨(hb.cell (p := ⟨g, 0, none⟩) hB).trans h.c0, (hb.cell (p := ⟨g, 1, none⟩) hB).trans h.c1, (hb.cell (p := ⟨g, 2, none⟩) hB).trans h.c2, (hb.frozen (p := ⟨g, 0, none⟩) hB).trans h.f0, (hb.frozen (p := ⟨g, 1, none⟩) hB).trans h.f1, (hb.frozen (p := ⟨g, 2, none⟩) hB).trans h.f2⟩
theorem EntAt.set (h : EntAt w g s v m) (s' : ByteArray) (v' : Value) (m' : Int) : EntAt (((w.setCell ⟨g, 0, none⟩ (.string s')).setCell ⟨g, 1, none⟩ v').setCell ⟨g, 2, none⟩ (.int .i64 m')) g s' v' m' := by
 refine ⟨?_, ?_, ?_, ?_, ?_, ?_⟩
 ·rw [World.cell?_setCell_other _ _ _ _ (by simp), World.cell?_setCell_other _ _ _ _ (by simp), World.cell?_setCell_same _ _ _ h.c0]
 ·rw [World.cell?_setCell_other _ _ _ _ (by simp)]
  exact World.cell?_setCell_same _ _ _ (by rw [World.cell?_setCell_other _ _ _ _ (by simp)]; exact h.c1)
 ·exact World.cell?_setCell_same _ _ _ (by rw [World.cell?_setCell_other _ _ _ _ (by simp), World.cell?_setCell_other _ _ _ _ (by simp)]; exact h.c2)
 all_goals (rw [World.frozen?_setCell, World.frozen?_setCell, World.frozen?_setCell])
 ·exact h.f0
 ·exact h.f1
 ·exact h.f2
end
def CatRes (a b : Int) (b0 : Nat) (e : Ending) (w' : World) : Prop := match catF a b with
 | none => e = .returned (.tuple #[.agg #[.string ByteArray.empty, .slice none 0 0, .int .i64 0], .bool false])
 | some i => ∃ v u, e = .returned (.tuple #[.agg #[.string (catS i), v, .int .i64 ((2 ^ i : Nat) : Int)], .bool true]) ∧ CatH w' b0 v (catN i u)
theorem cat_bit (i : Nat) (hi : i < 6) (a b : Int) : ((bits .and .i64 ((2 ^ i : Nat) : Int) ((missN a b : Nat) : Int)) != 0) = (missN a b).testBit i := by
 have hm := missN_lt a b
 have hp : 2 ^ i < 9223372036854775808 := Nat.lt_of_lt_of_le (Nat.pow_lt_pow_right (a := 2) (by omega) hi) (by decide)
 have e : bits .and .i64 ((2 ^ i : Nat) : Int) ((missN a b : Nat) : Int) = ((2 ^ i &&& missN a b : Nat) : Int) := i64_and_nat _ _ hp (by omega)
 rw [e, Nat.and_comm]
 have := nat_bit (missN a b) i
 cases h : (missN a b).testBit i with
 | false => rw [this.2 h]; rfl
 | true =>
  rw [bne_iff_ne]
  intro q
  have q2 : missN a b &&& 2 ^ i = 0 := by omega
  rw [this.1 q2] at h
  cases h
theorem cfind_any (a b : Int) (w : World) (hK : Kinds w) : Calls Tryz.prog 48 #[.int .i64 a, .int .i64 b] w fun e w' => CatRes a b w.heap.size e w' ∧ Below w.heap.size w w' := by
 have hbx := box_below w (.cells #[.string ByteArray.empty, .slice none 0 0, .int .i64 0] 50)
 have hs1 : (w.alloc (.cells #[.string ByteArray.empty, .slice none 0 0, .int .i64 0] 50)).heap.size = w.heap.size + 1 := by simp
 have E0 := EntAt.made w ByteArray.empty (.slice none 0 0) 0 50
 have CA := hid (fun wx => lis_any a wx)
 have CB := hid (fun wx => lis_any b wx)
 have CM := hid (lmiss_any a b _ (hK.below hbx))
 have CL := hid (fun wx => call_any wx)
 have HBX := hid hbx
 have HE0 := hid E0
 have hz : (({ data := #[] } : ByteArray)) = ByteArray.empty := rfl
 clear hK hbx E0
 go_enter Tryz.func48, Tryz.ntmps48
 go_upto_region 1 with fail
 clear hz
 generalize w.alloc (.cells #[.string ByteArray.empty, .slice none 0 0, .int .i64 0] 50) = w1 at *
 have HE := HE0.out
 have hb1 := HBX.out
 cases ha : isLv a with
 | false =>
  have HCF : Hid (catF a b = none) := hid (catF_off (by rw [ha]; rfl))
  rw [ha] at CA
  clear CB CM CL ha HE0 HBX
  go_wp2_with fail
  refine (CA.out _).mono ?_
  rintro e wq ⟨rfl, rfl⟩
  clear CA
  have HE9 := hid (HE.set ⟨#[]⟩ (.slice none 0 0) 0)
  have HB9 := hid (((hb1.setCell (p := ⟨w.heap.size, 0, none⟩) (Nat.le_refl _) (.string ⟨#[]⟩)).setCell (p := ⟨w.heap.size, 1, none⟩) (Nat.le_refl _) (.slice none 0 0)).setCell (p := ⟨w.heap.size, 2, none⟩) (Nat.le_refl _) (.int .i64 0))
  have HF : Hid (CatRes a b w.heap.size (.returned (.tuple #[.agg #[.string ⟨#[]⟩, .slice none 0 0, .int .i64 0], .bool false])) ((((w1).setCell ⟨w.heap.size, 0, none⟩ (.string ⟨#[]⟩)).setCell ⟨w.heap.size, 1, none⟩ (.slice none 0 0)).setCell ⟨w.heap.size, 2, none⟩ (.int .i64 0))) := hid (by unfold CatRes; rw [HCF.out]; rfl)
  obtain ⟨k0, k1, k2, k3, k4, k5⟩ := HE
  go_wp2_with fail
  obtain ⟨d0, d1, d2, _, _, _⟩ := HE9.out
  refine bodyPost_ret (v := .tuple #[.agg #[.string ⟨#[]⟩, .slice none 0 0, .int .i64 0], .bool false]) ?_ rfl ⟨HF.out, HB9.out⟩
  simp [results, Tryz.results48, go_sem, d0, d1, d2]
 | true =>
  rw [ha] at CA
  cases hb : isLv b with
  | false =>
   have HCF : Hid (catF a b = none) := hid (catF_off (by rw [ha, hb]; rfl))
   rw [hb] at CB
   clear CM CL ha hb HE0 HBX
   go_wp2_with fail
   refine (CA.out _).mono ?_
   rintro e wq ⟨rfl, rfl⟩
   go_wp2_with fail
   refine (CB.out _).mono ?_
   rintro e wq ⟨rfl, rfl⟩
   clear CA CB
   have HE9 := hid (HE.set ⟨#[]⟩ (.slice none 0 0) 0)
   have HB9 := hid (((hb1.setCell (p := ⟨w.heap.size, 0, none⟩) (Nat.le_refl _) (.string ⟨#[]⟩)).setCell (p := ⟨w.heap.size, 1, none⟩) (Nat.le_refl _) (.slice none 0 0)).setCell (p := ⟨w.heap.size, 2, none⟩) (Nat.le_refl _) (.int .i64 0))
   have HF : Hid (CatRes a b w.heap.size (.returned (.tuple #[.agg #[.string ⟨#[]⟩, .slice none 0 0, .int .i64 0], .bool false])) ((((w1).setCell ⟨w.heap.size, 0, none⟩ (.string ⟨#[]⟩)).setCell ⟨w.heap.size, 1, none⟩ (.slice none 0 0)).setCell ⟨w.heap.size, 2, none⟩ (.int .i64 0))) := hid (by unfold CatRes; rw [HCF.out]; rfl)
   obtain ⟨k0, k1, k2, k3, k4, k5⟩ := HE
   go_wp2_with fail
   obtain ⟨d0, d1, d2, _, _, _⟩ := HE9.out
   refine bodyPost_ret (v := .tuple #[.agg #[.string ⟨#[]⟩, .slice none 0 0, .int .i64 0], .bool false]) ?_ rfl ⟨HF.out, HB9.out⟩
   simp [results, Tryz.results48, go_sem, d0, d1, d2]
  | true =>
   have HCN : Hid (∀ i, i < 6 → (∀ j, j < i → (missN a b).testBit j = false) → (missN a b).testBit i = true → catF a b = some i) := hid (fun i hi h1 h2 => by unfold catF; rw [if_pos (by rw [ha, hb]; rfl)]; exact range_find hi h1 h2)
   have HCO : Hid ((∀ j, j < 6 → (missN a b).testBit j = false) → catF a b = none) := hid (fun h1 => by unfold catF; rw [if_pos (by rw [ha, hb]; rfl)]; exact range_none h1)
   rw [hb] at CB
   have HBIT := hid (fun i hi => cat_bit i hi a b)
   have HML := hid (missN_lt a b)
   clear ha hb HE0 HBX
   go_wp2_with fail
   refine (CA.out _).mono ?_
   rintro e wq ⟨rfl, rfl⟩
   go_wp2_with fail
   refine (CB.out _).mono ?_
   rintro e wq ⟨rfl, rfl⟩
   clear CA CB
   go_wp2_with fail
   refine CM.out.mono ?_
   rintro e wq ⟨rfl, rfl⟩
   clear CM
   go_wp2_with fail
   refine (CL.out _).mono ?_
   rintro e w2 ⟨⟨g, vs, us, rfl, hC, hT⟩, h2⟩
   have hg1 := HE.lt
   have HE := HE.below h2 HE.lt
   have hb2 := below_then hb1 h2
   have HCT := hid (fun wx (hx : Below w2.heap.size w2 wx) => hC.below hx)
   have HTT := hid (fun i hi wx (hx : Below w2.heap.size w2 wx) => (hT i hi).below hx)
   have HVF := hid (fun i (hi : i < 6) => txns_slice (hT i hi).txns)
   have HS2 := hid (show w.heap.size < w2.heap.size by have := h2.size; omega)
   clear CL hC hT h2 hb1 hg1
   go_wp2_with fail
   generalize hmm : missN a b = mm at *
   go_loopw [23] (fun i wr => ∃ k : Nat, k ≤ 6 ∧ i = .int .i64 (k : Int) ∧ Hid (∀ j, j < k → mm.testBit j = false) ∧ EntAt wr w.heap.size ByteArray.empty (.slice none 0 0) 0 ∧ Below w2.heap.size w2 wr) (fun i _ => 6 - (intOf i).toNat)
   case atStart => exact ⟨0, by omega, rfl, hid (fun j hj => by omega), HE, Below.refl _ _⟩
   case round =>
    obtain ⟨k, hk, rfl, HN, HE, hbr⟩ := hrel
    by_cases hlt : k < 6
    ·have hki : (k : Int) < 6 := by omega
     obtain ⟨c0, c1, c2⟩ := HCT.out wr hbr k hlt
     obtain ⟨oo, nn, cc, hv⟩ := HVF.out k hlt
     rw [hv] at c1
     have hbt := HBIT.out k hlt
     have hd0 : decide ((k : Int) < 0) = false := decide_eq_false (by omega)
     have hd1 : decide ((6 : Int) ≤ (k : Int)) = false := decide_eq_false (by omega)
     have hd2 : decide (6 ≤ k) = false := decide_eq_false (by omega)
     have hx := box_below wr (.cells #[.string (catS k), .slice oo nn cc, .int .i64 ((2 ^ k : Nat) : Int)] 50)
     have hE := EntAt.made wr (catS k) (.slice oo nn cc) ((2 ^ k : Nat) : Int) 50
     have HER := HE.below hx HE.lt
     have hbx := below_then hbr hx
     have HTK := hid (fun wx (hxx : Below w2.heap.size w2 wx) => by have h := HTT.out k hlt wx hxx; rw [hv] at h; exact h)
     generalize h2k : (((2 ^ k : Nat)) : Int) = tk at *
     have H2K := hid h2k
     clear HE hx hv h2k
     have hlw := hE.lt
     have hneq : w.heap.size < wr.heap.size := by have := HS2.out; have := hbr.size; omega
     go_upto_region 7 with fail
     generalize wr.alloc (.cells #[.string (catS k), .slice oo nn cc, .int .i64 tk] 50) = w3 at *
     generalize wr.heap.size = x3 at *
     obtain ⟨m0, m1, m2, _, _, _⟩ := hE
     cases htb : mm.testBit k with
     | false =>
      rw [htb] at hbt
      have HN2 : Hid (∀ j, j < k + 1 → mm.testBit j = false) := hid (fun j hj => by
       by_cases e : j = k
       ·rw [e]; exact htb
       ·exact HN.out j (by omega))
      clear htb HN
      go_wp2_with fail
      go_roundw
      case rel => exact ⟨k + 1, by omega, by go_num, HN2, HER, hbx⟩
      case measure => simp [intOf]; omega
     | true =>
      rw [htb] at hbt
      subst hmm
      have HCF := hid (HCN.out k hlt HN.out htb)
      have HE9 := hid (HER.set (catS k) (.slice oo nn cc) tk)
      have HB9 := hid ((((below_then hb2 hbx).setCell (p := ⟨w.heap.size, 0, none⟩) (Nat.le_refl _) (.string (catS k))).setCell (p := ⟨w.heap.size, 1, none⟩) (Nat.le_refl _) (.slice oo nn cc)).setCell (p := ⟨w.heap.size, 2, none⟩) (Nat.le_refl _) (.int .i64 tk))
      have HT9 := hid ((((HTK.out _ hbx).far (p := ⟨w.heap.size, 0, none⟩) (by show w.heap.size < w1.heap.size; omega) (.string (catS k))).far (p := ⟨w.heap.size, 1, none⟩) (by show w.heap.size < w1.heap.size; omega) (.slice oo nn cc)).far (p := ⟨w.heap.size, 2, none⟩) (by show w.heap.size < w1.heap.size; omega) (.int .i64 tk))
      clear htb HN HCN HCO
      obtain ⟨k0, k1, k2, k3, k4, k5⟩ := HER
      go_wp2_with fail
      obtain ⟨d0, d1, d2, _, _, _⟩ := HE9.out
      refine bodyPost_ret (v := .tuple #[.agg #[.string (catS k), .slice oo nn cc, .int .i64 tk], .bool true]) ?_ rfl ⟨?_, HB9.out⟩
      ·simp [results, Tryz.results48, go_sem, d0, d1, d2]
      ·unfold CatRes
       rw [HCF.out]
       exact ⟨_, _, by rw [← H2K.out], HT9.out.base (by omega)⟩
    ·obtain rfl : k = 6 := by omega
     have hki : ¬ ((6 : Nat) : Int) < 6 := by omega
     subst hmm
     have HCF : Hid (catF a b = none) := hid (HCO.out HN.out)
     have hbz := below_then hb2 hbr
     clear HCN HCO HBIT HN HTT HCT HVF
     have HE9 := hid (HE.set ⟨#[]⟩ (.slice none 0 0) 0)
     have HB9 := hid (((hbz.setCell (p := ⟨w.heap.size, 0, none⟩) (Nat.le_refl _) (.string ⟨#[]⟩)).setCell (p := ⟨w.heap.size, 1, none⟩) (Nat.le_refl _) (.slice none 0 0)).setCell (p := ⟨w.heap.size, 2, none⟩) (Nat.le_refl _) (.int .i64 0))
     have HF : Hid (CatRes a b w.heap.size (.returned (.tuple #[.agg #[.string ⟨#[]⟩, .slice none 0 0, .int .i64 0], .bool false])) ((((wr).setCell ⟨w.heap.size, 0, none⟩ (.string ⟨#[]⟩)).setCell ⟨w.heap.size, 1, none⟩ (.slice none 0 0)).setCell ⟨w.heap.size, 2, none⟩ (.int .i64 0))) := hid (by unfold CatRes; rw [HCF.out]; rfl)
     obtain ⟨k0, k1, k2, k3, k4, k5⟩ := HE
     go_wp2_with fail
     obtain ⟨d0, d1, d2, _, _, _⟩ := HE9.out
     refine bodyPost_ret (v := .tuple #[.agg #[.string ⟨#[]⟩, .slice none 0 0, .int .i64 0], .bool false]) ?_ rfl ⟨HF.out, HB9.out⟩
     simp [results, Tryz.results48, go_sem, d0, d1, d2]
end

section
open Go.RowKit
theorem catRes_some {a b : Int} {b0 i : Nat} {e : Ending} {w : World} (hf : catF a b = some i) (h : CatRes a b b0 e w) : ∃ oo nn cc u, e = .returned (.tuple #[.agg #[.string (catS i), .slice oo nn cc, .int .i64 ((2 ^ i : Nat) : Int)], .bool true]) ∧ CatH w b0 (.slice oo nn cc) (catN i u) := by
 unfold CatRes at h
 rw [hf] at h
 obtain ⟨v, u, h1, h2⟩ := h
 obtain ⟨oo, nn, cc, rfl⟩ := txns_slice h2.txns
 exact ⟨oo, nn, cc, u, h1, h2⟩
theorem catRes_none {a b : Int} {b0 : Nat} {e : Ending} {w : World} (hf : catF a b = none) (h : CatRes a b b0 e w) : e = .returned (.tuple #[.agg #[.string ⟨#[]⟩, .slice none 0 0, .int .i64 0], .bool false]) := by
 unfold CatRes at h
 rw [hf] at h
 exact h
theorem cat_67 : catF 6 7 = some 4 := by decide +kernel
theorem cat_76 : catF 7 6 = none := by decide +kernel
theorem speaks20_any (w : World) (hK : Kinds w) :
  Calls Tryz.prog 18 #[] w fun e w' => e = .returned (.bool true) ∧ Below w.heap.size w w' := by
 have C1 := hid (cfind_any 6 7 w hK)
 have C2 := hid (fun wx (hx : Below w.heap.size w wx) => cfind_any 7 6 wx (hK.below hx))
 have CL := hid (fun wx => call_any wx)
 clear hK
 go_enter Tryz.func18, Tryz.ntmps18
 go_wp2_with fail
 refine C1.out.mono ?_
 rintro e w1 ⟨hres, hb1⟩
 obtain ⟨o1, n1, c1, u1, rfl, _⟩ := catRes_some cat_67 hres
 rw [show ((2 ^ 4 : Nat) : Int) = 16 from rfl, show catS 4 = ⟨#[119, 114, 105, 116, 101, 32, 115, 107, 101, 119]⟩ from rfl]
 have hE1 := EntAt.made w1 ⟨#[119, 114, 105, 116, 101, 32, 115, 107, 101, 119]⟩ (.slice o1 n1 c1) 16 50
 have hx1 := box_below w1 (.cells #[.string ⟨#[119, 114, 105, 116, 101, 32, 115, 107, 101, 119]⟩, .slice o1 n1 c1, .int .i64 16] 50)
 have hb2 := below_then hb1 hx1
 clear C1 hres hb1 hx1
 go_upto_region 2 with fail
 generalize w1.alloc (.cells #[.string ⟨#[119, 114, 105, 116, 101, 32, 115, 107, 101, 119]⟩, .slice o1 n1 c1, .int .i64 16] 50) = w2 at *
 generalize w1.heap.size = g1 at *
 go_wp2_with fail
 refine (C2.out _ hb2).mono ?_
 rintro e w3 ⟨hres, h3⟩
 obtain rfl := catRes_none cat_76 hres
 have hx3 := box_below w3 (.cells #[.string ⟨#[]⟩, .slice none 0 0, .int .i64 0] 50)
 have hE1 := (hE1.below h3 hE1.lt)
 have hE1 := hE1.below hx3 hE1.lt
 have hb4 := below_then (below_then hb2 h3) hx3
 clear C2 hres h3 hx3 hb2
 go_upto_region 3 with fail
 generalize w3.alloc (.cells #[.string ⟨#[]⟩, .slice none 0 0, .int .i64 0] 50) = w4 at *
 obtain ⟨k0, k1, k2, _, _, _⟩ := hE1
 go_wp2_with fail
 refine (CL.out _).mono ?_
 rintro e w5 ⟨⟨g, vs, us, rfl, _, _⟩, h5⟩
 have hz := below_then hb4 h5
 clear k0 k1 k2 CL h5
 go_wp2_with fail
 go_ret
 exact ⟨rfl, hz⟩
end

section
open Go.RowKit
def cat0 (i : Nat) : OpV := if i = 3 then ⟨false, 0, 0⟩ else if i = 4 then ⟨false, 1, 0⟩ else ⟨true, 0, 1⟩
theorem cat_head {i : Nat} (hi : i < 6) (u : Nat → Value) : ∃ t r l, catN i u = t :: r ∧ t.l = cat0 i :: l := by
 rcases (by omega : i = 0 ∨ i = 1 ∨ i = 2 ∨ i = 3 ∨ i = 4 ∨ i = 5) with rfl | rfl | rfl | rfl | rfl | rfl <;> exact ⟨_, _, _, rfl, rfl⟩
structure CatZ (w : World) (b0 gr go n0 c0 : Nat) (o : OpV) : Prop where
 r3 : w.cell? ⟨gr, 3, none⟩ = some (.slice (some ⟨go, 0, none⟩) n0 c0)
 o0 : w.cell? ⟨go, 0, none⟩ = some (.bool o.wr)
 o1 : w.cell? ⟨go, 1, none⟩ = some (.int .i64 o.key)
 o2 : w.cell? ⟨go, 2, none⟩ = some (.int .i64 o.val)
 fr : w.frozen? ⟨go, 2, none⟩ = false
 lr : b0 ≤ gr
 lo : b0 ≤ go
 ne : gr ≠ go
 n1 : 0 < n0
theorem CatZ.below {w w' : World} {b0 gr go n0 c0 : Nat} {o : OpV} (q : CatZ w b0 gr go n0 c0 o) (hb : Below w.heap.size w w') : CatZ w' b0 gr go n0 c0 o := by
 have hr := block_lt q.r3
 have ho := block_lt q.o0
 exact ⟨(hb.cell (p := ⟨gr, 3, none⟩) hr).trans q.r3, (hb.cell (p := ⟨go, 0, none⟩) ho).trans q.o0, (hb.cell (p := ⟨go, 1, none⟩) ho).trans q.o1, (hb.cell (p := ⟨go, 2, none⟩) ho).trans q.o2, (hb.frozen (p := ⟨go, 2, none⟩) ho).trans q.fr, q.lr, q.lo, q.ne, q.n1⟩
theorem CatH.first {w : World} {b0 nn cc i : Nat} {oo : Option Addr} {u : Nat → Value} (hi : i < 6) (q : CatH w b0 (.slice oo nn cc) (catN i u)) : ∃ gr go n0 c0, oo = some ⟨gr, 0, none⟩ ∧ 0 < nn ∧ CatZ w b0 gr go n0 c0 (cat0 i) := by
 obtain ⟨t, r, l, hh, hl⟩ := cat_head hi u
 obtain ⟨q1, q2⟩ := q
 rw [hh] at q1 q2
 have hO := q2 t (List.mem_cons_self ..)
 rw [hl] at hO
 have hrow := Row.of_owns hO
 have hlt := World.ownsRow.lt hO
 obtain ⟨g, cap, hv, _⟩ := Own.head hO
 rw [hv] at hrow hlt
 obtain ⟨_, ao, cap', e, _, _, hc⟩ := hrow
 cases e
 obtain ⟨b, off, e, hcell⟩ := hc (by simp)
 cases e
 have e0 := hcell 0 (by simp)
 have e1 := hcell 1 (by simp; omega)
 have e2 := hcell 2 (by simp; omega)
 have hfr : w.frozen? ⟨g, 2, none⟩ = false := by
  rcases hO.2 with ⟨_, e⟩ | ⟨g', cap', cur, e1', e2', hb, _⟩
  ·cases e
  ·rw [hv] at e1'
   cases e1'
   simp [World.frozen?, hb]
 have q1' := q1
 rcases q1.2 with ⟨_, e⟩ | ⟨gr, cap2, cur2, e1', e2', hb2, _⟩
 ·cases e
 ·cases e1'
  have h3 := (OwnT.at q1' (j := 3) (by simp; omega)).1
  have hap := owns_apart hO q1' (by decide)
  rw [hv] at hap
  refine ⟨gr, g, l.length + 1, cap, rfl, by simp, h3.trans (by simp [txV, hv]), by simpa [opV, OpV.v] using e0, by simpa [opV, OpV.v] using e1, by simpa [opV, OpV.v] using e2, hfr, (World.ownsRow.lt q1' gr rfl).1, (hlt g rfl).1, fun e => ?_, by omega⟩
  rcases hap with hap | hap
  ·simp [Value.ownBlock] at hap
  ·exact hap (by simp [Value.ownBlock, e])
end

section
open Go.RowKit
theorem run_index_name : ∀ m : Fin 6, ∀ w : World, (Instr.index 102 (.agg #[.string ⟨#[111, 119, 110, 32, 119, 114, 105, 116, 101, 32, 117, 110, 115, 101, 101, 110]⟩, .string ⟨#[99, 97, 117, 115, 101, 32, 117, 110, 115, 101, 101, 110]⟩, .string ⟨#[108, 111, 110, 103, 32, 102, 111, 114, 107]⟩, .string ⟨#[108, 111, 115, 116, 32, 117, 112, 100, 97, 116, 101]⟩, .string ⟨#[119, 114, 105, 116, 101, 32, 115, 107, 101, 119]⟩, .string ⟨#[115, 116, 97, 108, 101, 32, 114, 101, 97, 100]⟩]) (.int .i64 (m.val : Int))).run Tryz.prog w = .ok (.string (catS m.val)) w := by
 intro m w
 rcases m with ⟨m, hm⟩
 rcases (by omega : m = 0 ∨ m = 1 ∨ m = 2 ∨ m = 3 ∨ m = 4 ∨ m = 5) with rfl | rfl | rfl | rfl | rfl | rfl <;> kernel_rfl
theorem cname_any (m : Nat) (hm : m < 6) (w : World) : Calls Tryz.prog 20 #[.int .i64 (m : Int)] w fun e w' => e = .returned (.string (catS m)) ∧ w = w' := by
 have HX := fun wx => run_index_name ⟨m, hm⟩ wx
 have hd0 : decide ((m : Int) < 0) = false := decide_eq_false (by omega)
 have hd1 : decide ((6 : Int) ≤ (m : Int)) = false := decide_eq_false (by omega)
 simp only at HX
 go_enter Tryz.func20, Tryz.ntmps20
 go_wp2_with fail
 go_ret
 exact ⟨rfl, rfl⟩
theorem hasT_bit (k m : Nat) : hasT k (2 ^ m) = k.testBit m := by
 unfold hasT
 rw [Nat.testBit_eq_decide_div_mod_eq]
end

section
open Go.RowKit
theorem cat0_val (i : Nat) : 0 ≤ (cat0 i).val ∧ (cat0 i).val ≤ 1 := by
 unfold cat0
 split
 ·exact ⟨by decide, by decide⟩
 ·split <;> exact ⟨by decide, by decide⟩
theorem cat0_next (i : Nat) (w : World) {go : Nat} (z0 : w.cell? ⟨go, 0, none⟩ = some (.bool (cat0 i).wr)) (z1 : w.cell? ⟨go, 1, none⟩ = some (.int .i64 (cat0 i).key)) (z2 : w.cell? ⟨go, 2, none⟩ = some (.int .i64 (cat0 i).val)) : (w.setCell ⟨go, 2, none⟩ (.int .i64 ((cat0 i).val + 1))).cell? ⟨go, 0, none⟩ = some (.bool (cat0 i).wr) ∧ (w.setCell ⟨go, 2, none⟩ (.int .i64 ((cat0 i).val + 1))).cell? ⟨go, 1, none⟩ = some (.int .i64 (cat0 i).key) ∧ (w.setCell ⟨go, 2, none⟩ (.int .i64 ((cat0 i).val + 1))).cell? ⟨go, 2, none⟩ = some (.int .i64 ((cat0 i).val + 1)) :=
 ⟨by rw [World.cell?_setCell_other _ _ _ _ (by simp)]; exact z0, by rw [World.cell?_setCell_other _ _ _ _ (by simp)]; exact z1, World.cell?_setCell_same _ _ _ z2⟩
theorem cat_first_no : ∀ i : Fin 6, (clN (askN ((0 : Nat) : Int))).testBit i.val = false ∧ (clN (askN ((11 : Nat) : Int))).testBit i.val = true := by decide +kernel
theorem centries20_walk (y : Nat) (w : World) (hy : y < 256) (ht : Tab w) (hK : Kinds w) :
  Calls Tryz.prog 4 #[.int .u8 y] w fun e w' => e = .returned (.bool true) ∧ Below w.heap.size w w' := by
 have hg := ht.pos
 have HT : Hid (∀ wx, Below w.heap.size w wx → Tab wx ∧ Kinds wx) := hid (fun wx hb => ⟨ht.below hb hg, hK.below hb⟩)
 have C0 := hid (speaks20_any w hK)
 have CL := hid (fun wx => call_any wx)
 obtain ⟨i, hi⟩ : ∃ i : Nat, (y : Int) % 6 = (i : Int) := ⟨y % 6, by omega⟩
 have hi6 : i < 6 := by omega
 clear ht hK
 go_enter Tryz.func4, Tryz.ntmps4
 go_wp2_with fail
 refine (C0.out).mono ?_
 rintro e w1 ⟨rfl, hb1⟩
 clear C0
 go_wp2_with fail
 refine (CL.out _).mono ?_
 rintro e w2 ⟨⟨g, vs, us, rfl, hC, hH⟩, h2⟩
 have hb2 := below_then hb1 h2
 have HB0 := hid hb1.size
 obtain ⟨c0, c1, c2⟩ := hC i hi6
 have hH := hH i hi6
 obtain ⟨oo, nn, cc, hv⟩ := txns_slice hH.txns
 rw [hv] at c1 hH
 generalize us i = u at *
 obtain ⟨gr, go, n0, k0, rfl, hnn, hZ⟩ := hH.first hi6
 have hd0 : decide ((i : Int) < 0) = false := decide_eq_false (by omega)
 have hd1 : decide ((6 : Int) ≤ (i : Int)) = false := decide_eq_false (by omega)
 have hd2 : decide (6 ≤ i) = false := decide_eq_false (by omega)
 generalize hmi : ((2 ^ i : Nat) : Int) = mi at *
 have HMI := hid hmi
 generalize hs : catS i = s at *
 have HS := hid hs
 have hE := EntAt.made w2 s (.slice (some ⟨gr, 0, none⟩) nn cc) mi 50
 have hx := box_below w2 (.cells #[.string s, .slice (some ⟨gr, 0, none⟩) nn cc, .int .i64 mi] 50)
 have hb3 := below_then hb2 hx
 have hgo : go < w2.heap.size := block_lt hZ.o0
 have hgr : gr < w2.heap.size := block_lt hZ.r3
 have h3w : w2.heap.size < (w2.alloc (.cells #[.string s, .slice (some ⟨gr, 0, none⟩) nn cc, .int .i64 mi] 50)).heap.size := hE.lt
 have hH := hH.below hx
 have hZ := hZ.below hx
 clear h2 hb1 hb2 hC hv hx hmi hs
 go_upto_region 8 with fail
 generalize w2.alloc (.cells #[.string s, .slice (some ⟨gr, 0, none⟩) nn cc, .int .i64 mi] 50) = w3 at *
 generalize w2.heap.size = g3 at *
 have kd := (Below.refl w3.heap.size w3).drew
 have HE := hid (fun wx (hx : Below w3.heap.size w3 wx) => hE.below hx hE.lt)
 have HZ3 := hid (fun wx (hx : Below w3.heap.size w3 wx) => hZ.below hx)
 have HTX := hid (fun wx (hx : Below w3.heap.size w3 wx) => (hH.below hx).txns)
 have HW := hid (fun wx (hx : Below w3.heap.size w3 wx) => below_then hb3 hx)
 have hE3 := hE.below kd hE.lt
 have CNM := hid (fun wx => cname_any i hi6 wx)
 rw [HS.out] at CNM
 have CK := hid (fun wx (hx : Below w3.heap.size w3 wx) => by have h := rcheck_any _ (catN i u) wx (HTX.out wx hx) (cat_short hi6 u); rw [← check_ref, cat_check hi6 u] at h; exact h)
 have HKD := hid kd
 have hmm : (mi != mi) = false := by simp
 clear hE hZ hH hb3 kd c0 c1 c2
 refine wp_region_held_drew (S := fun wx => wx.cell? ⟨g3, 0, none⟩ = some (.string s) ∧ wx.cell? ⟨g3, 1, none⟩ = some (.slice (some ⟨gr, 0, none⟩) nn cc) ∧ wx.cell? ⟨g3, 2, none⟩ = some (.int .i64 mi)) (by kernel_rfl) ⟨hE3.c0, hE3.c1, hE3.c2⟩ (fun hS0 => ?_)
 generalize w3.drew = wd at *
 refine tG (some 23) 0 ?vtn0x1 rfl rfl (Or.inl ⟨by rfl, ?htn0x1⟩) hS0 ?rtn0x1
 case htn0x1 => (intro w hw; obtain ⟨m0, m1, m2⟩ := hw; go_simp; try (with_reducible rfl))
 try simp only [Act.put, zA, zB, zC]
 refine tG (some 24) 1 ?vtn1x2 rfl rfl (Or.inl ⟨by rfl, ?htn1x2⟩) hS0 ?rtn1x2
 case htn1x2 => (intro w hw; obtain ⟨m0, m1, m2⟩ := hw; go_simp; try (with_reducible rfl))
 try simp only [Act.put, zA, zB, zC]
 refine tG (some 25) 2 ?vtn2x3 rfl rfl (Or.inl ⟨by rfl, ?htn2x3⟩) hS0 ?rtn2x3
 case htn2x3 => (intro w hw; obtain ⟨m0, m1, m2⟩ := hw; go_simp; try (with_reducible rfl))
 try simp only [Act.put, zA, zB, zC]
 refine tG (some 26) 3 (.int .i64 mi) rfl rfl (Or.inl ⟨by rfl, by intro w hw; rw [← HMI.out]; rcases (by omega : i = 0 ∨ i = 1 ∨ i = 2 ∨ i = 3 ∨ i = 4 ∨ i = 5) with rfl | rfl | rfl | rfl | rfl | rfl <;> (go_simp; try rfl)⟩) hS0 ?_
 try simp only [Act.put, zA, zB, zC]
 refine tG (some 27) 4 ?vtn4x5 rfl rfl (Or.inl ⟨by rfl, ?htn4x5⟩) hS0 ?rtn4x5
 case htn4x5 => (intro w hw; obtain ⟨m0, m1, m2⟩ := hw; go_simp; try (with_reducible rfl))
 try simp only [Act.put, zA, zB, zC]
 refine tG (some 28) 5 ?vtn5x6 rfl rfl (Or.inl ⟨by rfl, ?htn5x6⟩) hS0 ?rtn5x6
 case htn5x6 => (intro w hw; obtain ⟨m0, m1, m2⟩ := hw; go_simp; try (with_reducible rfl))
 try simp only [Act.put, zA, zB, zC]
 refine tG (some 29) 6 ?vtn6x7 rfl rfl (Or.inl ⟨by rfl, ?htn6x7⟩) hS0 ?rtn6x7
 case htn6x7 => (intro w hw; obtain ⟨m0, m1, m2⟩ := hw; go_simp; try (with_reducible rfl))
 try simp only [Act.put, zA, zB, zC]
 refine tG (some 30) 7 ?vtn7x8 rfl rfl (Or.inl ⟨by rfl, ?htn7x8⟩) hS0 ?rtn7x8
 case htn7x8 => (intro w hw; obtain ⟨m0, m1, m2⟩ := hw; go_simp; try (with_reducible rfl))
 try simp only [Act.put, zA, zB, zC]
 refine tG (some 31) 8 ?vtn8x9 rfl rfl (Or.inl ⟨by rfl, ?htn8x9⟩) hS0 ?rtn8x9
 case htn8x9 => (intro w hw; obtain ⟨m0, m1, m2⟩ := hw; go_simp; try (with_reducible rfl))
 try simp only [Act.put, zA, zB, zC]
 refine rD 9 rfl (fun K hK => ?_)
 go_simp
 refine (CNM.out _).mono ?_
 rintro e wq ⟨rfl, rfl⟩
 show K _ _
 refine hK.out _ _ hS0 (fun _ => ?_)
 clear hK K
 refine tG (some 33) 10 ?vtn10x11 rfl rfl (Or.inl ⟨by rfl, ?htn10x11⟩) hS0 ?rtn10x11
 case htn10x11 => (intro w hw; obtain ⟨m0, m1, m2⟩ := hw; go_simp; try (with_reducible rfl))
 try simp only [Act.put, zA, zB, zC]
 refine tG (some 34) 11 ?vtn11x12 rfl rfl (Or.inl ⟨by rfl, ?htn11x12⟩) hS0 ?rtn11x12
 case htn11x12 => (intro w hw; obtain ⟨m0, m1, m2⟩ := hw; go_simp; try (with_reducible rfl))
 try simp only [Act.put, zA, zB, zC]
 refine tG (some 35) 12 ?vtn12x13 rfl rfl (Or.inl ⟨by rfl, ?htn12x13⟩) hS0 ?rtn12x13
 case htn12x13 => (intro w hw; obtain ⟨m0, m1, m2⟩ := hw; go_simp; try (with_reducible rfl))
 try simp only [Act.put, zA, zB, zC]
 refine tG (some 36) 13 ?vtn13x14 rfl rfl (Or.inl ⟨by rfl, ?htn13x14⟩) hS0 ?rtn13x14
 case htn13x14 => (intro w hw; obtain ⟨m0, m1, m2⟩ := hw; go_simp; try (with_reducible rfl))
 try simp only [Act.put, zA, zB, zC]
 refine tG (some 37) 14 ?vtn14x15 rfl rfl (Or.inl ⟨by rfl, ?htn14x15⟩) hS0 ?rtn14x15
 case htn14x15 => (intro w hw; obtain ⟨m0, m1, m2⟩ := hw; go_simp; try (with_reducible rfl))
 try simp only [Act.put, zA, zB, zC]
 refine rD 15 rfl (fun K hK => ?_)
 have CK1 := hid (CK.out _ HKD.out)
 go_simp
 refine CK1.out.mono ?_
 rintro e w4 ⟨rfl, h4⟩
 have HKD := hid (below_then HKD.out h4)
 have sB := HE.out _ HKD.out
 have sB : w4.cell? ⟨g3, 0, none⟩ = some (.string s) ∧ w4.cell? ⟨g3, 1, none⟩ = some (.slice (some ⟨gr, 0, none⟩) nn cc) ∧ w4.cell? ⟨g3, 2, none⟩ = some (.int .i64 mi) := ⟨sB.c0, sB.c1, sB.c2⟩
 show K _ _
 refine hK.out _ _ sB (fun _ => ?_)
 clear hK K CK1 h4
 refine tG (some 39) 16 ?vtn16x17 rfl rfl (Or.inl ⟨by rfl, ?htn16x17⟩) sB ?rtn16x17
 case htn16x17 => (intro w hw; obtain ⟨m0, m1, m2⟩ := hw; go_simp; try (with_reducible rfl))
 try simp only [Act.put, zA, zB, zC]
 refine tG (some 40) 17 ?vtn17x18 rfl rfl (Or.inl ⟨by rfl, ?htn17x18⟩) sB ?rtn17x18
 case htn17x18 => (intro w hw; obtain ⟨m0, m1, m2⟩ := hw; go_simp; try (with_reducible rfl))
 try simp only [Act.put, zA, zB, zC]
 refine wpAnyH_done (by kernel_rfl) ?_ _
 have h3r := HKD.out
 clear hS0 sB CK CNM HKD hE3
 go_wp2_with fail
 have CV := hid (fun (l : Nat) wx (hx : Below w4.heap.size w4 wx) => raccepts_any _ (catN i u) (l : Int) wx (cat_check hi6 u) (by have := cat_len hi6 u; omega) (HTX.out _ (below_then h3r hx)))
 have CAS := hid (fun (l : Int) wx => rl_asks l wx)
 have CCL := hid (fun (l : Nat) wx => rl_closed (askN (l : Int)) (askN_lt (l : Int)) wx)
 have CHS := hid (fun (l : Nat) wx => by have h := rl_has (clN (askN (l : Int))) (2 ^ i) (clN_lt ⟨askN (l : Int), askN_lt (l : Int)⟩) (Nat.pow_pos (by omega)) (show 2 ^ i ≤ 2 ^ 5 from Nat.pow_le_pow_right (by omega) (by omega)) wx; rw [hasT_bit, HMI.out] at h; exact h)
 have HACC := hid (fun (l : Nat) (hl : l < 12) => cat_acc hi6 u hl)
 have hb44 := Below.refl w4.heap.size w4
 go_loopw [41] (fun x wr => ∃ l : Nat, l ≤ 12 ∧ x = .int .i64 (l : Int) ∧ Below w4.heap.size w4 wr) (fun x _ => 12 - (intOf x).toNat)
 case atStart => exact ⟨0, by omega, rfl, hb44⟩
 case round =>
  obtain ⟨l, hl, rfl, hbr⟩ := hrel
  by_cases hlt : l < 12
  ·have hli : (l : Int) < 12 := by omega
   go_upto_region 13 with fail
   have h4r := below_then h3r hbr
   have kd := (Below.refl wr.heap.size wr).drew
   have HKD := hid kd
   have hE3 := HE.out _ (below_then h4r kd)
   have CV := hid (fun wx (hx : Below wr.heap.size wr wx) => CV.out l wx (below_then hbr hx))
   have CHS := hid (fun wx => CHS.out l wx)
   have hacc := HACC.out l hlt
   rw [hacc] at CV
   generalize (clN (askN (l : Int))).testBit i = p at *
   have hpp : ((!p) == p) = false := by cases p <;> rfl
   clear kd
   refine wp_region_held_drew (S := fun wx => wx.cell? ⟨g3, 1, none⟩ = some (.slice (some ⟨gr, 0, none⟩) nn cc) ∧ wx.cell? ⟨g3, 2, none⟩ = some (.int .i64 mi)) (by kernel_rfl) ⟨hE3.c1, hE3.c2⟩ (fun hS0 => ?_)
   generalize wr.drew = wd at *
   refine tG (some 44) 0 ?vtp0x1 rfl rfl (Or.inl ⟨by rfl, ?htp0x1⟩) hS0 ?rtp0x1
   case htp0x1 => (intro w hw; obtain ⟨m1, m2⟩ := hw; go_simp; try (with_reducible rfl))
   try simp only [Act.put, zA, zB, zC]
   refine tG (some 45) 1 ?vtp1x2 rfl rfl (Or.inl ⟨by rfl, ?htp1x2⟩) hS0 ?rtp1x2
   case htp1x2 => (intro w hw; obtain ⟨m1, m2⟩ := hw; go_simp; try (with_reducible rfl))
   try simp only [Act.put, zA, zB, zC]
   refine tG (some 46) 2 ?vtp2x3 rfl rfl (Or.inl ⟨by rfl, ?htp2x3⟩) hS0 ?rtp2x3
   case htp2x3 => (intro w hw; obtain ⟨m1, m2⟩ := hw; go_simp; try (with_reducible rfl))
   try simp only [Act.put, zA, zB, zC]
   refine tG (some 48) 4 ?vtp4x4 rfl rfl (Or.inl ⟨by rfl, ?htp4x4⟩) hS0 ?rtp4x4
   case htp4x4 => (intro w hw; obtain ⟨m1, m2⟩ := hw; go_simp; try (with_reducible rfl))
   try simp only [Act.put, zA, zB, zC]
   refine tG (some 51) 7 ?vtp7x5 rfl rfl (Or.inl ⟨by rfl, ?htp7x5⟩) hS0 ?rtp7x5
   case htp7x5 => (intro w hw; obtain ⟨m1, m2⟩ := hw; go_simp; try (with_reducible rfl))
   try simp only [Act.put, zA, zB, zC]
   refine tG (some 52) 8 ?vtp8x6 rfl rfl (Or.inl ⟨by rfl, ?htp8x6⟩) hS0 ?rtp8x6
   case htp8x6 => (intro w hw; obtain ⟨m1, m2⟩ := hw; go_simp; try (with_reducible rfl))
   try simp only [Act.put, zA, zB, zC]
   refine rD 3 rfl (fun K hK => ?_)
   have CV1 := hid (CV.out _ HKD.out)
   go_simp
   refine CV1.out.mono ?_
   rintro e w5 ⟨rfl, h5⟩
   have HKD := hid (below_then HKD.out h5)
   have sA := HE.out _ (below_then h4r HKD.out)
   have sA : w5.cell? ⟨g3, 1, none⟩ = some (.slice (some ⟨gr, 0, none⟩) nn cc) ∧ w5.cell? ⟨g3, 2, none⟩ = some (.int .i64 mi) := ⟨sA.c1, sA.c2⟩
   show K _ _
   refine hK.out _ _ sA (fun _ => ?_)
   clear hK K CV1 h5
   refine rD 5 rfl (fun K hK => ?_)
   go_simp
   refine (CAS.out _ _).mono ?_
   rintro e wq ⟨rfl, rfl⟩
   show K _ _
   refine hK.out _ _ sA (fun _ => ?_)
   clear hK K
   refine rD 6 rfl (fun K hK => ?_)
   go_simp
   refine (CCL.out l _).mono ?_
   rintro e wq ⟨rfl, rfl⟩
   show K _ _
   refine hK.out _ _ sA (fun _ => ?_)
   clear hK K
   refine rD 9 rfl (fun K hK => ?_)
   go_simp
   refine (CHS.out _).mono ?_
   rintro e wq ⟨rfl, rfl⟩
   show K _ _
   refine hK.out _ _ sA (fun _ => ?_)
   clear hK K
   refine tG (some 54) 10 ?vtp10x11 rfl rfl (Or.inl ⟨by rfl, ?htp10x11⟩) sA ?rtp10x11
   case htp10x11 => (intro w hw; obtain ⟨m1, m2⟩ := hw; go_simp; try (with_reducible rfl))
   try simp only [Act.put, zA, zB, zC]
   refine wpAnyH_done (by kernel_rfl) ?_ _
   have hb5 := below_then hbr HKD.out
   clear hS0 sA HKD
   go_wp2_with fail
   go_roundw
   case rel => exact ⟨l + 1, by omega, by go_num, hb5⟩
   case measure => simp [intOf]; omega
  ·obtain rfl : l = 12 := by omega
   have hli : ¬ ((12 : Nat) : Int) < 12 := by omega
   have h3r := below_then h3r hbr
   clear CV CAS CCL CHS HACC hbr hb44
   have hE3 := HE.out _ h3r
   have hTK := HT.out _ (HW.out _ h3r)
   have CO := hid (lawof_any _ (catN i u) wr (HTX.out _ h3r) (cat_ok hi6 u) (cat_short hi6 u) (cat_check hi6 u) hTK.1 hTK.2 (vec_few (by have := cat_len hi6 u; omega)))
   have HA0 : Hid (accV (catN i u) 0 = true) := hid (by unfold accV; rw [cat_acc hi6 u (by omega), (cat_first_no ⟨i, hi6⟩).1]; rfl)
   have HA11 : Hid (accV (catN i u) 11 = false) := hid (by unfold accV; rw [cat_acc hi6 u (by omega), (cat_first_no ⟨i, hi6⟩).2]; rfl)
   generalize hhh : catN i u = h at *
   obtain ⟨e0, e1, e2, _, _, _⟩ := hE3
   clear hTK
   go_wp2_with fail
   refine CO.out.mono ?_
   rintro e w5 ⟨⟨B, ws, rfl, _, hW5⟩, h5⟩
   obtain ⟨V7, hb7, hth⟩ := vec_put w5 (accV h) ws
   have hone := hW5.one (accV h)
   have hinf := info_vecA (accV h) ws
   have h37 := below_then h3r (below_then h5 hb7)
   have h35 := (below_then h3r h5).size
   clear CO hW5 h5 hb7 h3r e0 e1 e2
   go_upto_region 17 with (with_reducible refine wpList_store_mid rfl 40 _ _ rfl w5.heap.size 0 (vecL (accV h) ws).toArray rfl rfl hth hinf hone ?_)
   generalize (w5.alloc (.cells #[.bool false, .bool false, .bool false, .bool false, .bool false, .bool false, .bool false, .bool false, .bool false, .bool false, .bool false, .bool false, .slice none 0 0, .slice none 0 0, .slice none 0 0, .slice none 0 0, .slice none 0 0, .slice none 0 0, .slice none 0 0, .slice none 0 0, .slice none 0 0, .slice none 0 0, .slice none 0 0, .slice none 0 0, .slice none 0 0, .slice none 0 0, .slice none 0 0, .slice none 0 0, .slice none 0 0, .slice none 0 0, .slice none 0 0, .slice none 0 0, .slice none 0 0, .slice none 0 0, .slice none 0 0, .slice none 0 0] 40)).setCells w5.heap.size 0 (vecL (accV h) ws) = w7 at *
   generalize w5.heap.size = g7 at *
   clear hth hone hinf
   have hE7 := HE.out _ h37
   have hZ7 := HZ3.out _ h37
   obtain ⟨_, e1, _, _, _, _⟩ := hE7
   obtain ⟨z3, z0, z1, z2, zf, zl, zo, zn, zp⟩ := hZ7
   have hv := cat0_val i
   have hd0a : decide ((nn : Int) ≤ 0) = false := decide_eq_false (by omega)
   have hd0b : decide ((n0 : Int) ≤ 0) = false := decide_eq_false (by omega)
   have hnn0 : ¬ nn ≤ 0 := by omega
   have hn00 : ¬ n0 ≤ 0 := by omega
   have hl7 := V7.lt
   have hb8 := (HW.out _ h37).setCell (p := ⟨go, 2, none⟩) (by show w.heap.size ≤ go; have := HB0.out; omega) (.int .i64 ((cat0 i).val + 1))
   have hZN := cat0_next i w7 z0 z1 z2
   obtain ⟨y0, y1, y2⟩ := hZN
   have y3 : (w7.setCell ⟨go, 2, none⟩ (.int .i64 ((cat0 i).val + 1))).cell? ⟨gr, 3, none⟩ = some (.slice (some ⟨go, 0, none⟩) n0 k0) := by rw [World.cell?_setCell_other _ _ _ _ (fun q => by injection q with q1 q2; exact zn q1.symm)]; exact z3
   have ye : (w7.setCell ⟨go, 2, none⟩ (.int .i64 ((cat0 i).val + 1))).cell? ⟨g3, 1, none⟩ = some (.slice (some ⟨gr, 0, none⟩) nn cc) := by rw [World.cell?_setCell_other _ _ _ _ (fun q => by injection q with q1 q2; omega)]; exact e1
   have yv : ∀ j, (w7.setCell ⟨go, 2, none⟩ (.int .i64 ((cat0 i).val + 1))).cell? ⟨g7, j, none⟩ = w7.cell? ⟨g7, j, none⟩ := fun j => World.cell?_setCell_other _ _ _ _ (fun q => by injection q with q1 q2; omega)
   have yv0 := (yv 0).trans (V7 0 (by omega)).1
   have yv11 := (yv 11).trans (V7 11 (by omega)).1
   rw [show vecF (accV h) ws 0 = .bool true from congrArg Value.bool HA0.out] at yv0
   rw [show vecF (accV h) ws 11 = .bool false from congrArg Value.bool HA11.out] at yv11
   go_upto_region 18 with fail
   generalize w7.setCell ⟨go, 2, none⟩ (.int .i64 ((cat0 i).val + 1)) = w8 at *
   have hl8 : g3 < w8.heap.size := block_lt ye
   have hw8 : w3.heap.size ≤ g7 := h35
   have HB8 := hid hb8
   have kd := (Below.refl w8.heap.size w8).drew
   have HK8 := hid kd
   have hkc := fun (p : Addr) => kd.cell (p := p)
   have f0 := (kd.cell (p := ⟨g7, 0, none⟩) (block_lt yv0)).trans yv0
   have f1 := (kd.cell (p := ⟨g7, 11, none⟩) (block_lt yv11)).trans yv11
   have f2 := (kd.cell (p := ⟨g3, 1, none⟩) (block_lt ye)).trans ye
   have f3 := (kd.cell (p := ⟨gr, 3, none⟩) (block_lt y3)).trans y3
   have f4 := (kd.cell (p := ⟨go, 0, none⟩) (block_lt y0)).trans y0
   have f5 := (kd.cell (p := ⟨go, 1, none⟩) (block_lt y1)).trans y1
   have f6 := (kd.cell (p := ⟨go, 2, none⟩) (block_lt y2)).trans y2
   have hnv : (cat0 i).val ≠ (cat0 i).val + 1 := by omega
   clear HE HZ3 HTX HW HT e1 z3 z0 z1 z2 zf zl zo zn HA0 HA11 HMI HS HB0 V7 yv h37 hl7 hb8 kd hkc h35 hw8 hl8
   clear y0 y1 y2 y3 ye yv0 yv11
   have hgd := fun o x y a b c a' b' c' w => guardOp o x y a b c a' b' c' w
   generalize (cat0 i).val + 1 = nv at *
   refine wp_region_held_drew (S := fun wx => wx.cell? ⟨g7, 0, none⟩ = some (.bool true) ∧ wx.cell? ⟨g7, 11, none⟩ = some (.bool false) ∧ wx.cell? ⟨g3, 1, none⟩ = some (.slice (some ⟨gr, 0, none⟩) nn cc) ∧ wx.cell? ⟨gr, 3, none⟩ = some (.slice (some ⟨go, 0, none⟩) n0 k0) ∧ wx.cell? ⟨go, 0, none⟩ = some (.bool (cat0 i).wr) ∧ wx.cell? ⟨go, 1, none⟩ = some (.int .i64 (cat0 i).key) ∧ wx.cell? ⟨go, 2, none⟩ = some (.int .i64 nv)) (by kernel_rfl) ⟨f0, f1, f2, f3, f4, f5, f6⟩ (fun hS0 => ?_)
   generalize w8.drew = wd at *
   refine tG (some 74) 0 ?vtz0x1 rfl rfl (Or.inl ⟨by rfl, ?htz0x1⟩) hS0 ?rtz0x1
   case htz0x1 => (intro w hw; obtain ⟨m0, m1, m2, m3, m4, m5, m6⟩ := hw; go_simp; try (with_reducible rfl))
   try simp only [Act.put, zA, zB, zC]
   refine tG (some 75) 1 ?vtz1x2 rfl rfl (Or.inl ⟨by rfl, ?htz1x2⟩) hS0 ?rtz1x2
   case htz1x2 => (intro w hw; obtain ⟨m0, m1, m2, m3, m4, m5, m6⟩ := hw; go_simp; try (with_reducible rfl))
   try simp only [Act.put, zA, zB, zC]
   refine tG (some 76) 2 ?vtz2x3 rfl rfl (Or.inl ⟨by rfl, ?htz2x3⟩) hS0 ?rtz2x3
   case htz2x3 => (intro w hw; obtain ⟨m0, m1, m2, m3, m4, m5, m6⟩ := hw; go_simp; try (with_reducible rfl))
   try simp only [Act.put, zA, zB, zC]
   refine tG (some 77) 3 ?vtz3x4 rfl rfl (Or.inl ⟨by rfl, ?htz3x4⟩) hS0 ?rtz3x4
   case htz3x4 => (intro w hw; obtain ⟨m0, m1, m2, m3, m4, m5, m6⟩ := hw; go_simp; try (with_reducible rfl))
   try simp only [Act.put, zA, zB, zC]
   refine tG (some 78) 4 ?vtz4x5 rfl rfl (Or.inl ⟨by rfl, ?htz4x5⟩) hS0 ?rtz4x5
   case htz4x5 => (intro w hw; obtain ⟨m0, m1, m2, m3, m4, m5, m6⟩ := hw; go_simp; try (with_reducible rfl))
   try simp only [Act.put, zA, zB, zC]
   refine tG (some 79) 5 ?vtz5x6 rfl rfl (Or.inl ⟨by rfl, ?htz5x6⟩) hS0 ?rtz5x6
   case htz5x6 => (intro w hw; obtain ⟨m0, m1, m2, m3, m4, m5, m6⟩ := hw; go_simp; try (with_reducible rfl))
   try simp only [Act.put, zA, zB, zC]
   refine tG (some 80) 6 ?vtz6x7 rfl rfl (Or.inl ⟨by rfl, ?htz6x7⟩) hS0 ?rtz6x7
   case htz6x7 => (intro w hw; obtain ⟨m0, m1, m2, m3, m4, m5, m6⟩ := hw; go_simp; try (with_reducible rfl))
   try simp only [Act.put, zA, zB, zC]
   refine tG (some 81) 7 ?vtz7x8 rfl rfl (Or.inl ⟨by rfl, ?htz7x8⟩) hS0 ?rtz7x8
   case htz7x8 => (intro w hw; obtain ⟨m0, m1, m2, m3, m4, m5, m6⟩ := hw; go_simp; try (with_reducible rfl))
   try simp only [Act.put, zA, zB, zC]
   refine tG (some 82) 8 ?vtz8x9 rfl rfl (Or.inl ⟨by rfl, ?htz8x9⟩) hS0 ?rtz8x9
   case htz8x9 => (intro w hw; obtain ⟨m0, m1, m2, m3, m4, m5, m6⟩ := hw; go_simp; try (with_reducible rfl))
   try simp only [Act.put, zA, zB, zC]
   refine tG (some 83) 9 ?vtz9x10 rfl rfl (Or.inl ⟨by rfl, ?htz9x10⟩) hS0 ?rtz9x10
   case htz9x10 => (intro w hw; obtain ⟨m0, m1, m2, m3, m4, m5, m6⟩ := hw; go_simp; try (with_reducible rfl))
   try simp only [Act.put, zA, zB, zC]
   refine tG (some 84) 10 ?vtz10x11 rfl rfl (Or.inl ⟨by rfl, ?htz10x11⟩) hS0 ?rtz10x11
   case htz10x11 => (intro w hw; obtain ⟨m0, m1, m2, m3, m4, m5, m6⟩ := hw; go_simp; try (with_reducible rfl))
   try simp only [Act.put, zA, zB, zC]
   refine tG (some 85) 11 ?vtz11x12 rfl rfl (Or.inl ⟨by rfl, ?htz11x12⟩) hS0 ?rtz11x12
   case htz11x12 => (intro w hw; obtain ⟨m0, m1, m2, m3, m4, m5, m6⟩ := hw; go_simp; try (with_reducible rfl))
   try simp only [Act.put, zA, zB, zC]
   refine tG (some 86) 12 ?vtz12x13 rfl rfl (Or.inl ⟨by rfl, ?htz12x13⟩) hS0 ?rtz12x13
   case htz12x13 => (intro w hw; obtain ⟨m0, m1, m2, m3, m4, m5, m6⟩ := hw; go_simp; try (with_reducible rfl))
   try simp only [Act.put, zA, zB, zC]
   refine tG (some 88) 14 ?vtz14x14 rfl rfl (Or.inl ⟨by rfl, ?htz14x14⟩) hS0 ?rtz14x14
   case htz14x14 => (intro w hw; obtain ⟨m0, m1, m2, m3, m4, m5, m6⟩ := hw; go_simp; try (with_reducible rfl))
   try simp only [Act.put, zA, zB, zC]
   refine tG (some 97) 23 ?vtz23x15 rfl rfl (Or.inl ⟨by rfl, ?htz23x15⟩) hS0 ?rtz23x15
   case htz23x15 => (intro w hw; obtain ⟨m0, m1, m2, m3, m4, m5, m6⟩ := hw; go_simp; try (with_reducible rfl))
   try simp only [Act.put, zA, zB, zC]
   refine tG (some 98) 24 ?vtz24x16 rfl rfl (Or.inl ⟨by rfl, ?htz24x16⟩) hS0 ?rtz24x16
   case htz24x16 => (intro w hw; obtain ⟨m0, m1, m2, m3, m4, m5, m6⟩ := hw; go_simp; try (with_reducible rfl))
   try simp only [Act.put, zA, zB, zC]
   refine tG (some 99) 25 ?vtz25x17 rfl rfl (Or.inl ⟨by rfl, ?htz25x17⟩) hS0 ?rtz25x17
   case htz25x17 => (intro w hw; obtain ⟨m0, m1, m2, m3, m4, m5, m6⟩ := hw; go_simp; try (with_reducible rfl))
   try simp only [Act.put, zA, zB, zC]
   refine tG (some 100) 26 ?vtz26x18 rfl rfl (Or.inl ⟨by rfl, ?htz26x18⟩) hS0 ?rtz26x18
   case htz26x18 => (intro w hw; obtain ⟨m0, m1, m2, m3, m4, m5, m6⟩ := hw; go_simp; try (with_reducible rfl))
   try simp only [Act.put, zA, zB, zC]
   refine tG (some 101) 27 ?vtz27x19 rfl rfl (Or.inl ⟨by rfl, ?htz27x19⟩) hS0 ?rtz27x19
   case htz27x19 => (intro w hw; obtain ⟨m0, m1, m2, m3, m4, m5, m6⟩ := hw; go_simp; try (with_reducible rfl))
   try simp only [Act.put, zA, zB, zC]
   refine tG (some 102) 28 ?vtz28x20 rfl rfl (Or.inl ⟨by rfl, ?htz28x20⟩) hS0 ?rtz28x20
   case htz28x20 => (intro w hw; obtain ⟨m0, m1, m2, m3, m4, m5, m6⟩ := hw; go_simp; try (with_reducible rfl))
   try simp only [Act.put, zA, zB, zC]
   refine tG (some 103) 29 ?vtz29x21 rfl rfl (Or.inl ⟨by rfl, ?htz29x21⟩) hS0 ?rtz29x21
   case htz29x21 => (intro w hw; obtain ⟨m0, m1, m2, m3, m4, m5, m6⟩ := hw; go_simp; try (with_reducible rfl))
   try simp only [Act.put, zA, zB, zC]
   refine rD 13 rfl (fun K hK => ?_)
   go_simp
   refine (CL.out _).mono ?_
   rintro e w9 ⟨⟨g9, vs9, us9, rfl, hC9, hH9⟩, h9⟩
   obtain ⟨_, q9, _⟩ := hC9 i hi6
   have hH9 := hH9 i hi6
   obtain ⟨o9, n9, c9, hv9⟩ := txns_slice hH9.txns
   rw [hv9] at q9 hH9
   obtain ⟨gr9, go9, m9, k9, rfl, hn9, hZ9⟩ := hH9.first hi6
   obtain ⟨t3, t0, t1, t2, _, _, _, _, hm9⟩ := hZ9
   have hda : decide ((n9 : Int) ≤ 0) = false := decide_eq_false (by omega)
   have hdb : decide ((m9 : Int) ≤ 0) = false := decide_eq_false (by omega)
   have hdc : ¬ n9 ≤ 0 := by omega
   have hdd : ¬ m9 ≤ 0 := by omega
   have hd30 : ∀ w, Sem.run Tryz.prog (binOp .neq 56 (.agg #[.bool (cat0 i).wr, .int .i64 (cat0 i).key, .int .i64 (cat0 i).val]) (.agg #[.bool (cat0 i).wr, .int .i64 (cat0 i).key, .int .i64 nv])) w = .ok (.bool true) w := fun w => by rw [neqOp]; simp only [ne_eq, OpV.mk.injEq, hnv, and_false, not_false_eq_true, decide_true]
   have hil : (i : Int) < 6 := by omega
   obtain ⟨a0, a1, a2, a3, a4, a5, a6⟩ := hS0
   have HKD := hid (below_then HK8.out h9)
   have sB : w9.cell? ⟨g7, 0, none⟩ = some (.bool true) ∧ w9.cell? ⟨g7, 11, none⟩ = some (.bool false) ∧ w9.cell? ⟨g3, 1, none⟩ = some (.slice (some ⟨gr, 0, none⟩) nn cc) ∧ w9.cell? ⟨gr, 3, none⟩ = some (.slice (some ⟨go, 0, none⟩) n0 k0) ∧ w9.cell? ⟨go, 0, none⟩ = some (.bool (cat0 i).wr) ∧ w9.cell? ⟨go, 1, none⟩ = some (.int .i64 (cat0 i).key) ∧ w9.cell? ⟨go, 2, none⟩ = some (.int .i64 nv) := ⟨(h9.cell (p := ⟨g7, 0, none⟩) (block_lt a0)).trans a0, (h9.cell (p := ⟨g7, 11, none⟩) (block_lt a1)).trans a1, (h9.cell (p := ⟨g3, 1, none⟩) (block_lt a2)).trans a2, (h9.cell (p := ⟨gr, 3, none⟩) (block_lt a3)).trans a3, (h9.cell (p := ⟨go, 0, none⟩) (block_lt a4)).trans a4, (h9.cell (p := ⟨go, 1, none⟩) (block_lt a5)).trans a5, (h9.cell (p := ⟨go, 2, none⟩) (block_lt a6)).trans a6⟩
   show K _ _
   refine hK.out _ _ sB (fun _ => ?_)
   clear hK K hC9 hH9 hv9
   refine tG (some 89) 15 ?vtz15x23 rfl rfl (Or.inl ⟨by rfl, ?htz15x23⟩) sB ?rtz15x23
   case htz15x23 => (intro w hw; obtain ⟨m0, m1, m2, m3, m4, m5, m6⟩ := hw; go_simp; try (with_reducible rfl))
   try simp only [Act.put, zA, zB, zC]
   refine tG (some 90) 16 ?vtz16x24 rfl rfl (Or.inl ⟨by rfl, ?htz16x24⟩) sB ?rtz16x24
   case htz16x24 => (intro w hw; obtain ⟨m0, m1, m2, m3, m4, m5, m6⟩ := hw; go_simp; try (with_reducible rfl))
   try simp only [Act.put, zA, zB, zC]
   refine rD 17 rfl (fun K hK => ?_)
   go_simp
   refine hK.out _ _ sB (fun _ => ?_)
   clear hK K
   refine tG (some 92) 18 ?vtz18x26 rfl rfl (Or.inl ⟨by rfl, ?htz18x26⟩) sB ?rtz18x26
   case htz18x26 => (intro w hw; obtain ⟨m0, m1, m2, m3, m4, m5, m6⟩ := hw; go_simp; try (with_reducible rfl))
   try simp only [Act.put, zA, zB, zC]
   refine tG (some 93) 19 ?vtz19x27 rfl rfl (Or.inl ⟨by rfl, ?htz19x27⟩) sB ?rtz19x27
   case htz19x27 => (intro w hw; obtain ⟨m0, m1, m2, m3, m4, m5, m6⟩ := hw; go_simp; try (with_reducible rfl))
   try simp only [Act.put, zA, zB, zC]
   refine rD 20 rfl (fun K hK => ?_)
   go_simp
   refine hK.out _ _ sB (fun _ => ?_)
   clear hK K
   refine tG (some 95) 21 ?vtz21x29 rfl rfl (Or.inl ⟨by rfl, ?htz21x29⟩) sB ?rtz21x29
   case htz21x29 => (intro w hw; obtain ⟨m0, m1, m2, m3, m4, m5, m6⟩ := hw; go_simp; try (with_reducible rfl))
   try simp only [Act.put, zA, zB, zC]
   refine rD 22 rfl (fun K hK => ?_)
   go_simp
   refine hK.out _ _ sB (fun _ => ?_)
   clear hK K
   refine tG (some 104) 30 ?vtz30x31 rfl rfl (Or.inl ⟨by rfl, ?htz30x31⟩) sB ?rtz30x31
   case htz30x31 => (intro w hw; obtain ⟨m0, m1, m2, m3, m4, m5, m6⟩ := hw; go_simp; try (with_reducible rfl))
   try simp only [Act.put, zA, zB, zC]
   refine tG (some 105) 31 ?vtz31x32 rfl rfl (Or.inl ⟨by rfl, ?htz31x32⟩) sB ?rtz31x32
   case htz31x32 => (intro w hw; obtain ⟨m0, m1, m2, m3, m4, m5, m6⟩ := hw; go_simp; try (with_reducible rfl))
   try simp only [Act.put, zA, zB, zC]
   refine tG (some 2) 32 ?vtz32x33 rfl rfl (Or.inl ⟨by rfl, ?htz32x33⟩) sB ?rtz32x33
   case htz32x33 => (intro w hw; obtain ⟨m0, m1, m2, m3, m4, m5, m6⟩ := hw; go_simp; try (with_reducible rfl))
   try simp only [Act.put, zA, zB, zC]
   refine wpAnyH_done (by kernel_rfl) ?_ _
   have hbE := below_then HB8.out HKD.out
   clear sB
   go_wp2_with fail
   go_ret
   exact ⟨rfl, hbE⟩
end

end Go.Proofs.YtadihdkpoeibhaaGreatDoor
