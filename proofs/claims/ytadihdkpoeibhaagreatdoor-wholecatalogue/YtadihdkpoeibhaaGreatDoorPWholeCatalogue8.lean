/- Walks and plain facts that the proof of the statement WholeCatalogue uses, joined: CatB CatC CatD CatE CatH CatG CatI LatJ. Conditions: each theorem's own. -/
import Derived.Test.YtadihdkpoeibhaaGreatDoorPWholeCatalogue0
import Derived.Test.YtadihdkpoeibhaaGreatDoorPWholeCatalogue1
import Derived.Test.YtadihdkpoeibhaaGreatDoorPWholeCatalogue2
import Derived.Test.YtadihdkpoeibhaaGreatDoorPWholeCatalogue3
import Derived.Test.YtadihdkpoeibhaaGreatDoorPWholeCatalogue7
namespace Go.Proofs.YtadihdkpoeibhaaGreatDoor
set_option maxHeartbeats 32000000
set_option maxRecDepth 100000
open Lib (hid)
section
open Go.RowKit
abbrev KOp := Value × List OpV
def KRows (w : World) (v : Value) (K : List KOp) : Prop := Row w v K.length 1 (K.map (·.1)) ∧ ∀ p ∈ K, Ops w p.1 p.2
section
variable {w w' : World} {v : Value} {K : List KOp}
theorem KRows.below (h : KRows w v K) (hb : Below w.heap.size w w') : KRows w' v K := ⟨h.1.below hb, fun p hp => Row.below (h.2 p hp) hb⟩
theorem KRows.form (h : KRows w v K) : ∃ ao cap, v = .slice ao K.length cap ∧ K.length ≤ 9223372036854775807 := by
 obtain ⟨_, ao, cap, rfl, hm, _, _⟩ := h.1
 exact ⟨ao, cap, rfl, Nat.le_trans hm.1 hm.2⟩
theorem KRows.at {ao : Option Addr} {n cap : Nat} (h : KRows w (.slice ao n cap) K) {k : Nat} (hk : k < K.length) : ∃ g o, ao = some ⟨g, o, none⟩ ∧ w.cell? ⟨g, o + k, none⟩ = some K[k].1 ∧ Ops w K[k].1 K[k].2 := by
 obtain ⟨_, ao', cap', he, _, _, hc⟩ := h.1
 cases he
 obtain ⟨b, off, e, hcell⟩ := hc (by omega)
 refine ⟨b, off, e, ?_, h.2 _ (List.getElem_mem hk)⟩
 have := hcell k (by omega)
 rw [this]
 simp [hk]
end
theorem Ops.slice {w : World} {v : Value} {l : List OpV} (h : Ops w v l) : ∃ ua un uc, v = .slice ua un uc := by
 obtain ⟨_, ao, cap, rfl, _⟩ := h
 exact ⟨ao, _, cap, rfl⟩
def turn1 (K : List KOp) (k : Nat) : List TxnV := (List.range k).filterMap fun (i : Nat) => K[i]?.map fun p => ⟨0, 2 * (i : Int), 2 * (i : Int) + 1, p.1, p.2⟩
def turn2 (K : List KOp) (k : Nat) : List TxnV := (List.range k).filterMap fun (i : Nat) => K[i]?.map fun p => ⟨(i : Int) % 2, 2 * (i : Int), 2 * (i : Int) + 1, p.1, p.2⟩
def onceL (K : List KOp) (k : Nat) : List TxnV := (List.range k).filterMap fun (i : Nat) => K[i]?.map fun p => ⟨(i : Int), (i : Int), (K.length : Int) + (i : Int), p.1, p.2⟩
theorem cturn1_succ {K : List KOp} {k : Nat} (hk : k < K.length) : turn1 K (k + 1) = turn1 K k ++ [⟨0, 2 * (k : Int), 2 * (k : Int) + 1, K[k].1, K[k].2⟩] := by
 unfold turn1; rw [List.range_succ, List.filterMap_append]; simp [hk]
theorem cturn2_succ {K : List KOp} {k : Nat} (hk : k < K.length) : turn2 K (k + 1) = turn2 K k ++ [⟨(k : Int) % 2, 2 * (k : Int), 2 * (k : Int) + 1, K[k].1, K[k].2⟩] := by
 unfold turn2; rw [List.range_succ, List.filterMap_append]; simp [hk]
theorem conce_succ {K : List KOp} {k : Nat} (hk : k < K.length) : onceL K (k + 1) = onceL K k ++ [⟨(k : Int), (k : Int), (K.length : Int) + (k : Int), K[k].1, K[k].2⟩] := by
 unfold onceL; rw [List.range_succ, List.filterMap_append]; simp [hk]
theorem cturn1_len {K : List KOp} (k : Nat) : (turn1 K k).length ≤ k := by
 unfold turn1; exact Nat.le_trans (List.length_filterMap_le _ _) (by simp)
theorem cturn2_len {K : List KOp} (k : Nat) : (turn2 K k).length ≤ k := by
 unfold turn2; exact Nat.le_trans (List.length_filterMap_le _ _) (by simp)
theorem conce_len {K : List KOp} (k : Nat) : (onceL K k).length ≤ k := by
 unfold onceL; exact Nat.le_trans (List.length_filterMap_le _ _) (by simp)
theorem cturn1_own {K : List KOp} {k b0 : Nat} {w : World} (hR : ∀ p ∈ K, Own w b0 p.1 p.2) : ∀ t ∈ turn1 K k, Own w b0 t.v t.l := fun t ht => by
 unfold turn1 at ht
 obtain ⟨i, _, e⟩ := List.mem_filterMap.1 ht
 obtain ⟨p, hp, rfl⟩ := Option.map_eq_some_iff.1 e
 exact hR p (List.mem_of_getElem? hp)
theorem cturn2_own {K : List KOp} {k b0 : Nat} {w : World} (hR : ∀ p ∈ K, Own w b0 p.1 p.2) : ∀ t ∈ turn2 K k, Own w b0 t.v t.l := fun t ht => by
 unfold turn2 at ht
 obtain ⟨i, _, e⟩ := List.mem_filterMap.1 ht
 obtain ⟨p, hp, rfl⟩ := Option.map_eq_some_iff.1 e
 exact hR p (List.mem_of_getElem? hp)
theorem conce_own {K : List KOp} {k b0 : Nat} {w : World} (hR : ∀ p ∈ K, Own w b0 p.1 p.2) : ∀ t ∈ onceL K k, Own w b0 t.v t.l := fun t ht => by
 unfold onceL at ht
 obtain ⟨i, _, e⟩ := List.mem_filterMap.1 ht
 obtain ⟨p, hp, rfl⟩ := Option.map_eq_some_iff.1 e
 exact hR p (List.mem_of_getElem? hp)
def CatH (w : World) (b0 : Nat) (v : Value) (h : List TxnV) : Prop := OwnT w b0 v h ∧ ∀ t ∈ h, Own w b0 t.v t.l
section
variable {w w' : World} {b0 : Nat} {v : Value} {h : List TxnV}
theorem CatH.below (q : CatH w b0 v h) (hb : Below w.heap.size w w') : CatH w' b0 v h := ⟨q.1.below hb, fun t ht => (q.2 t ht).below hb⟩
theorem CatH.txns (q : CatH w b0 v h) : Txns w v h := ⟨Row.of_owns q.1, fun t ht => (q.2 t ht).ops⟩
def AllOwn (w : World) (b0 : Nat) : List KOp → Prop
 | [] => True
 | p :: K => Own w b0 p.1 p.2 ∧ AllOwn w b0 K
theorem all_own {b0 : Nat} : ∀ {K : List KOp}, AllOwn w b0 K → ∀ p ∈ K, Own w b0 p.1 p.2
 | [], _, p, hp => by cases hp
 | q :: K, h, p, hp => by
  rcases List.mem_cons.1 hp with rfl | hp
  ·exact h.1
  ·exact all_own h.2 p hp
end
theorem cturn1_txns {K : List KOp} {k : Nat} {w : World} {v va : Value} (hR : KRows w va K) (h : Row w v (turn1 K k).length 4 (txV (turn1 K k))) : Txns w v (turn1 K k) := ⟨h, fun t ht => by
 unfold turn1 at ht
 obtain ⟨i, _, e⟩ := List.mem_filterMap.1 ht
 obtain ⟨p, hp, rfl⟩ := Option.map_eq_some_iff.1 e
 exact hR.2 p (List.mem_of_getElem? hp)⟩
theorem cturn2_txns {K : List KOp} {k : Nat} {w : World} {v va : Value} (hR : KRows w va K) (h : Row w v (turn2 K k).length 4 (txV (turn2 K k))) : Txns w v (turn2 K k) := ⟨h, fun t ht => by
 unfold turn2 at ht
 obtain ⟨i, _, e⟩ := List.mem_filterMap.1 ht
 obtain ⟨p, hp, rfl⟩ := Option.map_eq_some_iff.1 e
 exact hR.2 p (List.mem_of_getElem? hp)⟩
theorem conce_txns {K : List KOp} {k : Nat} {w : World} {v va : Value} (hR : KRows w va K) (h : Row w v (onceL K k).length 4 (txV (onceL K k))) : Txns w v (onceL K k) := ⟨h, fun t ht => by
 unfold onceL at ht
 obtain ⟨i, _, e⟩ := List.mem_filterMap.1 ht
 obtain ⟨p, hp, rfl⟩ := Option.map_eq_some_iff.1 e
 exact hR.2 p (List.mem_of_getElem? hp)⟩
theorem crow_any (ao : Option Addr) (n cap : Nat) (w : World) : Calls Tryz.prog 50 #[.slice ao n cap] w fun e w' => e = .returned (.slice ao n cap) ∧ w = w' := by
 go_enter Tryz.func50, Tryz.ntmps50
 go_wp2_with fail
 go_ret
 exact ⟨rfl, rfl⟩
theorem cturn1_any  (va : Value) (K : List KOp) (w : World) (hR : KRows w va K) (hn : K.length ≤ 1000) :
  Calls Tryz.prog 49 #[.int .i64 1, va] w fun e w' => ∃ v, e = .returned v ∧ w'.ownsRow w.heap.size 59 4 v (turn1 K K.length).length (txV (turn1 K K.length)) ∧ Txns w' v (turn1 K K.length) ∧ Below w.heap.size w w' := by
 obtain ⟨i1, hj, hy0, hy1, hy2⟩ := info_parts infoTxn
 obtain ⟨ao, cap, rfl, hm⟩ := hR.form
 have HR := hid (fun wx (hx : Below w.heap.size w wx) => hR.below hx)
 clear hR
 go_enter Tryz.func49, Tryz.ntmps49
 go_wp2_with fail
 go_loopw [5, 10] (fun v i wr => ∃ k : Nat, k ≤ K.length ∧ i = .int .i64 (k : Int) ∧ Hid (wr.ownsRow w.heap.size 59 4 v (turn1 K k).length (txV (turn1 K k))) ∧ Hid (Below w.heap.size w wr)) (fun _ i _ => K.length - (intOf i).toNat)
 case atStart => exact ⟨0, by omega, rfl, hid (World.ownsRow_nil _ _ _ _), hid (Below.refl _ _)⟩
 case round =>
  obtain ⟨k, hk, rfl, HO, HB⟩ := hrel
  by_cases hlt : k < K.length
  ·have hki : (k : Int) < (K.length : Int) := by omega
   obtain ⟨g, o, hg, hc, hops⟩ := (HR.out wr HB.out).at hlt
   cases hg
   have hown := HO.out
   obtain ⟨ua, un, uc, hu⟩ := hops.slice
   rw [hu] at hc
   have HL : Hid (turn1 K (k + 1) = turn1 K k ++ [⟨0, (2 * (k : Int)), (2 * (k : Int) + 1), .slice ua un uc, K[k].2⟩]) := hid (by rw [cturn1_succ hlt]; rw [hu])
   have hll : (turn1 K k).length ≤ 1000 := Nat.le_trans (cturn1_len k) (by omega)
   have hka : (k : Int) ≤ 1000 := by omega
   have hbs := HB.out.size
   clear HO hops
   go_wp2_with (first | (at_builtin; refine wpList_append_own _ rfl _ _ 22 rfl w.heap.size 59 i1 (.agg #[.int .i64 0, .int .i64 0, .int .i64 0, .slice none 0 0]) 4 48 Tryz.underlying22 hj hy0 hy1 hy2 rfl (by decide) _ _ _ rfl (hown.alloc _) ⟨_, 0, none⟩ 1 1 [.int .i64 0, .int .i64 (2 * (k : Int)), .int .i64 (2 * (k : Int) + 1), .slice ua un uc] rfl rfl ?c1 ?c2 ?c3 ?c4 ?c5 ?_) | go_in)
   case c1 => exact row4_newM wr _ _ _ _ _
   case c2 =>
    intro u hu
    simp at hu
    rcases hu with rfl | rfl | rfl | rfl <;> rfl
   case c3 => unfold maxLen; omega
   case c4 => omega
   case c5 => simp; omega
   intro v10 w10 hown10 hg10 _
   have HO10 : Hid (w10.ownsRow w.heap.size 59 4 v10 (turn1 K (k + 1)).length (txV (turn1 K (k + 1)))) := hid (by
    rw [HL.out, List.length_append, txV_app]
    exact hown10)
   have HB10 : Hid (Below w.heap.size w w10) := hid (below_app0 HB.out (Nat.le_refl _) hown (Nat.le_refl _) hg10)
   clear hown10 hg10 hown HL
   go_wp2_with fail
   go_roundw
   case rel => exact ⟨k + 1, by omega, by go_num, HO10, HB10⟩
   case measure => simp [intOf]; omega
  ·obtain rfl : k = K.length := by omega
   have hki : ¬ (K.length : Int) < (K.length : Int) := by omega
   have hR := HR.out wr HB.out
   have HT := hid (cturn1_txns hR (Row.of_owns HO.out))
   clear hR HR
   go_wp2_with fail
   go_ret
   exact ⟨_, rfl, HO.out, HT.out, HB.out⟩
theorem cturn2_any  (va : Value) (K : List KOp) (w : World) (hR : KRows w va K) (hn : K.length ≤ 1000) :
  Calls Tryz.prog 49 #[.int .i64 2, va] w fun e w' => ∃ v, e = .returned v ∧ w'.ownsRow w.heap.size 59 4 v (turn2 K K.length).length (txV (turn2 K K.length)) ∧ Txns w' v (turn2 K K.length) ∧ Below w.heap.size w w' := by
 obtain ⟨i1, hj, hy0, hy1, hy2⟩ := info_parts infoTxn
 obtain ⟨ao, cap, rfl, hm⟩ := hR.form
 have HR := hid (fun wx (hx : Below w.heap.size w wx) => hR.below hx)
 clear hR
 go_enter Tryz.func49, Tryz.ntmps49
 go_wp2_with fail
 go_loopw [5, 10] (fun v i wr => ∃ k : Nat, k ≤ K.length ∧ i = .int .i64 (k : Int) ∧ Hid (wr.ownsRow w.heap.size 59 4 v (turn2 K k).length (txV (turn2 K k))) ∧ Hid (Below w.heap.size w wr)) (fun _ i _ => K.length - (intOf i).toNat)
 case atStart => exact ⟨0, by omega, rfl, hid (World.ownsRow_nil _ _ _ _), hid (Below.refl _ _)⟩
 case round =>
  obtain ⟨k, hk, rfl, HO, HB⟩ := hrel
  by_cases hlt : k < K.length
  ·have hki : (k : Int) < (K.length : Int) := by omega
   obtain ⟨g, o, hg, hc, hops⟩ := (HR.out wr HB.out).at hlt
   cases hg
   have hown := HO.out
   obtain ⟨ua, un, uc, hu⟩ := hops.slice
   rw [hu] at hc
   have HL : Hid (turn2 K (k + 1) = turn2 K k ++ [⟨((k : Int) % 2), (2 * (k : Int)), (2 * (k : Int) + 1), .slice ua un uc, K[k].2⟩]) := hid (by rw [cturn2_succ hlt]; rw [hu])
   have hll : (turn2 K k).length ≤ 1000 := Nat.le_trans (cturn2_len k) (by omega)
   have hka : (k : Int) ≤ 1000 := by omega
   have hbs := HB.out.size
   clear HO hops
   go_wp2_with (first | (at_builtin; refine wpList_append_own _ rfl _ _ 22 rfl w.heap.size 59 i1 (.agg #[.int .i64 0, .int .i64 0, .int .i64 0, .slice none 0 0]) 4 48 Tryz.underlying22 hj hy0 hy1 hy2 rfl (by decide) _ _ _ rfl (hown.alloc _) ⟨_, 0, none⟩ 1 1 [.int .i64 ((k : Int) % 2), .int .i64 (2 * (k : Int)), .int .i64 (2 * (k : Int) + 1), .slice ua un uc] rfl rfl ?c1 ?c2 ?c3 ?c4 ?c5 ?_) | go_in)
   case c1 => exact row4_newM wr _ _ _ _ _
   case c2 =>
    intro u hu
    simp at hu
    rcases hu with rfl | rfl | rfl | rfl <;> rfl
   case c3 => unfold maxLen; omega
   case c4 => omega
   case c5 => simp; omega
   intro v10 w10 hown10 hg10 _
   have HO10 : Hid (w10.ownsRow w.heap.size 59 4 v10 (turn2 K (k + 1)).length (txV (turn2 K (k + 1)))) := hid (by
    rw [HL.out, List.length_append, txV_app]
    exact hown10)
   have HB10 : Hid (Below w.heap.size w w10) := hid (below_app0 HB.out (Nat.le_refl _) hown (Nat.le_refl _) hg10)
   clear hown10 hg10 hown HL
   go_wp2_with fail
   go_roundw
   case rel => exact ⟨k + 1, by omega, by go_num, HO10, HB10⟩
   case measure => simp [intOf]; omega
  ·obtain rfl : k = K.length := by omega
   have hki : ¬ (K.length : Int) < (K.length : Int) := by omega
   have hR := HR.out wr HB.out
   have HT := hid (cturn2_txns hR (Row.of_owns HO.out))
   clear hR HR
   go_wp2_with fail
   go_ret
   exact ⟨_, rfl, HO.out, HT.out, HB.out⟩
theorem conce_any  (va : Value) (K : List KOp) (w : World) (hR : KRows w va K) (hn : K.length ≤ 1000) :
  Calls Tryz.prog 53 #[va] w fun e w' => ∃ v, e = .returned v ∧ w'.ownsRow w.heap.size 59 4 v (onceL K K.length).length (txV (onceL K K.length)) ∧ Txns w' v (onceL K K.length) ∧ Below w.heap.size w w' := by
 obtain ⟨i1, hj, hy0, hy1, hy2⟩ := info_parts infoTxn
 obtain ⟨ao, cap, rfl, hm⟩ := hR.form
 have HR := hid (fun wx (hx : Below w.heap.size w wx) => hR.below hx)
 clear hR
 go_enter Tryz.func53, Tryz.ntmps53
 go_wp2_with fail
 go_loopw [3, 8] (fun v i wr => ∃ k : Nat, k ≤ K.length ∧ i = .int .i64 (k : Int) ∧ Hid (wr.ownsRow w.heap.size 59 4 v (onceL K k).length (txV (onceL K k))) ∧ Hid (Below w.heap.size w wr)) (fun _ i _ => K.length - (intOf i).toNat)
 case atStart => exact ⟨0, by omega, rfl, hid (World.ownsRow_nil _ _ _ _), hid (Below.refl _ _)⟩
 case round =>
  obtain ⟨k, hk, rfl, HO, HB⟩ := hrel
  by_cases hlt : k < K.length
  ·have hki : (k : Int) < (K.length : Int) := by omega
   obtain ⟨g, o, hg, hc, hops⟩ := (HR.out wr HB.out).at hlt
   cases hg
   have hown := HO.out
   obtain ⟨ua, un, uc, hu⟩ := hops.slice
   rw [hu] at hc
   have HL : Hid (onceL K (k + 1) = onceL K k ++ [⟨(k : Int), (k : Int), ((K.length : Int) + (k : Int)), .slice ua un uc, K[k].2⟩]) := hid (by rw [conce_succ hlt]; rw [hu])
   have hll : (onceL K k).length ≤ 1000 := Nat.le_trans (conce_len k) (by omega)
   have hka : (k : Int) ≤ 1000 := by omega
   have hbs := HB.out.size
   clear HO hops
   go_wp2_with (first | (at_builtin; refine wpList_append_own _ rfl _ _ 22 rfl w.heap.size 59 i1 (.agg #[.int .i64 0, .int .i64 0, .int .i64 0, .slice none 0 0]) 4 48 Tryz.underlying22 hj hy0 hy1 hy2 rfl (by decide) _ _ _ rfl (hown.alloc _) ⟨_, 0, none⟩ 1 1 [.int .i64 (k : Int), .int .i64 (k : Int), .int .i64 ((K.length : Int) + (k : Int)), .slice ua un uc] rfl rfl ?c1 ?c2 ?c3 ?c4 ?c5 ?_) | go_in)
   case c1 => exact row4_newM wr _ _ _ _ _
   case c2 =>
    intro u hu
    simp at hu
    rcases hu with rfl | rfl | rfl | rfl <;> rfl
   case c3 => unfold maxLen; omega
   case c4 => omega
   case c5 => simp; omega
   intro v10 w10 hown10 hg10 _
   have HO10 : Hid (w10.ownsRow w.heap.size 59 4 v10 (onceL K (k + 1)).length (txV (onceL K (k + 1)))) := hid (by
    rw [HL.out, List.length_append, txV_app]
    exact hown10)
   have HB10 : Hid (Below w.heap.size w w10) := hid (below_app0 HB.out (Nat.le_refl _) hown (Nat.le_refl _) hg10)
   clear hown10 hg10 hown HL
   go_wp2_with fail
   go_roundw
   case rel => exact ⟨k + 1, by omega, by go_num, HO10, HB10⟩
   case measure => simp [intOf]; omega
  ·obtain rfl : k = K.length := by omega
   have hki : ¬ (K.length : Int) < (K.length : Int) := by omega
   have hR := HR.out wr HB.out
   have HT := hid (conce_txns hR (Row.of_owns HO.out))
   clear hR HR
   go_wp2_with fail
   go_ret
   exact ⟨_, rfl, HO.out, HT.out, HB.out⟩
end

section
open Go.RowKit
def catS (i : Nat) : ByteArray :=
  if i = 0 then ⟨#[111, 119, 110, 32, 119, 114, 105, 116, 101, 32, 117, 110, 115, 101, 101, 110]⟩
  else if i = 1 then ⟨#[99, 97, 117, 115, 101, 32, 117, 110, 115, 101, 101, 110]⟩
  else if i = 2 then ⟨#[108, 111, 110, 103, 32, 102, 111, 114, 107]⟩
  else if i = 3 then ⟨#[108, 111, 115, 116, 32, 117, 112, 100, 97, 116, 101]⟩
  else if i = 4 then ⟨#[119, 114, 105, 116, 101, 32, 115, 107, 101, 119]⟩
  else ⟨#[115, 116, 97, 108, 101, 32, 114, 101, 97, 100]⟩
def CatAt (w : World) (g : Nat) (vs : Nat → Value) : Prop := ∀ i, i < 6 → w.cell? ⟨g, i * 3, none⟩ = some (.string (catS i)) ∧ w.cell? ⟨g, i * 3 + 1, none⟩ = some (vs i) ∧ w.cell? ⟨g, i * 3 + 2, none⟩ = some (.int .i64 ((2 ^ i : Nat) : Int))
theorem cat_made (w : World) (t : TypeId) (vs : Nat → Value) : CatAt (w.alloc (.cells #[.string ⟨#[111, 119, 110, 32, 119, 114, 105, 116, 101, 32, 117, 110, 115, 101, 101, 110]⟩, vs 0, .int .i64 1, .string ⟨#[99, 97, 117, 115, 101, 32, 117, 110, 115, 101, 101, 110]⟩, vs 1, .int .i64 2, .string ⟨#[108, 111, 110, 103, 32, 102, 111, 114, 107]⟩, vs 2, .int .i64 4, .string ⟨#[108, 111, 115, 116, 32, 117, 112, 100, 97, 116, 101]⟩, vs 3, .int .i64 8, .string ⟨#[119, 114, 105, 116, 101, 32, 115, 107, 101, 119]⟩, vs 4, .int .i64 16, .string ⟨#[115, 116, 97, 108, 101, 32, 114, 101, 97, 100]⟩, vs 5, .int .i64 32] t)) w.heap.size vs := fun i hi => by
 have hn := heap_alloc_new w (.cells #[.string ⟨#[111, 119, 110, 32, 119, 114, 105, 116, 101, 32, 117, 110, 115, 101, 101, 110]⟩, vs 0, .int .i64 1, .string ⟨#[99, 97, 117, 115, 101, 32, 117, 110, 115, 101, 101, 110]⟩, vs 1, .int .i64 2, .string ⟨#[108, 111, 110, 103, 32, 102, 111, 114, 107]⟩, vs 2, .int .i64 4, .string ⟨#[108, 111, 115, 116, 32, 117, 112, 100, 97, 116, 101]⟩, vs 3, .int .i64 8, .string ⟨#[119, 114, 105, 116, 101, 32, 115, 107, 101, 119]⟩, vs 4, .int .i64 16, .string ⟨#[115, 116, 97, 108, 101, 32, 114, 101, 97, 100]⟩, vs 5, .int .i64 32] t)
 rcases (by omega : i = 0 ∨ i = 1 ∨ i = 2 ∨ i = 3 ∨ i = 4 ∨ i = 5) with rfl | rfl | rfl | rfl | rfl | rfl <;> exact ⟨by rw [cell_of_row _ _ _ _ _ _ hn]; rfl, by rw [cell_of_row _ _ _ _ _ _ hn]; rfl, by rw [cell_of_row _ _ _ _ _ _ hn]; rfl⟩
theorem txns_slice {w : World} {v : Value} {h : List TxnV} (q : Txns w v h) : ∃ ao n cap, v = .slice ao n cap := by
 obtain ⟨ao, cap, e, _⟩ := q.form
 exact ⟨ao, _, cap, e⟩
def AllOps (w : World) : List KOp → Prop
 | [] => True
 | p :: K => Ops w p.1 p.2 ∧ AllOps w K
theorem krows_all {w : World} : ∀ {K : List KOp}, AllOps w K → ∀ p ∈ K, Ops w p.1 p.2
 | [], _, p, hp => by cases hp
 | q :: K, h, p, hp => by
  rcases List.mem_cons.1 hp with rfl | hp
  ·exact h.1
  ·exact krows_all h.2 p hp
theorem call_any (w : World) : Calls Tryz.prog 19 #[] w fun e w' => (∃ (g : Nat) (vs : Nat → Value) (us : Nat → Nat → Value), e = .returned (.slice (some ⟨g, 0, none⟩) 6 6) ∧ CatAt w' g vs ∧ ∀ i, i < 6 → CatH w' w.heap.size (vs i) (catN i (us i))) ∧ Below w.heap.size w w' := by
 have hb := Below.refl w.heap.size w
 go_enter Tryz.func19, Tryz.ntmps19
 go_wp2_with fail
 refine (write_op 0 1 w).mono ?_
 rintro e w1 ⟨rfl, hx1⟩
 have hb := below_then hb hx1
 clear hx1
 have O0x0 : Own (w1.alloc (.cells #[.bool true, .int .i64 0, .int .i64 1] 56)) w.heap.size (.slice (some ⟨w1.heap.size, 0, none⟩) 1 1) [⟨true, 0, 1⟩] := World.ownsRow_lit (base := w.heap.size) (e := 56) (size := 3) w1 #[.bool true, .int .i64 0, .int .i64 1] 1 hb.size (by decide) rfl
 have hb := below_then hb (box_below w1 (.cells #[.bool true, .int .i64 0, .int .i64 1] 56))
 go_wp2_with fail
 generalize w1.alloc (.cells #[.bool true, .int .i64 0, .int .i64 1] 56) = w2 at *
 generalize w1.heap.size = a0x0 at *
 refine (crow_any _ _ _ _).mono ?_
 rintro e wq ⟨rfl, rfl⟩
 go_wp2_with fail
 refine (read_any 0 0 w2).mono ?_
 rintro e w3 ⟨rfl, hx3⟩
 have O0x0 := O0x0.below hx3
 have hb := below_then hb hx3
 clear hx3
 have O0x1 : Own (w3.alloc (.cells #[.bool false, .int .i64 0, .int .i64 0] 56)) w.heap.size (.slice (some ⟨w3.heap.size, 0, none⟩) 1 1) [⟨false, 0, 0⟩] := World.ownsRow_lit (base := w.heap.size) (e := 56) (size := 3) w3 #[.bool false, .int .i64 0, .int .i64 0] 1 hb.size (by decide) rfl
 have O0x0 := O0x0.below (box_below w3 (.cells #[.bool false, .int .i64 0, .int .i64 0] 56))
 have hb := below_then hb (box_below w3 (.cells #[.bool false, .int .i64 0, .int .i64 0] 56))
 go_wp2_with fail
 generalize w3.alloc (.cells #[.bool false, .int .i64 0, .int .i64 0] 56) = w4 at *
 generalize w3.heap.size = a0x1 at *
 refine (crow_any _ _ _ _).mono ?_
 rintro e wq ⟨rfl, rfl⟩
 have O0x0 := O0x0.below (box_below w4 (.cells #[.slice (some ⟨a0x0, 0, none⟩) 1 1, .slice (some ⟨a0x1, 0, none⟩) 1 1] 57))
 have O0x1 := O0x1.below (box_below w4 (.cells #[.slice (some ⟨a0x0, 0, none⟩) 1 1, .slice (some ⟨a0x1, 0, none⟩) 1 1] 57))
 have hb := below_then hb (box_below w4 (.cells #[.slice (some ⟨a0x0, 0, none⟩) 1 1, .slice (some ⟨a0x1, 0, none⟩) 1 1] 57))
 have KR0 : KRows (w4.alloc (.cells #[.slice (some ⟨a0x0, 0, none⟩) 1 1, .slice (some ⟨a0x1, 0, none⟩) 1 1] 57)) (.slice (some ⟨w4.heap.size, 0, none⟩) 2 2) [((.slice (some ⟨a0x0, 0, none⟩) 1 1), [⟨true, 0, 1⟩]), ((.slice (some ⟨a0x1, 0, none⟩) 1 1), [⟨false, 0, 0⟩])] := ⟨Row.of_owns (World.ownsRow_lit (base := 0) (e := 57) (size := 1) w4 #[.slice (some ⟨a0x0, 0, none⟩) 1 1, .slice (some ⟨a0x1, 0, none⟩) 1 1] 2 (Nat.zero_le _) (by decide) rfl), krows_all (⟨O0x0.ops, ⟨O0x1.ops, trivial⟩⟩)⟩
 go_wp2_with fail
 generalize w4.alloc (.cells #[.slice (some ⟨a0x0, 0, none⟩) 1 1, .slice (some ⟨a0x1, 0, none⟩) 1 1] 57) = w5 at *
 generalize w4.heap.size = k0 at *
 refine (cturn1_any _ _ _ KR0 (by simp)).mono ?_
 rintro e w6 ⟨v0, rfl, hW, hT, hx6⟩
 obtain ⟨o0, n0, c0, rfl⟩ := txns_slice hT
 have e0 : turn1 [((.slice (some ⟨a0x0, 0, none⟩) 1 1), [⟨true, 0, 1⟩]), ((.slice (some ⟨a0x1, 0, none⟩) 1 1), [⟨false, 0, 0⟩])] ([((.slice (some ⟨a0x0, 0, none⟩) 1 1), [⟨true, 0, 1⟩]), ((.slice (some ⟨a0x1, 0, none⟩) 1 1), [⟨false, 0, 0⟩])] : List KOp).length = catN 0 (fun (j : Nat) => ([.slice (some ⟨a0x0, 0, none⟩) 1 1, .slice (some ⟨a0x1, 0, none⟩) 1 1] : List Value).getD j undef) := by kernel_rfl
 have hI : CatH w6 w.heap.size (.slice o0 n0 c0) (turn1 [((.slice (some ⟨a0x0, 0, none⟩) 1 1), [⟨true, 0, 1⟩]), ((.slice (some ⟨a0x1, 0, none⟩) 1 1), [⟨false, 0, 0⟩])] ([((.slice (some ⟨a0x0, 0, none⟩) 1 1), [⟨true, 0, 1⟩]), ((.slice (some ⟨a0x1, 0, none⟩) 1 1), [⟨false, 0, 0⟩])] : List KOp).length) := ⟨own_base' hW hb.size, cturn1_own (all_own (⟨O0x0.below hx6, ⟨O0x1.below hx6, trivial⟩⟩))⟩
 rw [e0] at hI
 generalize (fun (j : Nat) => ([.slice (some ⟨a0x0, 0, none⟩) 1 1, .slice (some ⟨a0x1, 0, none⟩) 1 1] : List Value).getD j undef) = u0 at hI
 have hb := below_then hb hx6
 have T0 := hI
 clear hI hT hW hx6 KR0 e0 O0x0 O0x1
 go_wp2_with fail
 refine (write_op 0 1 w6).mono ?_
 rintro e w7 ⟨rfl, hx7⟩
 have T0 := T0.below hx7
 have hb := below_then hb hx7
 clear hx7
 have O1x0 : Own (w7.alloc (.cells #[.bool true, .int .i64 0, .int .i64 1] 56)) w.heap.size (.slice (some ⟨w7.heap.size, 0, none⟩) 1 1) [⟨true, 0, 1⟩] := World.ownsRow_lit (base := w.heap.size) (e := 56) (size := 3) w7 #[.bool true, .int .i64 0, .int .i64 1] 1 hb.size (by decide) rfl
 have T0 := T0.below (box_below w7 (.cells #[.bool true, .int .i64 0, .int .i64 1] 56))
 have hb := below_then hb (box_below w7 (.cells #[.bool true, .int .i64 0, .int .i64 1] 56))
 go_wp2_with fail
 generalize w7.alloc (.cells #[.bool true, .int .i64 0, .int .i64 1] 56) = w8 at *
 generalize w7.heap.size = a1x0 at *
 refine (crow_any _ _ _ _).mono ?_
 rintro e wq ⟨rfl, rfl⟩
 go_wp2_with fail
 refine (read_any 0 1 w8).mono ?_
 rintro e w9 ⟨rfl, hx9⟩
 have T0 := T0.below hx9
 have O1x0 := O1x0.below hx9
 have hb := below_then hb hx9
 clear hx9
 go_wp2_with fail
 refine (write_op 1 2 w9).mono ?_
 rintro e w10 ⟨rfl, hx10⟩
 have T0 := T0.below hx10
 have O1x0 := O1x0.below hx10
 have hb := below_then hb hx10
 clear hx10
 have O1x1 : Own (w10.alloc (.cells #[.bool false, .int .i64 0, .int .i64 1, .bool true, .int .i64 1, .int .i64 2] 56)) w.heap.size (.slice (some ⟨w10.heap.size, 0, none⟩) 2 2) [⟨false, 0, 1⟩, ⟨true, 1, 2⟩] := World.ownsRow_lit (base := w.heap.size) (e := 56) (size := 3) w10 #[.bool false, .int .i64 0, .int .i64 1, .bool true, .int .i64 1, .int .i64 2] 2 hb.size (by decide) rfl
 have T0 := T0.below (box_below w10 (.cells #[.bool false, .int .i64 0, .int .i64 1, .bool true, .int .i64 1, .int .i64 2] 56))
 have O1x0 := O1x0.below (box_below w10 (.cells #[.bool false, .int .i64 0, .int .i64 1, .bool true, .int .i64 1, .int .i64 2] 56))
 have hb := below_then hb (box_below w10 (.cells #[.bool false, .int .i64 0, .int .i64 1, .bool true, .int .i64 1, .int .i64 2] 56))
 go_wp2_with fail
 generalize w10.alloc (.cells #[.bool false, .int .i64 0, .int .i64 1, .bool true, .int .i64 1, .int .i64 2] 56) = w11 at *
 generalize w10.heap.size = a1x1 at *
 refine (crow_any _ _ _ _).mono ?_
 rintro e wq ⟨rfl, rfl⟩
 go_wp2_with fail
 refine (read_any 1 2 w11).mono ?_
 rintro e w12 ⟨rfl, hx12⟩
 have T0 := T0.below hx12
 have O1x0 := O1x0.below hx12
 have O1x1 := O1x1.below hx12
 have hb := below_then hb hx12
 clear hx12
 go_wp2_with fail
 refine (read_any 0 0 w12).mono ?_
 rintro e w13 ⟨rfl, hx13⟩
 have T0 := T0.below hx13
 have O1x0 := O1x0.below hx13
 have O1x1 := O1x1.below hx13
 have hb := below_then hb hx13
 clear hx13
 have O1x2 : Own (w13.alloc (.cells #[.bool false, .int .i64 1, .int .i64 2, .bool false, .int .i64 0, .int .i64 0] 56)) w.heap.size (.slice (some ⟨w13.heap.size, 0, none⟩) 2 2) [⟨false, 1, 2⟩, ⟨false, 0, 0⟩] := World.ownsRow_lit (base := w.heap.size) (e := 56) (size := 3) w13 #[.bool false, .int .i64 1, .int .i64 2, .bool false, .int .i64 0, .int .i64 0] 2 hb.size (by decide) rfl
 have T0 := T0.below (box_below w13 (.cells #[.bool false, .int .i64 1, .int .i64 2, .bool false, .int .i64 0, .int .i64 0] 56))
 have O1x0 := O1x0.below (box_below w13 (.cells #[.bool false, .int .i64 1, .int .i64 2, .bool false, .int .i64 0, .int .i64 0] 56))
 have O1x1 := O1x1.below (box_below w13 (.cells #[.bool false, .int .i64 1, .int .i64 2, .bool false, .int .i64 0, .int .i64 0] 56))
 have hb := below_then hb (box_below w13 (.cells #[.bool false, .int .i64 1, .int .i64 2, .bool false, .int .i64 0, .int .i64 0] 56))
 go_wp2_with fail
 generalize w13.alloc (.cells #[.bool false, .int .i64 1, .int .i64 2, .bool false, .int .i64 0, .int .i64 0] 56) = w14 at *
 generalize w13.heap.size = a1x2 at *
 refine (crow_any _ _ _ _).mono ?_
 rintro e wq ⟨rfl, rfl⟩
 have T0 := T0.below (box_below w14 (.cells #[.slice (some ⟨a1x0, 0, none⟩) 1 1, .slice (some ⟨a1x1, 0, none⟩) 2 2, .slice (some ⟨a1x2, 0, none⟩) 2 2] 57))
 have O1x0 := O1x0.below (box_below w14 (.cells #[.slice (some ⟨a1x0, 0, none⟩) 1 1, .slice (some ⟨a1x1, 0, none⟩) 2 2, .slice (some ⟨a1x2, 0, none⟩) 2 2] 57))
 have O1x1 := O1x1.below (box_below w14 (.cells #[.slice (some ⟨a1x0, 0, none⟩) 1 1, .slice (some ⟨a1x1, 0, none⟩) 2 2, .slice (some ⟨a1x2, 0, none⟩) 2 2] 57))
 have O1x2 := O1x2.below (box_below w14 (.cells #[.slice (some ⟨a1x0, 0, none⟩) 1 1, .slice (some ⟨a1x1, 0, none⟩) 2 2, .slice (some ⟨a1x2, 0, none⟩) 2 2] 57))
 have hb := below_then hb (box_below w14 (.cells #[.slice (some ⟨a1x0, 0, none⟩) 1 1, .slice (some ⟨a1x1, 0, none⟩) 2 2, .slice (some ⟨a1x2, 0, none⟩) 2 2] 57))
 have KR1 : KRows (w14.alloc (.cells #[.slice (some ⟨a1x0, 0, none⟩) 1 1, .slice (some ⟨a1x1, 0, none⟩) 2 2, .slice (some ⟨a1x2, 0, none⟩) 2 2] 57)) (.slice (some ⟨w14.heap.size, 0, none⟩) 3 3) [((.slice (some ⟨a1x0, 0, none⟩) 1 1), [⟨true, 0, 1⟩]), ((.slice (some ⟨a1x1, 0, none⟩) 2 2), [⟨false, 0, 1⟩, ⟨true, 1, 2⟩]), ((.slice (some ⟨a1x2, 0, none⟩) 2 2), [⟨false, 1, 2⟩, ⟨false, 0, 0⟩])] := ⟨Row.of_owns (World.ownsRow_lit (base := 0) (e := 57) (size := 1) w14 #[.slice (some ⟨a1x0, 0, none⟩) 1 1, .slice (some ⟨a1x1, 0, none⟩) 2 2, .slice (some ⟨a1x2, 0, none⟩) 2 2] 3 (Nat.zero_le _) (by decide) rfl), krows_all (⟨O1x0.ops, ⟨O1x1.ops, ⟨O1x2.ops, trivial⟩⟩⟩)⟩
 go_wp2_with fail
 generalize w14.alloc (.cells #[.slice (some ⟨a1x0, 0, none⟩) 1 1, .slice (some ⟨a1x1, 0, none⟩) 2 2, .slice (some ⟨a1x2, 0, none⟩) 2 2] 57) = w15 at *
 generalize w14.heap.size = k1 at *
 refine (conce_any _ _ _ KR1 (by simp)).mono ?_
 rintro e w16 ⟨v1, rfl, hW, hT, hx16⟩
 obtain ⟨o1, n1, c1, rfl⟩ := txns_slice hT
 have e1 : onceL [((.slice (some ⟨a1x0, 0, none⟩) 1 1), [⟨true, 0, 1⟩]), ((.slice (some ⟨a1x1, 0, none⟩) 2 2), [⟨false, 0, 1⟩, ⟨true, 1, 2⟩]), ((.slice (some ⟨a1x2, 0, none⟩) 2 2), [⟨false, 1, 2⟩, ⟨false, 0, 0⟩])] ([((.slice (some ⟨a1x0, 0, none⟩) 1 1), [⟨true, 0, 1⟩]), ((.slice (some ⟨a1x1, 0, none⟩) 2 2), [⟨false, 0, 1⟩, ⟨true, 1, 2⟩]), ((.slice (some ⟨a1x2, 0, none⟩) 2 2), [⟨false, 1, 2⟩, ⟨false, 0, 0⟩])] : List KOp).length = catN 1 (fun (j : Nat) => ([.slice (some ⟨a1x0, 0, none⟩) 1 1, .slice (some ⟨a1x1, 0, none⟩) 2 2, .slice (some ⟨a1x2, 0, none⟩) 2 2] : List Value).getD j undef) := by kernel_rfl
 have hI : CatH w16 w.heap.size (.slice o1 n1 c1) (onceL [((.slice (some ⟨a1x0, 0, none⟩) 1 1), [⟨true, 0, 1⟩]), ((.slice (some ⟨a1x1, 0, none⟩) 2 2), [⟨false, 0, 1⟩, ⟨true, 1, 2⟩]), ((.slice (some ⟨a1x2, 0, none⟩) 2 2), [⟨false, 1, 2⟩, ⟨false, 0, 0⟩])] ([((.slice (some ⟨a1x0, 0, none⟩) 1 1), [⟨true, 0, 1⟩]), ((.slice (some ⟨a1x1, 0, none⟩) 2 2), [⟨false, 0, 1⟩, ⟨true, 1, 2⟩]), ((.slice (some ⟨a1x2, 0, none⟩) 2 2), [⟨false, 1, 2⟩, ⟨false, 0, 0⟩])] : List KOp).length) := ⟨own_base' hW hb.size, conce_own (all_own (⟨O1x0.below hx16, ⟨O1x1.below hx16, ⟨O1x2.below hx16, trivial⟩⟩⟩))⟩
 rw [e1] at hI
 generalize (fun (j : Nat) => ([.slice (some ⟨a1x0, 0, none⟩) 1 1, .slice (some ⟨a1x1, 0, none⟩) 2 2, .slice (some ⟨a1x2, 0, none⟩) 2 2] : List Value).getD j undef) = u1 at hI
 have T0 := T0.below hx16
 have hb := below_then hb hx16
 have T1 := hI
 clear hI hT hW hx16 KR1 e1 O1x0 O1x1 O1x2
 go_wp2_with fail
 refine (write_op 0 1 w16).mono ?_
 rintro e w17 ⟨rfl, hx17⟩
 have T0 := T0.below hx17
 have T1 := T1.below hx17
 have hb := below_then hb hx17
 clear hx17
 have O2x0 : Own (w17.alloc (.cells #[.bool true, .int .i64 0, .int .i64 1] 56)) w.heap.size (.slice (some ⟨w17.heap.size, 0, none⟩) 1 1) [⟨true, 0, 1⟩] := World.ownsRow_lit (base := w.heap.size) (e := 56) (size := 3) w17 #[.bool true, .int .i64 0, .int .i64 1] 1 hb.size (by decide) rfl
 have T0 := T0.below (box_below w17 (.cells #[.bool true, .int .i64 0, .int .i64 1] 56))
 have T1 := T1.below (box_below w17 (.cells #[.bool true, .int .i64 0, .int .i64 1] 56))
 have hb := below_then hb (box_below w17 (.cells #[.bool true, .int .i64 0, .int .i64 1] 56))
 go_wp2_with fail
 generalize w17.alloc (.cells #[.bool true, .int .i64 0, .int .i64 1] 56) = w18 at *
 generalize w17.heap.size = a2x0 at *
 refine (crow_any _ _ _ _).mono ?_
 rintro e wq ⟨rfl, rfl⟩
 go_wp2_with fail
 refine (write_op 1 2 w18).mono ?_
 rintro e w19 ⟨rfl, hx19⟩
 have T0 := T0.below hx19
 have T1 := T1.below hx19
 have O2x0 := O2x0.below hx19
 have hb := below_then hb hx19
 clear hx19
 have O2x1 : Own (w19.alloc (.cells #[.bool true, .int .i64 1, .int .i64 2] 56)) w.heap.size (.slice (some ⟨w19.heap.size, 0, none⟩) 1 1) [⟨true, 1, 2⟩] := World.ownsRow_lit (base := w.heap.size) (e := 56) (size := 3) w19 #[.bool true, .int .i64 1, .int .i64 2] 1 hb.size (by decide) rfl
 have T0 := T0.below (box_below w19 (.cells #[.bool true, .int .i64 1, .int .i64 2] 56))
 have T1 := T1.below (box_below w19 (.cells #[.bool true, .int .i64 1, .int .i64 2] 56))
 have O2x0 := O2x0.below (box_below w19 (.cells #[.bool true, .int .i64 1, .int .i64 2] 56))
 have hb := below_then hb (box_below w19 (.cells #[.bool true, .int .i64 1, .int .i64 2] 56))
 go_wp2_with fail
 generalize w19.alloc (.cells #[.bool true, .int .i64 1, .int .i64 2] 56) = w20 at *
 generalize w19.heap.size = a2x1 at *
 refine (crow_any _ _ _ _).mono ?_
 rintro e wq ⟨rfl, rfl⟩
 go_wp2_with fail
 refine (read_any 0 1 w20).mono ?_
 rintro e w21 ⟨rfl, hx21⟩
 have T0 := T0.below hx21
 have T1 := T1.below hx21
 have O2x0 := O2x0.below hx21
 have O2x1 := O2x1.below hx21
 have hb := below_then hb hx21
 clear hx21
 go_wp2_with fail
 refine (read_any 1 0 w21).mono ?_
 rintro e w22 ⟨rfl, hx22⟩
 have T0 := T0.below hx22
 have T1 := T1.below hx22
 have O2x0 := O2x0.below hx22
 have O2x1 := O2x1.below hx22
 have hb := below_then hb hx22
 clear hx22
 have O2x2 : Own (w22.alloc (.cells #[.bool false, .int .i64 0, .int .i64 1, .bool false, .int .i64 1, .int .i64 0] 56)) w.heap.size (.slice (some ⟨w22.heap.size, 0, none⟩) 2 2) [⟨false, 0, 1⟩, ⟨false, 1, 0⟩] := World.ownsRow_lit (base := w.heap.size) (e := 56) (size := 3) w22 #[.bool false, .int .i64 0, .int .i64 1, .bool false, .int .i64 1, .int .i64 0] 2 hb.size (by decide) rfl
 have T0 := T0.below (box_below w22 (.cells #[.bool false, .int .i64 0, .int .i64 1, .bool false, .int .i64 1, .int .i64 0] 56))
 have T1 := T1.below (box_below w22 (.cells #[.bool false, .int .i64 0, .int .i64 1, .bool false, .int .i64 1, .int .i64 0] 56))
 have O2x0 := O2x0.below (box_below w22 (.cells #[.bool false, .int .i64 0, .int .i64 1, .bool false, .int .i64 1, .int .i64 0] 56))
 have O2x1 := O2x1.below (box_below w22 (.cells #[.bool false, .int .i64 0, .int .i64 1, .bool false, .int .i64 1, .int .i64 0] 56))
 have hb := below_then hb (box_below w22 (.cells #[.bool false, .int .i64 0, .int .i64 1, .bool false, .int .i64 1, .int .i64 0] 56))
 go_wp2_with fail
 generalize w22.alloc (.cells #[.bool false, .int .i64 0, .int .i64 1, .bool false, .int .i64 1, .int .i64 0] 56) = w23 at *
 generalize w22.heap.size = a2x2 at *
 refine (crow_any _ _ _ _).mono ?_
 rintro e wq ⟨rfl, rfl⟩
 go_wp2_with fail
 refine (read_any 1 2 w23).mono ?_
 rintro e w24 ⟨rfl, hx24⟩
 have T0 := T0.below hx24
 have T1 := T1.below hx24
 have O2x0 := O2x0.below hx24
 have O2x1 := O2x1.below hx24
 have O2x2 := O2x2.below hx24
 have hb := below_then hb hx24
 clear hx24
 go_wp2_with fail
 refine (read_any 0 0 w24).mono ?_
 rintro e w25 ⟨rfl, hx25⟩
 have T0 := T0.below hx25
 have T1 := T1.below hx25
 have O2x0 := O2x0.below hx25
 have O2x1 := O2x1.below hx25
 have O2x2 := O2x2.below hx25
 have hb := below_then hb hx25
 clear hx25
 have O2x3 : Own (w25.alloc (.cells #[.bool false, .int .i64 1, .int .i64 2, .bool false, .int .i64 0, .int .i64 0] 56)) w.heap.size (.slice (some ⟨w25.heap.size, 0, none⟩) 2 2) [⟨false, 1, 2⟩, ⟨false, 0, 0⟩] := World.ownsRow_lit (base := w.heap.size) (e := 56) (size := 3) w25 #[.bool false, .int .i64 1, .int .i64 2, .bool false, .int .i64 0, .int .i64 0] 2 hb.size (by decide) rfl
 have T0 := T0.below (box_below w25 (.cells #[.bool false, .int .i64 1, .int .i64 2, .bool false, .int .i64 0, .int .i64 0] 56))
 have T1 := T1.below (box_below w25 (.cells #[.bool false, .int .i64 1, .int .i64 2, .bool false, .int .i64 0, .int .i64 0] 56))
 have O2x0 := O2x0.below (box_below w25 (.cells #[.bool false, .int .i64 1, .int .i64 2, .bool false, .int .i64 0, .int .i64 0] 56))
 have O2x1 := O2x1.below (box_below w25 (.cells #[.bool false, .int .i64 1, .int .i64 2, .bool false, .int .i64 0, .int .i64 0] 56))
 have O2x2 := O2x2.below (box_below w25 (.cells #[.bool false, .int .i64 1, .int .i64 2, .bool false, .int .i64 0, .int .i64 0] 56))
 have hb := below_then hb (box_below w25 (.cells #[.bool false, .int .i64 1, .int .i64 2, .bool false, .int .i64 0, .int .i64 0] 56))
 go_wp2_with fail
 generalize w25.alloc (.cells #[.bool false, .int .i64 1, .int .i64 2, .bool false, .int .i64 0, .int .i64 0] 56) = w26 at *
 generalize w25.heap.size = a2x3 at *
 refine (crow_any _ _ _ _).mono ?_
 rintro e wq ⟨rfl, rfl⟩
 have T0 := T0.below (box_below w26 (.cells #[.slice (some ⟨a2x0, 0, none⟩) 1 1, .slice (some ⟨a2x1, 0, none⟩) 1 1, .slice (some ⟨a2x2, 0, none⟩) 2 2, .slice (some ⟨a2x3, 0, none⟩) 2 2] 57))
 have T1 := T1.below (box_below w26 (.cells #[.slice (some ⟨a2x0, 0, none⟩) 1 1, .slice (some ⟨a2x1, 0, none⟩) 1 1, .slice (some ⟨a2x2, 0, none⟩) 2 2, .slice (some ⟨a2x3, 0, none⟩) 2 2] 57))
 have O2x0 := O2x0.below (box_below w26 (.cells #[.slice (some ⟨a2x0, 0, none⟩) 1 1, .slice (some ⟨a2x1, 0, none⟩) 1 1, .slice (some ⟨a2x2, 0, none⟩) 2 2, .slice (some ⟨a2x3, 0, none⟩) 2 2] 57))
 have O2x1 := O2x1.below (box_below w26 (.cells #[.slice (some ⟨a2x0, 0, none⟩) 1 1, .slice (some ⟨a2x1, 0, none⟩) 1 1, .slice (some ⟨a2x2, 0, none⟩) 2 2, .slice (some ⟨a2x3, 0, none⟩) 2 2] 57))
 have O2x2 := O2x2.below (box_below w26 (.cells #[.slice (some ⟨a2x0, 0, none⟩) 1 1, .slice (some ⟨a2x1, 0, none⟩) 1 1, .slice (some ⟨a2x2, 0, none⟩) 2 2, .slice (some ⟨a2x3, 0, none⟩) 2 2] 57))
 have O2x3 := O2x3.below (box_below w26 (.cells #[.slice (some ⟨a2x0, 0, none⟩) 1 1, .slice (some ⟨a2x1, 0, none⟩) 1 1, .slice (some ⟨a2x2, 0, none⟩) 2 2, .slice (some ⟨a2x3, 0, none⟩) 2 2] 57))
 have hb := below_then hb (box_below w26 (.cells #[.slice (some ⟨a2x0, 0, none⟩) 1 1, .slice (some ⟨a2x1, 0, none⟩) 1 1, .slice (some ⟨a2x2, 0, none⟩) 2 2, .slice (some ⟨a2x3, 0, none⟩) 2 2] 57))
 have KR2 : KRows (w26.alloc (.cells #[.slice (some ⟨a2x0, 0, none⟩) 1 1, .slice (some ⟨a2x1, 0, none⟩) 1 1, .slice (some ⟨a2x2, 0, none⟩) 2 2, .slice (some ⟨a2x3, 0, none⟩) 2 2] 57)) (.slice (some ⟨w26.heap.size, 0, none⟩) 4 4) [((.slice (some ⟨a2x0, 0, none⟩) 1 1), [⟨true, 0, 1⟩]), ((.slice (some ⟨a2x1, 0, none⟩) 1 1), [⟨true, 1, 2⟩]), ((.slice (some ⟨a2x2, 0, none⟩) 2 2), [⟨false, 0, 1⟩, ⟨false, 1, 0⟩]), ((.slice (some ⟨a2x3, 0, none⟩) 2 2), [⟨false, 1, 2⟩, ⟨false, 0, 0⟩])] := ⟨Row.of_owns (World.ownsRow_lit (base := 0) (e := 57) (size := 1) w26 #[.slice (some ⟨a2x0, 0, none⟩) 1 1, .slice (some ⟨a2x1, 0, none⟩) 1 1, .slice (some ⟨a2x2, 0, none⟩) 2 2, .slice (some ⟨a2x3, 0, none⟩) 2 2] 4 (Nat.zero_le _) (by decide) rfl), krows_all (⟨O2x0.ops, ⟨O2x1.ops, ⟨O2x2.ops, ⟨O2x3.ops, trivial⟩⟩⟩⟩)⟩
 go_wp2_with fail
 generalize w26.alloc (.cells #[.slice (some ⟨a2x0, 0, none⟩) 1 1, .slice (some ⟨a2x1, 0, none⟩) 1 1, .slice (some ⟨a2x2, 0, none⟩) 2 2, .slice (some ⟨a2x3, 0, none⟩) 2 2] 57) = w27 at *
 generalize w26.heap.size = k2 at *
 refine (conce_any _ _ _ KR2 (by simp)).mono ?_
 rintro e w28 ⟨v2, rfl, hW, hT, hx28⟩
 obtain ⟨o2, n2, c2, rfl⟩ := txns_slice hT
 have e2 : onceL [((.slice (some ⟨a2x0, 0, none⟩) 1 1), [⟨true, 0, 1⟩]), ((.slice (some ⟨a2x1, 0, none⟩) 1 1), [⟨true, 1, 2⟩]), ((.slice (some ⟨a2x2, 0, none⟩) 2 2), [⟨false, 0, 1⟩, ⟨false, 1, 0⟩]), ((.slice (some ⟨a2x3, 0, none⟩) 2 2), [⟨false, 1, 2⟩, ⟨false, 0, 0⟩])] ([((.slice (some ⟨a2x0, 0, none⟩) 1 1), [⟨true, 0, 1⟩]), ((.slice (some ⟨a2x1, 0, none⟩) 1 1), [⟨true, 1, 2⟩]), ((.slice (some ⟨a2x2, 0, none⟩) 2 2), [⟨false, 0, 1⟩, ⟨false, 1, 0⟩]), ((.slice (some ⟨a2x3, 0, none⟩) 2 2), [⟨false, 1, 2⟩, ⟨false, 0, 0⟩])] : List KOp).length = catN 2 (fun (j : Nat) => ([.slice (some ⟨a2x0, 0, none⟩) 1 1, .slice (some ⟨a2x1, 0, none⟩) 1 1, .slice (some ⟨a2x2, 0, none⟩) 2 2, .slice (some ⟨a2x3, 0, none⟩) 2 2] : List Value).getD j undef) := by kernel_rfl
 have hI : CatH w28 w.heap.size (.slice o2 n2 c2) (onceL [((.slice (some ⟨a2x0, 0, none⟩) 1 1), [⟨true, 0, 1⟩]), ((.slice (some ⟨a2x1, 0, none⟩) 1 1), [⟨true, 1, 2⟩]), ((.slice (some ⟨a2x2, 0, none⟩) 2 2), [⟨false, 0, 1⟩, ⟨false, 1, 0⟩]), ((.slice (some ⟨a2x3, 0, none⟩) 2 2), [⟨false, 1, 2⟩, ⟨false, 0, 0⟩])] ([((.slice (some ⟨a2x0, 0, none⟩) 1 1), [⟨true, 0, 1⟩]), ((.slice (some ⟨a2x1, 0, none⟩) 1 1), [⟨true, 1, 2⟩]), ((.slice (some ⟨a2x2, 0, none⟩) 2 2), [⟨false, 0, 1⟩, ⟨false, 1, 0⟩]), ((.slice (some ⟨a2x3, 0, none⟩) 2 2), [⟨false, 1, 2⟩, ⟨false, 0, 0⟩])] : List KOp).length) := ⟨own_base' hW hb.size, conce_own (all_own (⟨O2x0.below hx28, ⟨O2x1.below hx28, ⟨O2x2.below hx28, ⟨O2x3.below hx28, trivial⟩⟩⟩⟩))⟩
 rw [e2] at hI
 generalize (fun (j : Nat) => ([.slice (some ⟨a2x0, 0, none⟩) 1 1, .slice (some ⟨a2x1, 0, none⟩) 1 1, .slice (some ⟨a2x2, 0, none⟩) 2 2, .slice (some ⟨a2x3, 0, none⟩) 2 2] : List Value).getD j undef) = u2 at hI
 have T0 := T0.below hx28
 have T1 := T1.below hx28
 have hb := below_then hb hx28
 have T2 := hI
 clear hI hT hW hx28 KR2 e2 O2x0 O2x1 O2x2 O2x3
 go_wp2_with fail
 refine (read_any 0 0 w28).mono ?_
 rintro e w29 ⟨rfl, hx29⟩
 have T0 := T0.below hx29
 have T1 := T1.below hx29
 have T2 := T2.below hx29
 have hb := below_then hb hx29
 clear hx29
 go_wp2_with fail
 refine (write_op 0 1 w29).mono ?_
 rintro e w30 ⟨rfl, hx30⟩
 have T0 := T0.below hx30
 have T1 := T1.below hx30
 have T2 := T2.below hx30
 have hb := below_then hb hx30
 clear hx30
 have O3x0 : Own (w30.alloc (.cells #[.bool false, .int .i64 0, .int .i64 0, .bool true, .int .i64 0, .int .i64 1] 56)) w.heap.size (.slice (some ⟨w30.heap.size, 0, none⟩) 2 2) [⟨false, 0, 0⟩, ⟨true, 0, 1⟩] := World.ownsRow_lit (base := w.heap.size) (e := 56) (size := 3) w30 #[.bool false, .int .i64 0, .int .i64 0, .bool true, .int .i64 0, .int .i64 1] 2 hb.size (by decide) rfl
 have T0 := T0.below (box_below w30 (.cells #[.bool false, .int .i64 0, .int .i64 0, .bool true, .int .i64 0, .int .i64 1] 56))
 have T1 := T1.below (box_below w30 (.cells #[.bool false, .int .i64 0, .int .i64 0, .bool true, .int .i64 0, .int .i64 1] 56))
 have T2 := T2.below (box_below w30 (.cells #[.bool false, .int .i64 0, .int .i64 0, .bool true, .int .i64 0, .int .i64 1] 56))
 have hb := below_then hb (box_below w30 (.cells #[.bool false, .int .i64 0, .int .i64 0, .bool true, .int .i64 0, .int .i64 1] 56))
 go_wp2_with fail
 generalize w30.alloc (.cells #[.bool false, .int .i64 0, .int .i64 0, .bool true, .int .i64 0, .int .i64 1] 56) = w31 at *
 generalize w30.heap.size = a3x0 at *
 refine (crow_any _ _ _ _).mono ?_
 rintro e wq ⟨rfl, rfl⟩
 go_wp2_with fail
 refine (read_any 0 0 w31).mono ?_
 rintro e w32 ⟨rfl, hx32⟩
 have T0 := T0.below hx32
 have T1 := T1.below hx32
 have T2 := T2.below hx32
 have O3x0 := O3x0.below hx32
 have hb := below_then hb hx32
 clear hx32
 go_wp2_with fail
 refine (write_op 0 2 w32).mono ?_
 rintro e w33 ⟨rfl, hx33⟩
 have T0 := T0.below hx33
 have T1 := T1.below hx33
 have T2 := T2.below hx33
 have O3x0 := O3x0.below hx33
 have hb := below_then hb hx33
 clear hx33
 have O3x1 : Own (w33.alloc (.cells #[.bool false, .int .i64 0, .int .i64 0, .bool true, .int .i64 0, .int .i64 2] 56)) w.heap.size (.slice (some ⟨w33.heap.size, 0, none⟩) 2 2) [⟨false, 0, 0⟩, ⟨true, 0, 2⟩] := World.ownsRow_lit (base := w.heap.size) (e := 56) (size := 3) w33 #[.bool false, .int .i64 0, .int .i64 0, .bool true, .int .i64 0, .int .i64 2] 2 hb.size (by decide) rfl
 have T0 := T0.below (box_below w33 (.cells #[.bool false, .int .i64 0, .int .i64 0, .bool true, .int .i64 0, .int .i64 2] 56))
 have T1 := T1.below (box_below w33 (.cells #[.bool false, .int .i64 0, .int .i64 0, .bool true, .int .i64 0, .int .i64 2] 56))
 have T2 := T2.below (box_below w33 (.cells #[.bool false, .int .i64 0, .int .i64 0, .bool true, .int .i64 0, .int .i64 2] 56))
 have O3x0 := O3x0.below (box_below w33 (.cells #[.bool false, .int .i64 0, .int .i64 0, .bool true, .int .i64 0, .int .i64 2] 56))
 have hb := below_then hb (box_below w33 (.cells #[.bool false, .int .i64 0, .int .i64 0, .bool true, .int .i64 0, .int .i64 2] 56))
 go_wp2_with fail
 generalize w33.alloc (.cells #[.bool false, .int .i64 0, .int .i64 0, .bool true, .int .i64 0, .int .i64 2] 56) = w34 at *
 generalize w33.heap.size = a3x1 at *
 refine (crow_any _ _ _ _).mono ?_
 rintro e wq ⟨rfl, rfl⟩
 have T0 := T0.below (box_below w34 (.cells #[.slice (some ⟨a3x0, 0, none⟩) 2 2, .slice (some ⟨a3x1, 0, none⟩) 2 2] 57))
 have T1 := T1.below (box_below w34 (.cells #[.slice (some ⟨a3x0, 0, none⟩) 2 2, .slice (some ⟨a3x1, 0, none⟩) 2 2] 57))
 have T2 := T2.below (box_below w34 (.cells #[.slice (some ⟨a3x0, 0, none⟩) 2 2, .slice (some ⟨a3x1, 0, none⟩) 2 2] 57))
 have O3x0 := O3x0.below (box_below w34 (.cells #[.slice (some ⟨a3x0, 0, none⟩) 2 2, .slice (some ⟨a3x1, 0, none⟩) 2 2] 57))
 have O3x1 := O3x1.below (box_below w34 (.cells #[.slice (some ⟨a3x0, 0, none⟩) 2 2, .slice (some ⟨a3x1, 0, none⟩) 2 2] 57))
 have hb := below_then hb (box_below w34 (.cells #[.slice (some ⟨a3x0, 0, none⟩) 2 2, .slice (some ⟨a3x1, 0, none⟩) 2 2] 57))
 have KR3 : KRows (w34.alloc (.cells #[.slice (some ⟨a3x0, 0, none⟩) 2 2, .slice (some ⟨a3x1, 0, none⟩) 2 2] 57)) (.slice (some ⟨w34.heap.size, 0, none⟩) 2 2) [((.slice (some ⟨a3x0, 0, none⟩) 2 2), [⟨false, 0, 0⟩, ⟨true, 0, 1⟩]), ((.slice (some ⟨a3x1, 0, none⟩) 2 2), [⟨false, 0, 0⟩, ⟨true, 0, 2⟩])] := ⟨Row.of_owns (World.ownsRow_lit (base := 0) (e := 57) (size := 1) w34 #[.slice (some ⟨a3x0, 0, none⟩) 2 2, .slice (some ⟨a3x1, 0, none⟩) 2 2] 2 (Nat.zero_le _) (by decide) rfl), krows_all (⟨O3x0.ops, ⟨O3x1.ops, trivial⟩⟩)⟩
 go_wp2_with fail
 generalize w34.alloc (.cells #[.slice (some ⟨a3x0, 0, none⟩) 2 2, .slice (some ⟨a3x1, 0, none⟩) 2 2] 57) = w35 at *
 generalize w34.heap.size = k3 at *
 refine (conce_any _ _ _ KR3 (by simp)).mono ?_
 rintro e w36 ⟨v3, rfl, hW, hT, hx36⟩
 obtain ⟨o3, n3, c3, rfl⟩ := txns_slice hT
 have e3 : onceL [((.slice (some ⟨a3x0, 0, none⟩) 2 2), [⟨false, 0, 0⟩, ⟨true, 0, 1⟩]), ((.slice (some ⟨a3x1, 0, none⟩) 2 2), [⟨false, 0, 0⟩, ⟨true, 0, 2⟩])] ([((.slice (some ⟨a3x0, 0, none⟩) 2 2), [⟨false, 0, 0⟩, ⟨true, 0, 1⟩]), ((.slice (some ⟨a3x1, 0, none⟩) 2 2), [⟨false, 0, 0⟩, ⟨true, 0, 2⟩])] : List KOp).length = catN 3 (fun (j : Nat) => ([.slice (some ⟨a3x0, 0, none⟩) 2 2, .slice (some ⟨a3x1, 0, none⟩) 2 2] : List Value).getD j undef) := by kernel_rfl
 have hI : CatH w36 w.heap.size (.slice o3 n3 c3) (onceL [((.slice (some ⟨a3x0, 0, none⟩) 2 2), [⟨false, 0, 0⟩, ⟨true, 0, 1⟩]), ((.slice (some ⟨a3x1, 0, none⟩) 2 2), [⟨false, 0, 0⟩, ⟨true, 0, 2⟩])] ([((.slice (some ⟨a3x0, 0, none⟩) 2 2), [⟨false, 0, 0⟩, ⟨true, 0, 1⟩]), ((.slice (some ⟨a3x1, 0, none⟩) 2 2), [⟨false, 0, 0⟩, ⟨true, 0, 2⟩])] : List KOp).length) := ⟨own_base' hW hb.size, conce_own (all_own (⟨O3x0.below hx36, ⟨O3x1.below hx36, trivial⟩⟩))⟩
 rw [e3] at hI
 generalize (fun (j : Nat) => ([.slice (some ⟨a3x0, 0, none⟩) 2 2, .slice (some ⟨a3x1, 0, none⟩) 2 2] : List Value).getD j undef) = u3 at hI
 have T0 := T0.below hx36
 have T1 := T1.below hx36
 have T2 := T2.below hx36
 have hb := below_then hb hx36
 have T3 := hI
 clear hI hT hW hx36 KR3 e3 O3x0 O3x1
 go_wp2_with fail
 refine (read_any 1 0 w36).mono ?_
 rintro e w37 ⟨rfl, hx37⟩
 have T0 := T0.below hx37
 have T1 := T1.below hx37
 have T2 := T2.below hx37
 have T3 := T3.below hx37
 have hb := below_then hb hx37
 clear hx37
 go_wp2_with fail
 refine (write_op 0 1 w37).mono ?_
 rintro e w38 ⟨rfl, hx38⟩
 have T0 := T0.below hx38
 have T1 := T1.below hx38
 have T2 := T2.below hx38
 have T3 := T3.below hx38
 have hb := below_then hb hx38
 clear hx38
 have O4x0 : Own (w38.alloc (.cells #[.bool false, .int .i64 1, .int .i64 0, .bool true, .int .i64 0, .int .i64 1] 56)) w.heap.size (.slice (some ⟨w38.heap.size, 0, none⟩) 2 2) [⟨false, 1, 0⟩, ⟨true, 0, 1⟩] := World.ownsRow_lit (base := w.heap.size) (e := 56) (size := 3) w38 #[.bool false, .int .i64 1, .int .i64 0, .bool true, .int .i64 0, .int .i64 1] 2 hb.size (by decide) rfl
 have T0 := T0.below (box_below w38 (.cells #[.bool false, .int .i64 1, .int .i64 0, .bool true, .int .i64 0, .int .i64 1] 56))
 have T1 := T1.below (box_below w38 (.cells #[.bool false, .int .i64 1, .int .i64 0, .bool true, .int .i64 0, .int .i64 1] 56))
 have T2 := T2.below (box_below w38 (.cells #[.bool false, .int .i64 1, .int .i64 0, .bool true, .int .i64 0, .int .i64 1] 56))
 have T3 := T3.below (box_below w38 (.cells #[.bool false, .int .i64 1, .int .i64 0, .bool true, .int .i64 0, .int .i64 1] 56))
 have hb := below_then hb (box_below w38 (.cells #[.bool false, .int .i64 1, .int .i64 0, .bool true, .int .i64 0, .int .i64 1] 56))
 go_wp2_with fail
 generalize w38.alloc (.cells #[.bool false, .int .i64 1, .int .i64 0, .bool true, .int .i64 0, .int .i64 1] 56) = w39 at *
 generalize w38.heap.size = a4x0 at *
 refine (crow_any _ _ _ _).mono ?_
 rintro e wq ⟨rfl, rfl⟩
 go_wp2_with fail
 refine (read_any 0 0 w39).mono ?_
 rintro e w40 ⟨rfl, hx40⟩
 have T0 := T0.below hx40
 have T1 := T1.below hx40
 have T2 := T2.below hx40
 have T3 := T3.below hx40
 have O4x0 := O4x0.below hx40
 have hb := below_then hb hx40
 clear hx40
 go_wp2_with fail
 refine (write_op 1 2 w40).mono ?_
 rintro e w41 ⟨rfl, hx41⟩
 have T0 := T0.below hx41
 have T1 := T1.below hx41
 have T2 := T2.below hx41
 have T3 := T3.below hx41
 have O4x0 := O4x0.below hx41
 have hb := below_then hb hx41
 clear hx41
 have O4x1 : Own (w41.alloc (.cells #[.bool false, .int .i64 0, .int .i64 0, .bool true, .int .i64 1, .int .i64 2] 56)) w.heap.size (.slice (some ⟨w41.heap.size, 0, none⟩) 2 2) [⟨false, 0, 0⟩, ⟨true, 1, 2⟩] := World.ownsRow_lit (base := w.heap.size) (e := 56) (size := 3) w41 #[.bool false, .int .i64 0, .int .i64 0, .bool true, .int .i64 1, .int .i64 2] 2 hb.size (by decide) rfl
 have T0 := T0.below (box_below w41 (.cells #[.bool false, .int .i64 0, .int .i64 0, .bool true, .int .i64 1, .int .i64 2] 56))
 have T1 := T1.below (box_below w41 (.cells #[.bool false, .int .i64 0, .int .i64 0, .bool true, .int .i64 1, .int .i64 2] 56))
 have T2 := T2.below (box_below w41 (.cells #[.bool false, .int .i64 0, .int .i64 0, .bool true, .int .i64 1, .int .i64 2] 56))
 have T3 := T3.below (box_below w41 (.cells #[.bool false, .int .i64 0, .int .i64 0, .bool true, .int .i64 1, .int .i64 2] 56))
 have O4x0 := O4x0.below (box_below w41 (.cells #[.bool false, .int .i64 0, .int .i64 0, .bool true, .int .i64 1, .int .i64 2] 56))
 have hb := below_then hb (box_below w41 (.cells #[.bool false, .int .i64 0, .int .i64 0, .bool true, .int .i64 1, .int .i64 2] 56))
 go_wp2_with fail
 generalize w41.alloc (.cells #[.bool false, .int .i64 0, .int .i64 0, .bool true, .int .i64 1, .int .i64 2] 56) = w42 at *
 generalize w41.heap.size = a4x1 at *
 refine (crow_any _ _ _ _).mono ?_
 rintro e wq ⟨rfl, rfl⟩
 have T0 := T0.below (box_below w42 (.cells #[.slice (some ⟨a4x0, 0, none⟩) 2 2, .slice (some ⟨a4x1, 0, none⟩) 2 2] 57))
 have T1 := T1.below (box_below w42 (.cells #[.slice (some ⟨a4x0, 0, none⟩) 2 2, .slice (some ⟨a4x1, 0, none⟩) 2 2] 57))
 have T2 := T2.below (box_below w42 (.cells #[.slice (some ⟨a4x0, 0, none⟩) 2 2, .slice (some ⟨a4x1, 0, none⟩) 2 2] 57))
 have T3 := T3.below (box_below w42 (.cells #[.slice (some ⟨a4x0, 0, none⟩) 2 2, .slice (some ⟨a4x1, 0, none⟩) 2 2] 57))
 have O4x0 := O4x0.below (box_below w42 (.cells #[.slice (some ⟨a4x0, 0, none⟩) 2 2, .slice (some ⟨a4x1, 0, none⟩) 2 2] 57))
 have O4x1 := O4x1.below (box_below w42 (.cells #[.slice (some ⟨a4x0, 0, none⟩) 2 2, .slice (some ⟨a4x1, 0, none⟩) 2 2] 57))
 have hb := below_then hb (box_below w42 (.cells #[.slice (some ⟨a4x0, 0, none⟩) 2 2, .slice (some ⟨a4x1, 0, none⟩) 2 2] 57))
 have KR4 : KRows (w42.alloc (.cells #[.slice (some ⟨a4x0, 0, none⟩) 2 2, .slice (some ⟨a4x1, 0, none⟩) 2 2] 57)) (.slice (some ⟨w42.heap.size, 0, none⟩) 2 2) [((.slice (some ⟨a4x0, 0, none⟩) 2 2), [⟨false, 1, 0⟩, ⟨true, 0, 1⟩]), ((.slice (some ⟨a4x1, 0, none⟩) 2 2), [⟨false, 0, 0⟩, ⟨true, 1, 2⟩])] := ⟨Row.of_owns (World.ownsRow_lit (base := 0) (e := 57) (size := 1) w42 #[.slice (some ⟨a4x0, 0, none⟩) 2 2, .slice (some ⟨a4x1, 0, none⟩) 2 2] 2 (Nat.zero_le _) (by decide) rfl), krows_all (⟨O4x0.ops, ⟨O4x1.ops, trivial⟩⟩)⟩
 go_wp2_with fail
 generalize w42.alloc (.cells #[.slice (some ⟨a4x0, 0, none⟩) 2 2, .slice (some ⟨a4x1, 0, none⟩) 2 2] 57) = w43 at *
 generalize w42.heap.size = k4 at *
 refine (conce_any _ _ _ KR4 (by simp)).mono ?_
 rintro e w44 ⟨v4, rfl, hW, hT, hx44⟩
 obtain ⟨o4, n4, c4, rfl⟩ := txns_slice hT
 have e4 : onceL [((.slice (some ⟨a4x0, 0, none⟩) 2 2), [⟨false, 1, 0⟩, ⟨true, 0, 1⟩]), ((.slice (some ⟨a4x1, 0, none⟩) 2 2), [⟨false, 0, 0⟩, ⟨true, 1, 2⟩])] ([((.slice (some ⟨a4x0, 0, none⟩) 2 2), [⟨false, 1, 0⟩, ⟨true, 0, 1⟩]), ((.slice (some ⟨a4x1, 0, none⟩) 2 2), [⟨false, 0, 0⟩, ⟨true, 1, 2⟩])] : List KOp).length = catN 4 (fun (j : Nat) => ([.slice (some ⟨a4x0, 0, none⟩) 2 2, .slice (some ⟨a4x1, 0, none⟩) 2 2] : List Value).getD j undef) := by kernel_rfl
 have hI : CatH w44 w.heap.size (.slice o4 n4 c4) (onceL [((.slice (some ⟨a4x0, 0, none⟩) 2 2), [⟨false, 1, 0⟩, ⟨true, 0, 1⟩]), ((.slice (some ⟨a4x1, 0, none⟩) 2 2), [⟨false, 0, 0⟩, ⟨true, 1, 2⟩])] ([((.slice (some ⟨a4x0, 0, none⟩) 2 2), [⟨false, 1, 0⟩, ⟨true, 0, 1⟩]), ((.slice (some ⟨a4x1, 0, none⟩) 2 2), [⟨false, 0, 0⟩, ⟨true, 1, 2⟩])] : List KOp).length) := ⟨own_base' hW hb.size, conce_own (all_own (⟨O4x0.below hx44, ⟨O4x1.below hx44, trivial⟩⟩))⟩
 rw [e4] at hI
 generalize (fun (j : Nat) => ([.slice (some ⟨a4x0, 0, none⟩) 2 2, .slice (some ⟨a4x1, 0, none⟩) 2 2] : List Value).getD j undef) = u4 at hI
 have T0 := T0.below hx44
 have T1 := T1.below hx44
 have T2 := T2.below hx44
 have T3 := T3.below hx44
 have hb := below_then hb hx44
 have T4 := hI
 clear hI hT hW hx44 KR4 e4 O4x0 O4x1
 go_wp2_with fail
 refine (write_op 0 1 w44).mono ?_
 rintro e w45 ⟨rfl, hx45⟩
 have T0 := T0.below hx45
 have T1 := T1.below hx45
 have T2 := T2.below hx45
 have T3 := T3.below hx45
 have T4 := T4.below hx45
 have hb := below_then hb hx45
 clear hx45
 have O5x0 : Own (w45.alloc (.cells #[.bool true, .int .i64 0, .int .i64 1] 56)) w.heap.size (.slice (some ⟨w45.heap.size, 0, none⟩) 1 1) [⟨true, 0, 1⟩] := World.ownsRow_lit (base := w.heap.size) (e := 56) (size := 3) w45 #[.bool true, .int .i64 0, .int .i64 1] 1 hb.size (by decide) rfl
 have T0 := T0.below (box_below w45 (.cells #[.bool true, .int .i64 0, .int .i64 1] 56))
 have T1 := T1.below (box_below w45 (.cells #[.bool true, .int .i64 0, .int .i64 1] 56))
 have T2 := T2.below (box_below w45 (.cells #[.bool true, .int .i64 0, .int .i64 1] 56))
 have T3 := T3.below (box_below w45 (.cells #[.bool true, .int .i64 0, .int .i64 1] 56))
 have T4 := T4.below (box_below w45 (.cells #[.bool true, .int .i64 0, .int .i64 1] 56))
 have hb := below_then hb (box_below w45 (.cells #[.bool true, .int .i64 0, .int .i64 1] 56))
 go_wp2_with fail
 generalize w45.alloc (.cells #[.bool true, .int .i64 0, .int .i64 1] 56) = w46 at *
 generalize w45.heap.size = a5x0 at *
 refine (crow_any _ _ _ _).mono ?_
 rintro e wq ⟨rfl, rfl⟩
 go_wp2_with fail
 refine (read_any 0 0 w46).mono ?_
 rintro e w47 ⟨rfl, hx47⟩
 have T0 := T0.below hx47
 have T1 := T1.below hx47
 have T2 := T2.below hx47
 have T3 := T3.below hx47
 have T4 := T4.below hx47
 have O5x0 := O5x0.below hx47
 have hb := below_then hb hx47
 clear hx47
 have O5x1 : Own (w47.alloc (.cells #[.bool false, .int .i64 0, .int .i64 0] 56)) w.heap.size (.slice (some ⟨w47.heap.size, 0, none⟩) 1 1) [⟨false, 0, 0⟩] := World.ownsRow_lit (base := w.heap.size) (e := 56) (size := 3) w47 #[.bool false, .int .i64 0, .int .i64 0] 1 hb.size (by decide) rfl
 have T0 := T0.below (box_below w47 (.cells #[.bool false, .int .i64 0, .int .i64 0] 56))
 have T1 := T1.below (box_below w47 (.cells #[.bool false, .int .i64 0, .int .i64 0] 56))
 have T2 := T2.below (box_below w47 (.cells #[.bool false, .int .i64 0, .int .i64 0] 56))
 have T3 := T3.below (box_below w47 (.cells #[.bool false, .int .i64 0, .int .i64 0] 56))
 have T4 := T4.below (box_below w47 (.cells #[.bool false, .int .i64 0, .int .i64 0] 56))
 have O5x0 := O5x0.below (box_below w47 (.cells #[.bool false, .int .i64 0, .int .i64 0] 56))
 have hb := below_then hb (box_below w47 (.cells #[.bool false, .int .i64 0, .int .i64 0] 56))
 go_wp2_with fail
 generalize w47.alloc (.cells #[.bool false, .int .i64 0, .int .i64 0] 56) = w48 at *
 generalize w47.heap.size = a5x1 at *
 refine (crow_any _ _ _ _).mono ?_
 rintro e wq ⟨rfl, rfl⟩
 have T0 := T0.below (box_below w48 (.cells #[.slice (some ⟨a5x0, 0, none⟩) 1 1, .slice (some ⟨a5x1, 0, none⟩) 1 1] 57))
 have T1 := T1.below (box_below w48 (.cells #[.slice (some ⟨a5x0, 0, none⟩) 1 1, .slice (some ⟨a5x1, 0, none⟩) 1 1] 57))
 have T2 := T2.below (box_below w48 (.cells #[.slice (some ⟨a5x0, 0, none⟩) 1 1, .slice (some ⟨a5x1, 0, none⟩) 1 1] 57))
 have T3 := T3.below (box_below w48 (.cells #[.slice (some ⟨a5x0, 0, none⟩) 1 1, .slice (some ⟨a5x1, 0, none⟩) 1 1] 57))
 have T4 := T4.below (box_below w48 (.cells #[.slice (some ⟨a5x0, 0, none⟩) 1 1, .slice (some ⟨a5x1, 0, none⟩) 1 1] 57))
 have O5x0 := O5x0.below (box_below w48 (.cells #[.slice (some ⟨a5x0, 0, none⟩) 1 1, .slice (some ⟨a5x1, 0, none⟩) 1 1] 57))
 have O5x1 := O5x1.below (box_below w48 (.cells #[.slice (some ⟨a5x0, 0, none⟩) 1 1, .slice (some ⟨a5x1, 0, none⟩) 1 1] 57))
 have hb := below_then hb (box_below w48 (.cells #[.slice (some ⟨a5x0, 0, none⟩) 1 1, .slice (some ⟨a5x1, 0, none⟩) 1 1] 57))
 have KR5 : KRows (w48.alloc (.cells #[.slice (some ⟨a5x0, 0, none⟩) 1 1, .slice (some ⟨a5x1, 0, none⟩) 1 1] 57)) (.slice (some ⟨w48.heap.size, 0, none⟩) 2 2) [((.slice (some ⟨a5x0, 0, none⟩) 1 1), [⟨true, 0, 1⟩]), ((.slice (some ⟨a5x1, 0, none⟩) 1 1), [⟨false, 0, 0⟩])] := ⟨Row.of_owns (World.ownsRow_lit (base := 0) (e := 57) (size := 1) w48 #[.slice (some ⟨a5x0, 0, none⟩) 1 1, .slice (some ⟨a5x1, 0, none⟩) 1 1] 2 (Nat.zero_le _) (by decide) rfl), krows_all (⟨O5x0.ops, ⟨O5x1.ops, trivial⟩⟩)⟩
 go_wp2_with fail
 generalize w48.alloc (.cells #[.slice (some ⟨a5x0, 0, none⟩) 1 1, .slice (some ⟨a5x1, 0, none⟩) 1 1] 57) = w49 at *
 generalize w48.heap.size = k5 at *
 refine (cturn2_any _ _ _ KR5 (by simp)).mono ?_
 rintro e w50 ⟨v5, rfl, hW, hT, hx50⟩
 obtain ⟨o5, n5, c5, rfl⟩ := txns_slice hT
 have e5 : turn2 [((.slice (some ⟨a5x0, 0, none⟩) 1 1), [⟨true, 0, 1⟩]), ((.slice (some ⟨a5x1, 0, none⟩) 1 1), [⟨false, 0, 0⟩])] ([((.slice (some ⟨a5x0, 0, none⟩) 1 1), [⟨true, 0, 1⟩]), ((.slice (some ⟨a5x1, 0, none⟩) 1 1), [⟨false, 0, 0⟩])] : List KOp).length = catN 5 (fun (j : Nat) => ([.slice (some ⟨a5x0, 0, none⟩) 1 1, .slice (some ⟨a5x1, 0, none⟩) 1 1] : List Value).getD j undef) := by kernel_rfl
 have hI : CatH w50 w.heap.size (.slice o5 n5 c5) (turn2 [((.slice (some ⟨a5x0, 0, none⟩) 1 1), [⟨true, 0, 1⟩]), ((.slice (some ⟨a5x1, 0, none⟩) 1 1), [⟨false, 0, 0⟩])] ([((.slice (some ⟨a5x0, 0, none⟩) 1 1), [⟨true, 0, 1⟩]), ((.slice (some ⟨a5x1, 0, none⟩) 1 1), [⟨false, 0, 0⟩])] : List KOp).length) := ⟨own_base' hW hb.size, cturn2_own (all_own (⟨O5x0.below hx50, ⟨O5x1.below hx50, trivial⟩⟩))⟩
 rw [e5] at hI
 generalize (fun (j : Nat) => ([.slice (some ⟨a5x0, 0, none⟩) 1 1, .slice (some ⟨a5x1, 0, none⟩) 1 1] : List Value).getD j undef) = u5 at hI
 have T0 := T0.below hx50
 have T1 := T1.below hx50
 have T2 := T2.below hx50
 have T3 := T3.below hx50
 have T4 := T4.below hx50
 have hb := below_then hb hx50
 have T5 := hI
 clear hI hT hW hx50 KR5 e5 O5x0 O5x1
 have T0 := T0.below (box_below w50 (.cells #[.string ⟨#[111, 119, 110, 32, 119, 114, 105, 116, 101, 32, 117, 110, 115, 101, 101, 110]⟩, .slice o0 n0 c0, .int .i64 1, .string ⟨#[99, 97, 117, 115, 101, 32, 117, 110, 115, 101, 101, 110]⟩, .slice o1 n1 c1, .int .i64 2, .string ⟨#[108, 111, 110, 103, 32, 102, 111, 114, 107]⟩, .slice o2 n2 c2, .int .i64 4, .string ⟨#[108, 111, 115, 116, 32, 117, 112, 100, 97, 116, 101]⟩, .slice o3 n3 c3, .int .i64 8, .string ⟨#[119, 114, 105, 116, 101, 32, 115, 107, 101, 119]⟩, .slice o4 n4 c4, .int .i64 16, .string ⟨#[115, 116, 97, 108, 101, 32, 114, 101, 97, 100]⟩, .slice o5 n5 c5, .int .i64 32] 50))
 have T1 := T1.below (box_below w50 (.cells #[.string ⟨#[111, 119, 110, 32, 119, 114, 105, 116, 101, 32, 117, 110, 115, 101, 101, 110]⟩, .slice o0 n0 c0, .int .i64 1, .string ⟨#[99, 97, 117, 115, 101, 32, 117, 110, 115, 101, 101, 110]⟩, .slice o1 n1 c1, .int .i64 2, .string ⟨#[108, 111, 110, 103, 32, 102, 111, 114, 107]⟩, .slice o2 n2 c2, .int .i64 4, .string ⟨#[108, 111, 115, 116, 32, 117, 112, 100, 97, 116, 101]⟩, .slice o3 n3 c3, .int .i64 8, .string ⟨#[119, 114, 105, 116, 101, 32, 115, 107, 101, 119]⟩, .slice o4 n4 c4, .int .i64 16, .string ⟨#[115, 116, 97, 108, 101, 32, 114, 101, 97, 100]⟩, .slice o5 n5 c5, .int .i64 32] 50))
 have T2 := T2.below (box_below w50 (.cells #[.string ⟨#[111, 119, 110, 32, 119, 114, 105, 116, 101, 32, 117, 110, 115, 101, 101, 110]⟩, .slice o0 n0 c0, .int .i64 1, .string ⟨#[99, 97, 117, 115, 101, 32, 117, 110, 115, 101, 101, 110]⟩, .slice o1 n1 c1, .int .i64 2, .string ⟨#[108, 111, 110, 103, 32, 102, 111, 114, 107]⟩, .slice o2 n2 c2, .int .i64 4, .string ⟨#[108, 111, 115, 116, 32, 117, 112, 100, 97, 116, 101]⟩, .slice o3 n3 c3, .int .i64 8, .string ⟨#[119, 114, 105, 116, 101, 32, 115, 107, 101, 119]⟩, .slice o4 n4 c4, .int .i64 16, .string ⟨#[115, 116, 97, 108, 101, 32, 114, 101, 97, 100]⟩, .slice o5 n5 c5, .int .i64 32] 50))
 have T3 := T3.below (box_below w50 (.cells #[.string ⟨#[111, 119, 110, 32, 119, 114, 105, 116, 101, 32, 117, 110, 115, 101, 101, 110]⟩, .slice o0 n0 c0, .int .i64 1, .string ⟨#[99, 97, 117, 115, 101, 32, 117, 110, 115, 101, 101, 110]⟩, .slice o1 n1 c1, .int .i64 2, .string ⟨#[108, 111, 110, 103, 32, 102, 111, 114, 107]⟩, .slice o2 n2 c2, .int .i64 4, .string ⟨#[108, 111, 115, 116, 32, 117, 112, 100, 97, 116, 101]⟩, .slice o3 n3 c3, .int .i64 8, .string ⟨#[119, 114, 105, 116, 101, 32, 115, 107, 101, 119]⟩, .slice o4 n4 c4, .int .i64 16, .string ⟨#[115, 116, 97, 108, 101, 32, 114, 101, 97, 100]⟩, .slice o5 n5 c5, .int .i64 32] 50))
 have T4 := T4.below (box_below w50 (.cells #[.string ⟨#[111, 119, 110, 32, 119, 114, 105, 116, 101, 32, 117, 110, 115, 101, 101, 110]⟩, .slice o0 n0 c0, .int .i64 1, .string ⟨#[99, 97, 117, 115, 101, 32, 117, 110, 115, 101, 101, 110]⟩, .slice o1 n1 c1, .int .i64 2, .string ⟨#[108, 111, 110, 103, 32, 102, 111, 114, 107]⟩, .slice o2 n2 c2, .int .i64 4, .string ⟨#[108, 111, 115, 116, 32, 117, 112, 100, 97, 116, 101]⟩, .slice o3 n3 c3, .int .i64 8, .string ⟨#[119, 114, 105, 116, 101, 32, 115, 107, 101, 119]⟩, .slice o4 n4 c4, .int .i64 16, .string ⟨#[115, 116, 97, 108, 101, 32, 114, 101, 97, 100]⟩, .slice o5 n5 c5, .int .i64 32] 50))
 have T5 := T5.below (box_below w50 (.cells #[.string ⟨#[111, 119, 110, 32, 119, 114, 105, 116, 101, 32, 117, 110, 115, 101, 101, 110]⟩, .slice o0 n0 c0, .int .i64 1, .string ⟨#[99, 97, 117, 115, 101, 32, 117, 110, 115, 101, 101, 110]⟩, .slice o1 n1 c1, .int .i64 2, .string ⟨#[108, 111, 110, 103, 32, 102, 111, 114, 107]⟩, .slice o2 n2 c2, .int .i64 4, .string ⟨#[108, 111, 115, 116, 32, 117, 112, 100, 97, 116, 101]⟩, .slice o3 n3 c3, .int .i64 8, .string ⟨#[119, 114, 105, 116, 101, 32, 115, 107, 101, 119]⟩, .slice o4 n4 c4, .int .i64 16, .string ⟨#[115, 116, 97, 108, 101, 32, 114, 101, 97, 100]⟩, .slice o5 n5 c5, .int .i64 32] 50))
 have hb := below_then hb (box_below w50 (.cells #[.string ⟨#[111, 119, 110, 32, 119, 114, 105, 116, 101, 32, 117, 110, 115, 101, 101, 110]⟩, .slice o0 n0 c0, .int .i64 1, .string ⟨#[99, 97, 117, 115, 101, 32, 117, 110, 115, 101, 101, 110]⟩, .slice o1 n1 c1, .int .i64 2, .string ⟨#[108, 111, 110, 103, 32, 102, 111, 114, 107]⟩, .slice o2 n2 c2, .int .i64 4, .string ⟨#[108, 111, 115, 116, 32, 117, 112, 100, 97, 116, 101]⟩, .slice o3 n3 c3, .int .i64 8, .string ⟨#[119, 114, 105, 116, 101, 32, 115, 107, 101, 119]⟩, .slice o4 n4 c4, .int .i64 16, .string ⟨#[115, 116, 97, 108, 101, 32, 114, 101, 97, 100]⟩, .slice o5 n5 c5, .int .i64 32] 50))
 have hn := heap_alloc_new w50 (.cells #[.string ⟨#[111, 119, 110, 32, 119, 114, 105, 116, 101, 32, 117, 110, 115, 101, 101, 110]⟩, .slice o0 n0 c0, .int .i64 1, .string ⟨#[99, 97, 117, 115, 101, 32, 117, 110, 115, 101, 101, 110]⟩, .slice o1 n1 c1, .int .i64 2, .string ⟨#[108, 111, 110, 103, 32, 102, 111, 114, 107]⟩, .slice o2 n2 c2, .int .i64 4, .string ⟨#[108, 111, 115, 116, 32, 117, 112, 100, 97, 116, 101]⟩, .slice o3 n3 c3, .int .i64 8, .string ⟨#[119, 114, 105, 116, 101, 32, 115, 107, 101, 119]⟩, .slice o4 n4 c4, .int .i64 16, .string ⟨#[115, 116, 97, 108, 101, 32, 114, 101, 97, 100]⟩, .slice o5 n5 c5, .int .i64 32] 50)
 have HF := hid (cat_made w50 50 (fun i => if i = 0 then .slice o0 n0 c0 else if i = 1 then .slice o1 n1 c1 else if i = 2 then .slice o2 n2 c2 else if i = 3 then .slice o3 n3 c3 else if i = 4 then .slice o4 n4 c4 else .slice o5 n5 c5))
 have HTT := hid (And.intro T0 (And.intro T1 (And.intro T2 (And.intro T3 (And.intro T4 T5)))))
 clear T0 T1 T2 T3 T4 T5 hn
 go_wp2_with fail
 go_ret
 refine ⟨⟨_, (fun i => if i = 0 then .slice o0 n0 c0 else if i = 1 then .slice o1 n1 c1 else if i = 2 then .slice o2 n2 c2 else if i = 3 then .slice o3 n3 c3 else if i = 4 then .slice o4 n4 c4 else .slice o5 n5 c5), (fun i => if i = 0 then u0 else if i = 1 then u1 else if i = 2 then u2 else if i = 3 then u3 else if i = 4 then u4 else u5), rfl, HF.out, fun i hi => ?_⟩, hb⟩
 obtain ⟨T0, T1, T2, T3, T4, T5⟩ := HTT.out
 rcases (by omega : i = 0 ∨ i = 1 ∨ i = 2 ∨ i = 3 ∨ i = 4 ∨ i = 5) with rfl | rfl | rfl | rfl | rfl | rfl
 ·exact T0
 ·exact T1
 ·exact T2
 ·exact T3
 ·exact T4
 ·exact T5
end

section
open Go.RowKit
structure EntAt (w : World) (g : Nat) (s : ByteArray) (v : Value) (m : Int) : Prop where
 c0 : w.cell? ⟨g, 0, none⟩ = some (.string s)
 c1 : w.cell? ⟨g, 1, none⟩ = some v
 c2 : w.cell? ⟨g, 2, none⟩ = some (.int .i64 m)
 f0 : w.frozen? ⟨g, 0, none⟩ = false
 f1 : w.frozen? ⟨g, 1, none⟩ = false
 f2 : w.frozen? ⟨g, 2, none⟩ = false
theorem EntAt.made (w : World) (s : ByteArray) (v : Value) (m : Int) (t : TypeId) : EntAt (w.alloc (.cells #[.string s, v, .int .i64 m] t)) w.heap.size s v m := by
 have hn := heap_alloc_new w (.cells #[.string s, v, .int .i64 m] t)
 refine ⟨?_, ?_, ?_, frozen_of_row _ _ _ _ _ hn, frozen_of_row _ _ _ _ _ hn, frozen_of_row _ _ _ _ _ hn⟩ <;> (rw [cell_of_row _ _ _ _ _ _ hn]; rfl)
section
variable {w w' : World} {g : Nat} {s : ByteArray} {v : Value} {m : Int}
end
end

section
open Go.RowKit
def cat0 (i : Nat) : OpV := if i = 3 then ⟨false, 0, 0⟩ else if i = 4 then ⟨false, 1, 0⟩ else ⟨true, 0, 1⟩
theorem cat_head {i : Nat} (hi : i < 6) (u : Nat → Value) : ∃ t r l, catN i u = t :: r ∧ t.l = cat0 i :: l := by
 rcases (by omega : i = 0 ∨ i = 1 ∨ i = 2 ∨ i = 3 ∨ i = 4 ∨ i = 5) with rfl | rfl | rfl | rfl | rfl | rfl <;> exact ⟨_, _, _, rfl, rfl⟩
structure CatZ (w : World) (b0 gr go n0 c0 : Nat) (o : OpV) : Prop where
 r3 : w.cell? ⟨gr, 3, none⟩ = some (.slice (some ⟨go, 0, none⟩) n0 c0)
 o0 : w.cell? ⟨go, 0, none⟩ = some (.bool o.wr)
 o1 : w.cell? ⟨go, 1, none⟩ = some (.int .i64 o.key)
 o2 : w.cell? ⟨go, 2, none⟩ = some (.int .i64 o.val)
 fr : w.frozen? ⟨go, 2, none⟩ = false
 lr : b0 ≤ gr
 lo : b0 ≤ go
 ne : gr ≠ go
 n1 : 0 < n0
theorem CatH.first {w : World} {b0 nn cc i : Nat} {oo : Option Addr} {u : Nat → Value} (hi : i < 6) (q : CatH w b0 (.slice oo nn cc) (catN i u)) : ∃ gr go n0 c0, oo = some ⟨gr, 0, none⟩ ∧ 0 < nn ∧ CatZ w b0 gr go n0 c0 (cat0 i) := by
 obtain ⟨t, r, l, hh, hl⟩ := cat_head hi u
 obtain ⟨q1, q2⟩ := q
 rw [hh] at q1 q2
 have hO := q2 t (List.mem_cons_self ..)
 rw [hl] at hO
 have hrow := Row.of_owns hO
 have hlt := World.ownsRow.lt hO
 obtain ⟨g, cap, hv, _⟩ := Own.head hO
 rw [hv] at hrow hlt
 obtain ⟨_, ao, cap', e, _, _, hc⟩ := hrow
 cases e
 obtain ⟨b, off, e, hcell⟩ := hc (by simp)
 cases e
 have e0 := hcell 0 (by simp)
 have e1 := hcell 1 (by simp; omega)
 have e2 := hcell 2 (by simp; omega)
 have hfr : w.frozen? ⟨g, 2, none⟩ = false := by
  rcases hO.2 with ⟨_, e⟩ | ⟨g', cap', cur, e1', e2', hb, _⟩
  ·cases e
  ·rw [hv] at e1'
   cases e1'
   simp [World.frozen?, hb]
 have q1' := q1
 rcases q1.2 with ⟨_, e⟩ | ⟨gr, cap2, cur2, e1', e2', hb2, _⟩
 ·cases e
 ·cases e1'
  have h3 := (OwnT.at q1' (j := 3) (by simp; omega)).1
  have hap := owns_apart hO q1' (by decide)
  rw [hv] at hap
  refine ⟨gr, g, l.length + 1, cap, rfl, by simp, h3.trans (by simp [txV, hv]), by simpa [opV, OpV.v] using e0, by simpa [opV, OpV.v] using e1, by simpa [opV, OpV.v] using e2, hfr, (World.ownsRow.lt q1' gr rfl).1, (hlt g rfl).1, fun e => ?_, by omega⟩
  rcases hap with hap | hap
  ·simp [Value.ownBlock] at hap
  ·exact hap (by simp [Value.ownBlock, e])
end

section
open Go.RowKit
theorem and_pow : ∀ (x : Fin 64) (i : Fin 6), (bits .and .i64 (x.val : Int) ((2 ^ i.val : Nat) : Int) == 0) = !x.val.testBit i.val := by decide +kernel
def catR (i : Nat) : Nat → Bool := fun l => !(clN (askN (l : Int))).testBit i
theorem cat_weak : ∀ i : Fin 6, 1 ≤ (wkTo (catR i.val) 12).length := by decide +kernel
theorem any_same {α : Type} {p q : α → Bool} : ∀ (l : List α), (∀ a ∈ l, p a = q a) → l.any p = l.any q
 | [], _ => rfl
 | a :: l, h => by rw [List.any_cons, List.any_cons, h a (List.mem_cons_self ..), any_same l fun b hb => h b (List.mem_cons_of_mem _ hb)]
theorem strTo_same {r s : Nat → Bool} (h : ∀ i, i < 12 → r i = s i) : strTo r 12 = strTo s 12 := by
 unfold strTo
 refine List.filter_congr fun b hb => ?_
 have hb := List.mem_range.1 hb
 rw [h b hb]
 congr 2
 unfold abv abvTo
 exact any_same _ fun a ha => by rw [h a (List.mem_range.1 ha)]
theorem wkTo_same {r s : Nat → Bool} (h : ∀ i, i < 12 → r i = s i) : wkTo r 12 = wkTo s 12 := by
 unfold wkTo
 refine List.filter_congr fun b hb => ?_
 have hb := List.mem_range.1 hb
 rw [h b hb]
 congr 2
 unfold byd bydTo
 exact any_same _ fun a ha => by rw [h a (List.mem_range.1 ha)]
theorem cat_row {i : Nat} (hi : i < 6) (u : Nat → Value) : ∀ l, l < 12 → accV (catN i u) l = catR i l := fun _ hl => cat_acc hi u hl
theorem cat_shut {i : Nat} (hi : i < 6) : cls (catR i) = true := by
 have h := acc_cls (h := catN i fun _ => .nilIface) (cat_check hi _)
 rw [cls_iff] at h ⊢
 intro a b ha hb
 rw [← cat_row hi (fun _ => .nilIface) a ha, ← cat_row hi (fun _ => .nilIface) b hb]
 exact h a b ha hb
theorem wcat10_walk (y : Nat) (w : World) (hy : y < 256) (ht : Tab w) (hK : Kinds w) :
  Calls Tryz.prog 8 #[.int .u8 y] w fun e w' => e = .returned (.bool true) ∧ Below w.heap.size w w' := by
 have hg := ht.pos
 have HT : Hid (∀ wx, Below w.heap.size w wx → Tab wx ∧ Kinds wx) := hid (fun wx hb => ⟨ht.below hb hg, hK.below hb⟩)
 have CL := hid (fun wx => call_any wx)
 obtain ⟨i, hi⟩ : ∃ i : Nat, (y : Int) % 6 = (i : Int) := ⟨y % 6, by omega⟩
 have hi6 : i < 6 := by omega
 clear ht hK
 go_enter Tryz.func8, Tryz.ntmps8
 go_wp2_with fail
 refine (CL.out _).mono ?_
 rintro e w2 ⟨⟨g, vs, us, rfl, hC, hH⟩, hb2⟩
 obtain ⟨c0, c1, c2⟩ := hC i hi6
 have hH := hH i hi6
 obtain ⟨oo, nn, cc, hv⟩ := txns_slice hH.txns
 rw [hv] at c1 hH
 generalize us i = u at *
 obtain ⟨gr, go, n0, k0, rfl, hnn, hZ⟩ := hH.first hi6
 have hd0 : decide ((i : Int) < 0) = false := decide_eq_false (by omega)
 have hd1 : decide ((6 : Int) ≤ (i : Int)) = false := decide_eq_false (by omega)
 have hd2 : decide (6 ≤ i) = false := decide_eq_false (by omega)
 have HAND := hid (fun (x : Nat) (hx : x < 64) => and_pow ⟨x, hx⟩ ⟨i, hi6⟩)
 have HMI0 : Hid (∀ mi : Int, ((2 ^ i : Nat) : Int) = mi → ∀ x : Nat, x < 64 → (bits .and .i64 (x : Int) mi == 0) = !x.testBit i) := hid (fun mi e x hx => by subst e; exact HAND.out x hx)
 generalize hmi : ((2 ^ i : Nat) : Int) = mi at *
 have HMI := hid (HMI0.out mi rfl)
 clear HAND HMI0
 generalize hs : catS i = s at *
 have hE := EntAt.made w2 s (.slice (some ⟨gr, 0, none⟩) nn cc) mi 50
 have hx := box_below w2 (.cells #[.string s, .slice (some ⟨gr, 0, none⟩) nn cc, .int .i64 mi] 50)
 have hb3 := below_then hb2 hx
 have hH := hH.below hx
 clear hb2 hC hv hx hmi hs CL hZ
 go_upto_region 5 with fail
 generalize w2.alloc (.cells #[.string s, .slice (some ⟨gr, 0, none⟩) nn cc, .int .i64 mi] 50) = w3 at *
 generalize w2.heap.size = g3 at *
 obtain ⟨e0, e1, e2, _, _, _⟩ := hE
 have CP := hid (lplace_ok _ (catN i u) w3 hH.txns (cat_ok hi6 u) (cat_short hi6 u) (cat_check hi6 u) (HT.out _ hb3).1 (HT.out _ hb3).2 (vec_few (by have := cat_len hi6 u; omega)))
 have hb33 := Below.refl w3.heap.size w3
 rw [strTo_same (cat_row hi6 u), wkTo_same (cat_row hi6 u)] at CP
 have HSH : Hid (cls (catR i) = true) := hid (cat_shut hi6)
 have hwk := cat_weak ⟨i, hi6⟩
 have HRK : Hid (∀ l : Nat, l < 12 → (bits .and .i64 ((clI ((askN (l : Int) : Nat) : Int) : Nat) : Int) mi == 0) = catR i l) := hid (fun l _ => by
  rw [HMI.out _ (clI_lt _), clI_ask]; rfl)
 simp only at hwk
 clear hH HMI c0 c1 c2
 generalize catR i = r at *
 go_wp2_with fail
 refine CP.out.mono ?_
 rintro e w4 ⟨⟨v1, v2, rfl, hO⟩, h4⟩
 obtain ⟨a1, n1, k1, rfl⟩ := pos_form hO.1
 obtain ⟨a2, k2, rfl⟩ := own_form hO.2
 generalize hn2 : (wkTo r 12).length = n2 at *
 have hx5 := box_below w4 (.cells #[.slice a1 n1 k1, .slice a2 n2 k2] 26)
 have hP := heap_alloc_new w4 (.cells #[.slice a1 n1 k1, .slice a2 n2 k2] 26)
 have c0 : (w4.alloc (.cells #[.slice a1 n1 k1, .slice a2 n2 k2] 26)).cell? ⟨w4.heap.size, 0, none⟩ = some (.slice a1 n1 k1) := by simp only [World.cell?, hP]; rfl
 have c1 : (w4.alloc (.cells #[.slice a1 n1 k1, .slice a2 n2 k2] 26)).cell? ⟨w4.heap.size, 1, none⟩ = some (.slice a2 n2 k2) := by simp only [World.cell?, hP]; rfl
 have h35 := below_then h4 hx5
 have hb5 := below_then hb3 h35
 have hO5 := hO.below hx5
 have e2 := (h35.cell (p := ⟨g3, 2, none⟩) (block_lt e2)).trans e2
 clear CP h4 hx5 hP hb3 hO h35 hb33 e0 e1 hn2
 go_upto_region 6 with fail
 generalize w4.alloc (.cells #[.slice a1 n1 k1, .slice a2 n2 k2] 26) = w5 at *
 generalize w4.heap.size = g5 at *
 have hg3 : g3 < w5.heap.size := block_lt e2
 have HE2 := hid (fun wx (hx : Below w5.heap.size w5 wx) => (hx.cell (p := ⟨g3, 2, none⟩) hg3).trans e2)
 have h60 : BRow (w5.alloc (.cells #[.bool false, .bool false, .bool false, .bool false, .bool false, .bool false, .bool false, .bool false, .bool false, .bool false, .bool false, .bool false] 33)) w5.heap.size (bvTo r 0) := BRow.made w5 _ rfl (rowB_none.symm.trans (rowB_congr fun i _ => by unfold bvTo; simp [noB]))
 have h6b := (Below.refl w5.heap.size w5).alloc (Nat.le_refl _) (.cells #[.bool false, .bool false, .bool false, .bool false, .bool false, .bool false, .bool false, .bool false, .bool false, .bool false, .bool false, .bool false] 33)
 have HW6 := hid (fun wx (hx : Below w5.heap.size w5 wx) => (HT.out _ (hb5.trans (hx.mono hb5.size))).2)
 clear e2
 go_wp2_with fail
 go_loopw [25] (fun x wr => ∃ k : Nat, k ≤ 12 ∧ x = .int .i64 (k : Int) ∧ BRow wr w5.heap.size (bvTo r k) ∧ Below w5.heap.size w5 wr) (fun x _ => 12 - (intOf x).toNat)
 case atStart => exact ⟨0, by omega, rfl, h60, h6b⟩
 case round =>
 clear h60 h6b
 obtain ⟨k, hk, rfl, h1, hb⟩ := hrel
 by_cases hlt : k < 12
 ·have hki : (k : Int) < 12 := by omega
  have hkd0 : decide ((k : Int) < 0) = false := decide_eq_false (by omega)
  have hkd1 : decide ((12 : Int) ≤ (k : Int)) = false := decide_eq_false (by omega)
  have hkd2 : decide (12 ≤ k) = false := decide_eq_false (by omega)
  go_upto_region 10 with fail
  have kd := (Below.refl wr.heap.size wr).drew
  have hbd := hb.trans (kd.mono hb.size)
  have h1 := h1.below kd h1.lt
  have e2d := HE2.out _ hbd
  have HKD := hid hbd
  have hc1 := h1.cell hlt
  have hf1 := h1.free k
  have H1 := hid (fun v => h1.store k v)
  have HB := hid (fun v => hbd.setCell (p := ⟨w5.heap.size, k, none⟩) (by show w5.heap.size ≤ w5.heap.size; omega) (.bool v))
  have HV : Hid (rSet (bvTo r k) k (r k) = bvTo r (k + 1)) := hid (by
   cases e : r k with
   | true => exact bvTo_hit e
   | false =>
    rw [bvTo_miss e]
    funext i
    unfold rSet bvTo
    by_cases e2 : i = k
    ·subst e2; simp
    ·rw [if_neg e2])
  have hrk := HRK.out k hlt
  have CA := hid (fun wx (hx : Kinds wx) => lasks_any (k : Int) wx hx)
  have CC := hid (fun wx => lclosed_any ((askN (k : Int) : Nat) : Int) wx)
  generalize clI ((askN (k : Int) : Nat) : Int) = X at *
  generalize askN (k : Int) = Y at *
  generalize hb0 : r k = b at *
  have HS9 : Hid (∀ v, ((wr.drew).setCell ⟨w5.heap.size, k, none⟩ v).cell? ⟨g3, 2, none⟩ = some (.int .i64 mi)) := hid (fun v => by rw [World.cell?_setCell_other _ _ _ _ (fun q => by injection q with q1 q2; omega)]; exact e2d)
  clear kd hbd h1 hb hb0
  refine wp_region_held_drew (S := fun wx => wx.cell? ⟨g3, 2, none⟩ = some (.int .i64 mi)) (by kernel_rfl) e2d (fun hS0 => ?_)
  generalize wr.drew = wd at *
  refine tG (some 28) 0 ?vwc0x1 rfl rfl (Or.inl ⟨by rfl, ?hwc0x1⟩) hS0 ?rwc0x1
  case hwc0x1 => (intro w hw; go_simp; try (with_reducible rfl))
  try simp only [Act.put, zA, zB, zC]
  refine tG (some 29) 1 ?vwc1x2 rfl rfl (Or.inl ⟨by rfl, ?hwc1x2⟩) hS0 ?rwc1x2
  case hwc1x2 => (intro w hw; go_simp; try (with_reducible rfl))
  try simp only [Act.put, zA, zB, zC]
  refine tG (some 32) 4 ?vwc4x3 rfl rfl (Or.inl ⟨by rfl, ?hwc4x3⟩) hS0 ?rwc4x3
  case hwc4x3 => (intro w hw; go_simp; try (with_reducible rfl))
  try simp only [Act.put, zA, zB, zC]
  refine tG (some 33) 5 ?vwc5x4 rfl rfl (Or.inl ⟨by rfl, ?hwc5x4⟩) hS0 ?rwc5x4
  case hwc5x4 => (intro w hw; go_simp; try (with_reducible rfl))
  try simp only [Act.put, zA, zB, zC]
  refine rD 2 rfl (fun K hK => ?_)
  go_simp
  refine (CA.out _ (HW6.out _ HKD.out)).mono ?_
  rintro e wq ⟨rfl, rfl⟩
  show K _ _
  refine hK.out _ _ hS0 (fun _ => ?_)
  clear hK K
  refine rD 3 rfl (fun K hK => ?_)
  go_simp
  refine (CC.out _).mono ?_
  rintro e wq ⟨rfl, rfl⟩
  show K _ _
  refine hK.out _ _ hS0 (fun _ => ?_)
  clear hK K
  refine tG (some 34) 6 ?vwc6x7 rfl rfl (Or.inl ⟨by rfl, ?hwc6x7⟩) hS0 ?rwc6x7
  case hwc6x7 => (intro w hw; go_simp; try (with_reducible rfl))
  try simp only [Act.put, zA, zB, zC]
  refine tG (some 35) 7 ?vwc7x8 rfl rfl (Or.inl ⟨by rfl, ?hwc7x8⟩) hS0 ?rwc7x8
  case hwc7x8 => (intro w hw; go_simp; try (with_reducible rfl))
  try simp only [Act.put, zA, zB, zC]
  refine tG (some 36) 8 ?vwc8x9 rfl rfl (Or.inl ⟨by rfl, ?hwc8x9⟩) hS0 ?rwc8x9
  case hwc8x9 => (intro w hw; go_simp; try (with_reducible rfl))
  try simp only [Act.put, zA, zB, zC]
  refine rD 9 rfl (fun K hK => ?_)
  go_simp
  refine hK.out _ _ (HS9.out _) (fun _ => ?_)
  clear hK K
  refine wpAnyH_done (by kernel_rfl) ?_ _
  have hz1 := H1.out b
  have hzb := HB.out b
  clear H1 HB HS9 CA CC
  go_wp2_with fail
  go_roundw
  case rel => exact ⟨k + 1, by omega, by go_num, HV.out ▸ hz1, hzb⟩
  case measure => simp [intOf]; omega
 obtain rfl : k = 12 := by omega
 have h1 := h1.congr (bvTo_all r)
 have hb7 := hb5.trans (hb.mono hb5.size)
 have c0 := (hb.cell (p := ⟨g5, 0, none⟩) (block_lt c0)).trans c0
 have c1 := (hb.cell (p := ⟨g5, 1, none⟩) (block_lt c1)).trans c1
 have hO7 := hO5.below hb
 clear hb HE2 HW6 HRK hO5
 go_upto_region 12 with fail
 generalize wr = w7 at *
 have kd := (Below.refl w7.heap.size w7).drew
 have HS := hid (fun wx (hx : Below w7.heap.size w7 wx) => (show wx.cell? ⟨g5, 0, none⟩ = some (.slice a1 n1 k1) ∧ wx.cell? ⟨g5, 1, none⟩ = some (.slice a2 n2 k2) ∧ BRow wx w5.heap.size r from ⟨(hx.cell (p := ⟨g5, 0, none⟩) (block_lt c0)).trans c0, (hx.cell (p := ⟨g5, 1, none⟩) (block_lt c1)).trans c1, h1.below hx h1.lt⟩))
 have HW := hid (fun wx (hx : Below w7.heap.size w7 wx) => below_then hb7 hx)
 have HQ : Hid (rowB (blw (stI r)) = rowB r) := hid (blw_shut HSH.out)
 have CR := hid (fun wx (hx : Below w7.heap.size w7 wx) => by have q := hO7.row (HT.out _ (HW.out _ hx)).2 hx; rw [HQ.out] at q; exact q)
 have CT := hid (fun wx (hx : Below w7.heap.size w7 wx) => hO7.text (HT.out _ (HW.out _ hx)).2 hx)
 have CL := hid (fun wx (hx : Below w7.heap.size w7 wx) => latof_any r wx (HT.out _ (HW.out _ hx)).2)
 have HKD := hid kd
 have G0 := fun (x y : Operand) (w : World) => guard_rowB .eql x y r r w
 have E0 := fun (w : World) => run_eql_rowB r w
 have hwki : (1 : Int) ≤ (n2 : Int) := by omega
 clear kd c0 c1 h1 hO7 hb7 HQ HSH
 refine wp_region_held_drew (S := fun wx => wx.cell? ⟨g5, 0, none⟩ = some (.slice a1 n1 k1) ∧ wx.cell? ⟨g5, 1, none⟩ = some (.slice a2 n2 k2) ∧ BRow wx w5.heap.size r) (by kernel_rfl) (HS.out _ HKD.out) (fun hS0 => ?_)
 generalize w7.drew = wd0 at *
 refine tG (some 38) 0 ?vwd0x1 rfl rfl (Or.inl ⟨by rfl, ?hwd0x1⟩) hS0 ?rwd0x1
 case hwd0x1 => (intro w hw; obtain ⟨m0, m1, _⟩ := hw; go_simp; try (with_reducible rfl))
 try simp only [Act.put, zA, zB, zC]
 refine tG (some 39) 1 ?vwd1x2 rfl rfl (Or.inl ⟨by rfl, ?hwd1x2⟩) hS0 ?rwd1x2
 case hwd1x2 => (intro w hw; obtain ⟨m0, m1, _⟩ := hw; go_simp; try (with_reducible rfl))
 try simp only [Act.put, zA, zB, zC]
 refine tG (some 40) 2 ?vwd2x3 rfl rfl (Or.inl ⟨by rfl, ?hwd2x3⟩) hS0 ?rwd2x3
 case hwd2x3 => (intro w hw; obtain ⟨m0, m1, _⟩ := hw; go_simp; try (with_reducible rfl))
 try simp only [Act.put, zA, zB, zC]
 refine tG (some 41) 3 ?vwd3x4 rfl rfl (Or.inl ⟨by rfl, ?hwd3x4⟩) hS0 ?rwd3x4
 case hwd3x4 => (intro w hw; obtain ⟨m0, m1, _⟩ := hw; go_simp; try (with_reducible rfl))
 try simp only [Act.put, zA, zB, zC]
 refine tG (some 43) 5 _ rfl rfl (yields_load_rowB (by rfl) _ rfl rfl (fun _ hw => hw.2.2)) hS0 ?_
 try simp only [Act.put, zA, zB, zC]
 refine rD 4 rfl (fun K hK => ?_)
 go_simp
 refine (CR.out _ HKD.out).mono ?_
 rintro e wa ⟨rfl, hxwa⟩
 have HKD := hid (below_then HKD.out hxwa)
 have swa := HS.out _ HKD.out
 show K _ _
 refine hK.out _ _ swa (fun _ => ?_)
 clear hK K
 refine tG (some 44) 6 ?vwd6x7 rfl rfl (Or.inl ⟨by rfl, ?hwd6x7⟩) swa ?rwd6x7
 case hwd6x7 => (intro w hw; obtain ⟨m0, m1, _⟩ := hw; go_simp; try (with_reducible rfl))
 try simp only [Act.put, zA, zB, zC]
 refine tG (some 45) 7 ?vwd7x8 rfl rfl (Or.inl ⟨by rfl, ?hwd7x8⟩) swa ?rwd7x8
 case hwd7x8 => (intro w hw; obtain ⟨m0, m1, _⟩ := hw; go_simp; try (with_reducible rfl))
 try simp only [Act.put, zA, zB, zC]
 refine tG (some 46) 8 ?vwd8x9 rfl rfl (Or.inl ⟨by rfl, ?hwd8x9⟩) swa ?rwd8x9
 case hwd8x9 => (intro w hw; obtain ⟨m0, m1, _⟩ := hw; go_simp; try (with_reducible rfl))
 try simp only [Act.put, zA, zB, zC]
 refine tG (some 47) 9 ?vwd9x10 rfl rfl (Or.inl ⟨by rfl, ?hwd9x10⟩) swa ?rwd9x10
 case hwd9x10 => (intro w hw; obtain ⟨m0, m1, _⟩ := hw; go_simp; try (with_reducible rfl))
 try simp only [Act.put, zA, zB, zC]
 refine tG (some 49) 11 _ rfl rfl (yields_load_rowB (by rfl) _ rfl rfl (fun _ hw => hw.2.2)) swa ?_
 try simp only [Act.put, zA, zB, zC]
 refine rD 10 rfl (fun K hK => ?_)
 go_simp
 refine (CT.out _ HKD.out).mono ?_
 rintro e wb ⟨rfl, hxwb⟩
 have HKD := hid (below_then HKD.out hxwb)
 have swb := HS.out _ HKD.out
 show K _ _
 refine hK.out _ _ swb (fun _ => ?_)
 clear hK K
 refine rD 12 rfl (fun K hK => ?_)
 go_simp
 refine (CL.out _ HKD.out).mono ?_
 rintro e wc ⟨u1, u2, rfl, hO2, hxwc⟩
 have HKD := hid (below_then HKD.out hxwc)
 have swc := HS.out _ HKD.out
 show K _ _
 refine hK.out _ _ swc (fun _ => ?_)
 clear hK K
 refine rD 13 rfl (fun K hK => ?_)
 have CT2 := hid (hO2.text (HT.out _ (HW.out _ HKD.out)).2 (Below.refl _ _))
 obtain ⟨b1, m1, j1, rfl⟩ := pos_form hO2.1
 obtain ⟨b2, m2, j2, rfl⟩ := pos_form hO2.2
 go_simp
 refine CT2.out.mono ?_
 rintro e we ⟨rfl, hxwe⟩
 have HKD := hid (below_then HKD.out hxwe)
 have swd := HS.out _ HKD.out
 show K _ _
 refine hK.out _ _ swd (fun _ => ?_)
 clear hK K CT2
 refine tG (some 52) 14 ?vwd14x15 rfl rfl (Or.inl ⟨by rfl, ?hwd14x15⟩) swd ?rwd14x15
 case hwd14x15 => (intro w hw; obtain ⟨m0, m1, _⟩ := hw; go_simp; try (with_reducible rfl))
 try simp only [Act.put, zA, zB, zC]
 refine tG (some 53) 15 ?vwd15x16 rfl rfl (Or.inl ⟨by rfl, ?hwd15x16⟩) swd ?rwd15x16
 case hwd15x16 => (intro w hw; obtain ⟨m0, m1, _⟩ := hw; go_simp; try (with_reducible rfl))
 try simp only [Act.put, zA, zB, zC]
 refine tG (some 54) 16 ?vwd16x17 rfl rfl (Or.inl ⟨by rfl, ?hwd16x17⟩) swd ?rwd16x17
 case hwd16x17 => (intro w hw; obtain ⟨m0, m1, _⟩ := hw; go_simp; try (with_reducible rfl))
 try simp only [Act.put, zA, zB, zC]
 refine tG (some 55) 17 ?vwd17x18 rfl rfl (Or.inl ⟨by rfl, ?hwd17x18⟩) swd ?rwd17x18
 case hwd17x18 => (intro w hw; obtain ⟨m0, m1, _⟩ := hw; go_simp; try (with_reducible rfl))
 try simp only [Act.put, zA, zB, zC]
 refine tG (some 56) 18 ?vwd18x19 rfl rfl (Or.inl ⟨by rfl, ?hwd18x19⟩) swd ?rwd18x19
 case hwd18x19 => (intro w hw; obtain ⟨m0, m1, _⟩ := hw; go_simp; try (with_reducible rfl))
 try simp only [Act.put, zA, zB, zC]
 refine tG (some 57) 19 ?vwd19x20 rfl rfl (Or.inl ⟨by rfl, ?hwd19x20⟩) swd ?rwd19x20
 case hwd19x20 => (intro w hw; obtain ⟨m0, m1, _⟩ := hw; go_simp; try (with_reducible rfl))
 try simp only [Act.put, zA, zB, zC]
 refine tG (some 58) 20 ?vwd20x21 rfl rfl (Or.inl ⟨by rfl, ?hwd20x21⟩) swd ?rwd20x21
 case hwd20x21 => (intro w hw; obtain ⟨m0, m1, _⟩ := hw; go_simp; try (with_reducible rfl))
 try simp only [Act.put, zA, zB, zC]
 refine tG (some 59) 21 ?vwd21x22 rfl rfl (Or.inl ⟨by rfl, ?hwd21x22⟩) swd ?rwd21x22
 case hwd21x22 => (intro w hw; obtain ⟨m0, m1, _⟩ := hw; go_simp; try (with_reducible rfl))
 try simp only [Act.put, zA, zB, zC]
 refine tG (some 2) 22 ?vwd22x23 rfl rfl (Or.inl ⟨by rfl, ?hwd22x23⟩) swd ?rwd22x23
 case hwd22x23 => (intro w hw; obtain ⟨m0, m1, _⟩ := hw; go_simp; try (with_reducible rfl))
 try simp only [Act.put, zA, zB, zC]
 refine wpAnyH_done (by kernel_rfl) ?_ _
 have hz := HW.out _ HKD.out
 clear HKD CR CT CL HS
 go_wp2_with fail
 go_ret
 exact ⟨rfl, hz⟩
end

end Go.Proofs.YtadihdkpoeibhaaGreatDoor
