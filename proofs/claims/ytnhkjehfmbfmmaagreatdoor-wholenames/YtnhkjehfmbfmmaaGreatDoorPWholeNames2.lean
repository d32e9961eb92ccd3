/- Walks and plain facts that the proof of the statement WholeNames uses, joined: OrdI HisF HisG OrdJ OrdF OrdK OrdM OrdO OrdAH LeaC OrdY HisH HisI HisJ HisK HisL HisM HisN HisO TxnI TxnJ TxnK HisP OrdR OrdS OrdX HisQ HisR OrdV. Conditions: each theorem's own. -/
import Derived.Deep.MidRow
import Derived.BigQuiet
import Derived.Deep.QuietTactic
import Derived.Deep.RegionHeld
import Derived.Deep.CutRange
import Derived.Laws.StructEq
import Derived.Deep.RegionHeld3
import Derived.Test.YtnhkjehfmbfmmaaGreatDoorPWholeNames0
import Derived.Test.YtnhkjehfmbfmmaaGreatDoorPWholeNames1
namespace Go.Proofs.YtnhkjehfmbfmmaaGreatDoor
set_option maxHeartbeats 32000000
set_option maxRecDepth 100000
set_option linter.unusedSimpArgs false
set_option linter.unusedVariables false
open Lib (hid)
section
open Go.RowKit
def ordF (n : Int) (S T F : Mat) (vm vk vr : Value) (sd : Bool) (i : Nat) : Value :=
 if i = 0 then .int .i64 n else if i < 65 then .int .u64 ((mkS (S (i - 1)) : Nat) : Int) else if i < 129 then .int .u64 ((mkS (T (i - 65)) : Nat) : Int) else if i < 193 then .int .u64 ((mkS (F (i - 129)) : Nat) : Int) else
 if i = 193 then vm else if i = 194 then vk else if i = 195 then vr else .bool sd
def OrdAt (w : World) (B : Nat) (n : Int) (S T F : Mat) (vm vk vr : Value) (sd : Bool) : Prop := ∀ i, i < 197 → w.cell? ⟨B, i, none⟩ = some (ordF n S T F vm vk vr sd i) ∧ w.frozen? ⟨B, i, none⟩ = false
section
variable {w : World} {B : Nat} {n : Int} {S T F : Mat} {vm vk vr : Value} {sd : Bool}
theorem OrdAt.lt (h : OrdAt w B n S T F vm vk vr sd) : B < w.heap.size := block_lt (h 0 (by omega)).1
theorem OrdAt.below {w' : World} {B' : Nat} (h : OrdAt w B n S T F vm vk vr sd) (hb : Below B' w w') (hB : B < B') : OrdAt w' B n S T F vm vk vr sd := fun i hi => by
 rw [hb.cell (p := ⟨B, i, none⟩) hB, hb.frozen (p := ⟨B, i, none⟩) hB]; exact h i hi
theorem OrdAt.alloc (h : OrdAt w B n S T F vm vk vr sd) (o : Obj) : OrdAt (w.alloc o) B n S T F vm vk vr sd := h.below ((Below.refl w.heap.size w).alloc (Nat.le_refl _) o) h.lt
theorem OrdAt.grown {w' : World} {row : Option Nat} (h : OrdAt w B n S T F vm vk vr sd) (hg : w.grownBy w' row) (hne : some B ≠ row) : OrdAt w' B n S T F vm vk vr sd := fun i hi => by
 obtain ⟨h1, h2⟩ := h i hi
 have hb := hg.block B h.lt hne
 have e1 : w'.cell? ⟨B, i, none⟩ = w.cell? ⟨B, i, none⟩ := by simp only [World.cell?]; rw [hb]
 have e2 : w'.frozen? ⟨B, i, none⟩ = w.frozen? ⟨B, i, none⟩ := by simp only [World.frozen?]; rw [hb]
 rw [e1, e2]; exact ⟨h1, h2⟩
theorem OrdAt.cN (h : OrdAt w B n S T F vm vk vr sd) : w.cell? ⟨B, 0, none⟩ = some (.int .i64 n) := (h 0 (by omega)).1
theorem OrdAt.cM (h : OrdAt w B n S T F vm vk vr sd) : w.cell? ⟨B, 193, none⟩ = some vm := (h 193 (by omega)).1
theorem OrdAt.cK (h : OrdAt w B n S T F vm vk vr sd) : w.cell? ⟨B, 194, none⟩ = some vk := (h 194 (by omega)).1
theorem OrdAt.cR (h : OrdAt w B n S T F vm vk vr sd) : w.cell? ⟨B, 195, none⟩ = some vr := (h 195 (by omega)).1
theorem OrdAt.cS (h : OrdAt w B n S T F vm vk vr sd) : w.cell? ⟨B, 196, none⟩ = some (.bool sd) := (h 196 (by omega)).1
theorem OrdAt.free (h : OrdAt w B n S T F vm vk vr sd) {i : Nat} (hi : i < 197) : w.frozen? ⟨B, i, none⟩ = false := (h i hi).2
theorem OrdAt.put (h : OrdAt w B n S T F vm vk vr sd) (k : Nat) (hk : k < 197) (v : Value) {n' : Int} {S' T' F' : Mat} {vm' vk' vr' : Value} {sd' : Bool} (h1 : ordF n' S' T' F' vm' vk' vr' sd' k = v)
  (h2 : ∀ i, i < 197 → i ≠ k → ordF n' S' T' F' vm' vk' vr' sd' i = ordF n S T F vm vk vr sd i) : OrdAt (w.setCell ⟨B, k, none⟩ v) B n' S' T' F' vm' vk' vr' sd' := fun i hi => by
 refine ⟨?_, by rw [World.frozen?_setCell]; exact (h i hi).2⟩
 by_cases e : i = k
 ·subst e
  rw [World.cell?_setCell_same _ _ _ (h i hi).1, h1]
 ·have hne : (⟨B, k, none⟩ : Addr) ≠ ⟨B, i, none⟩ := by
   intro q
   injection q with _ q2
   exact e q2.symm
  rw [World.cell?_setCell_other _ _ _ _ hne, h2 i hi e]
  exact (h i hi).1
theorem OrdAt.setM (h : OrdAt w B n S T F vm vk vr sd) (v : Value) : OrdAt (w.setCell ⟨B, 193, none⟩ v) B n S T F v vk vr sd := h.put 193 (by omega) v rfl (fun i _ e => by unfold ordF; simp [e])
theorem OrdAt.setK (h : OrdAt w B n S T F vm vk vr sd) (v : Value) : OrdAt (w.setCell ⟨B, 194, none⟩ v) B n S T F vm v vr sd := h.put 194 (by omega) v rfl (fun i _ e => by unfold ordF; simp [e])
theorem OrdAt.setR (h : OrdAt w B n S T F vm vk vr sd) (v : Value) : OrdAt (w.setCell ⟨B, 195, none⟩ v) B n S T F vm vk v sd := h.put 195 (by omega) v rfl (fun i _ e => by unfold ordF; simp [e])
theorem OrdAt.setS (h : OrdAt w B n S T F vm vk vr sd) (v : Bool) : OrdAt (w.setCell ⟨B, 196, none⟩ (.bool v)) B n S T F vm vk vr v := h.put 196 (by omega) (.bool v) rfl (fun i hi e => by
 unfold ordF
 by_cases e1 : i < 193
 ·by_cases a0 : i = 0
  ·simp only [a0, if_true]
  ·by_cases a1 : i < 65
   ·simp only [a0, a1, if_true, if_false]
   ·by_cases a2 : i < 129
    ·simp only [a0, a1, a2, if_true, if_false]
    ·simp only [a0, a1, a2, e1, if_true, if_false]
 ·have e3 : i = 193 ∨ i = 194 ∨ i = 195 := by omega
  rcases e3 with rfl | rfl | rfl <;> rfl)
theorem OrdAt.put64 (h : OrdAt w B n S T F vm vk vr sd) (o : Nat) (ho : o + 64 ≤ 197) (R : Mat) {S' T' F' : Mat} (h1 : ∀ j, j < 64 → ordF n S' T' F' vm vk vr sd (o + j) = .int .u64 ((mkS (R j) : Nat) : Int))
  (h2 : ∀ i, i < 197 → (i < o ∨ o + 64 ≤ i) → ordF n S' T' F' vm vk vr sd i = ordF n S T F vm vk vr sd i) : OrdAt (w.setCells B o (rowsA R).toList) B n S' T' F' vm vk vr sd := fun i hi => by
 have hl : (rowsA R).toList.length = 64 := by simp [rowsA_size]
 refine ⟨?_, by rw [World.frozen?_setCells]; exact (h i hi).2⟩
 by_cases e : i < o ∨ o + 64 ≤ i
 ·rw [World.cell?_setCells_out B (rowsA R).toList o w ⟨B, i, none⟩ (fun _ _ => by simp only [hl]; exact e), h2 i hi e]
  exact (h i hi).1
 ·obtain ⟨j, rfl⟩ : ∃ j, i = o + j := ⟨i - o, by omega⟩
  have hj : j < 64 := by omega
  rw [World.cell?_setCells_in B (rowsA R).toList o w (fun q hq => by rw [(h (o + q) (by omega)).1]; rfl) j (by omega), h1 j hj]
  have := rowsA_at R hj
  rw [← Array.getElem?_toList, List.getElem?_eq_getElem (by omega)] at this
  exact this
theorem OrdAt.setS1 (h : OrdAt w B n S T F vm vk vr sd) (R : Mat) : OrdAt (w.setCells B 1 (rowsA R).toList) B n R T F vm vk vr sd := h.put64 1 (by omega) R (fun j hj => by unfold ordF; rw [if_neg (by omega), if_pos (by omega)]; simp) (fun i _ e => by
 unfold ordF
 by_cases e0 : i = 0
 ·simp only [e0, if_true]
 ·have e1 : ¬ i < 65 := by omega
  simp only [e0, e1, if_false])
theorem OrdAt.setT1 (h : OrdAt w B n S T F vm vk vr sd) (R : Mat) : OrdAt (w.setCells B 65 (rowsA R).toList) B n S R F vm vk vr sd := h.put64 65 (by omega) R (fun j hj => by unfold ordF; rw [if_neg (by omega), if_neg (by omega), if_pos (by omega)]; simp) (fun i _ e => by
 unfold ordF
 by_cases e0 : i = 0
 ·simp only [e0, if_true]
 ·by_cases e1 : i < 65
  ·simp only [e0, e1, if_true, if_false]
  ·have e2 : ¬ i < 129 := by omega
   simp only [e0, e1, e2, if_false])
theorem OrdAt.setF1 (h : OrdAt w B n S T F vm vk vr sd) (R : Mat) : OrdAt (w.setCells B 129 (rowsA R).toList) B n S T R vm vk vr sd := h.put64 129 (by omega) R (fun j hj => by unfold ordF; rw [if_neg (by omega), if_neg (by omega), if_neg (by omega), if_pos (by omega)]; simp) (fun i _ e => by
 unfold ordF
 by_cases e0 : i = 0
 ·simp only [e0, if_true]
 ·by_cases e1 : i < 65
  ·simp only [e0, e1, if_true, if_false]
  ·by_cases e2 : i < 129
   ·simp only [e0, e1, e2, if_true, if_false]
   ·have e3 : ¬ i < 193 := by omega
    simp only [e0, e1, e2, e3, if_false])
theorem OrdAt.range (h : OrdAt w B n S T F vm vk vr sd) (o : Nat) (ho : o + 64 ≤ 197) (R : Mat) (h1 : ∀ j, j < 64 → ordF n S T F vm vk vr sd (o + j) = .int .u64 ((mkS (R j) : Nat) : Int)) : w.rangeAt B o (rowsA R).toList := fun j v hv => by
 have hl : (rowsA R).toList.length = 64 := by simp [rowsA_size]
 have hj : j < 64 := by have := (List.getElem?_eq_some_iff.1 hv).1; omega
 rw [Array.getElem?_toList, rowsA_at R hj] at hv
 rw [(h (o + j) (by omega)).1, h1 j hj]; exact hv
theorem OrdAt.rS (h : OrdAt w B n S T F vm vk vr sd) : w.rangeAt B 1 (rowsA S).toList := h.range 1 (by omega) S (fun j hj => by unfold ordF; rw [if_neg (by omega), if_pos (by omega)]; simp)
theorem OrdAt.rT (h : OrdAt w B n S T F vm vk vr sd) : w.rangeAt B 65 (rowsA T).toList := h.range 65 (by omega) T (fun j hj => by unfold ordF; rw [if_neg (by omega), if_neg (by omega), if_pos (by omega)]; simp)
theorem OrdAt.rF (h : OrdAt w B n S T F vm vk vr sd) : w.rangeAt B 129 (rowsA F).toList := h.range 129 (by omega) F (fun j hj => by unfold ordF; rw [if_neg (by omega), if_neg (by omega), if_neg (by omega), if_pos (by omega)]; simp)
theorem OrdAt.there (h : OrdAt w B n S T F vm vk vr sd) (o : Nat) (ho : o + 64 ≤ 197) : w.there B o 64 := fun j hj => by
 obtain ⟨h1, h2⟩ := h (o + j) (by omega)
 exact ⟨by rw [h1]; rfl, h2⟩
end
theorem zeroOrd (n : Int) : (Tryz.zeroCells112.setIfInBounds 0 (.int .i64 n)).setIfInBounds 196 (.bool true) = ((List.range 197).map (ordF n noR noR noR (.map none) (.slice none 0 0) (.slice none 0 0) true)).toArray := by kernel_rfl
theorem OrdAt.made (w : World) (n : Int) (t : TypeId) {B : Nat} {cs : Array Value} (hB : B = w.heap.size) (hc : cs = (Tryz.zeroCells112.setIfInBounds 0 (.int .i64 n)).setIfInBounds 196 (.bool true)) : OrdAt (w.alloc (.cells cs t)) B n noR noR noR (.map none) (.slice none 0 0) (.slice none 0 0) true := by
 subst hB hc
 rw [zeroOrd]
 have hh := heap_alloc_new w (.cells ((List.range 197).map (ordF n noR noR noR (.map none) (.slice none 0 0) (.slice none 0 0) true)).toArray t)
 intro i hi
 refine ⟨?_, frozen_of_row _ _ _ _ _ hh⟩
 rw [cell_of_row _ _ _ _ _ _ hh]
 simp [hi]
end

section
open Go.RowKit
def rdOk (F : Int → Option WV) (o : OpV) : Bool := o.wr || o.val == 0 || (match F o.val with
 | none => false
 | some u => u.key == o.key)
def rowOk (F : Int → Option WV) (l : List OpV) : Bool := l.all (rdOk F)
def valuesB (h : List TxnV) : Bool := okW h && h.all fun t => rowOk (wrTo h h.length) t.l
theorem rowOk_succ (F : Int → Option WV) (l : List OpV) (k : Nat) (hk : k < l.length) : rowOk F (l.take (k + 1)) = (rowOk F (l.take k) && rdOk F l[k]) := by
 unfold rowOk; rw [take_snoc l k hk, List.all_append]; simp
theorem rowOk_no {F : Int → Option WV} {l : List OpV} {k : Nat} (hk : k < l.length) (hn : rdOk F l[k] = false) : rowOk F l = false := by
 unfold rowOk; exact List.all_eq_false.2 ⟨l[k], List.getElem_mem hk, by simp [hn]⟩
theorem valuesB_no {h : List TxnV} {k : Nat} (hk : k < h.length) (hn : rowOk (wrTo h h.length) h[k].l = false) : valuesB h = false := by
 unfold valuesB
 rw [Bool.and_eq_false_iff]
 exact .inr (List.all_eq_false.2 ⟨h[k], List.getElem_mem hk, by simp [hn]⟩)
theorem values_any (va : Value) (h : List TxnV) (w : World) (hT : Txns w va h) (hok : ∀ t ∈ h, t.ok) (hks : ∀ t ∈ h, keysIn t.l) (hn : opsN h ≤ 100000) (hlen : h.length ≤ 100000) :
  Calls Tryz.prog 85 #[va] w fun e w' => e = .returned (.bool (valuesB h)) ∧ Below w.heap.size w w' := by
 obtain ⟨ao, cap, rfl, hal⟩ := hT.form
 have HOK := hid hok
 have CW := hid (hwrites_any _ h w hT hok hks hn hlen)
 clear hok hks
 go_enter Tryz.func85, Tryz.ntmps85
 go_wp2_with fail
 refine (CW.out).mono ?_
 rintro e w1 ⟨hb1, ⟨hno, rfl⟩ | ⟨hyes, B, n0, rfl, hB, hM0⟩⟩
 ·have H : Hid (false = valuesB h) := hid (by unfold valuesB; rw [hno]; rfl)
  clear hno
  go_wp2_with fail
  go_ret
  exact ⟨ret_b H.out, hb1⟩
 have HY := hid hyes
 clear hyes CW
 have HVN : Hid (∀ k, ∀ hk : k < h.length, rowOk (wrTo h h.length) h[k].l = false → valuesB h = false) := hid (fun k hk hh => valuesB_no hk hh)
 have HVY : Hid (h.all (fun t => rowOk (wrTo h h.length) t.l) = true → valuesB h = true) := hid (fun hh => by unfold valuesB; rw [HY.out, hh]; rfl)
 generalize wrTo h h.length = F at *
 generalize (wvH h).length = cnt at *
 go_wp2_with fail
 go_loopw [20] (fun i wr => ∃ k : Nat, k ≤ h.length ∧ i = .int .i64 k ∧ ((h.take k).all (fun t => rowOk F t.l) = true) ∧ MapI eW Tryz.prog 3 wr B n0 F cnt ∧ Below w.heap.size w wr) (fun i _ => h.length - (intOf i).toNat)
 case atStart => exact ⟨0, by omega, rfl, rfl, hM0, hb1⟩
 case round =>
  obtain ⟨k, hk, rfl, hP, hM, hb⟩ := hrel
  have HP := hid hP
  clear hP hM0 hb1
  by_cases hlt : k < h.length
  ·have hki : (k : Int) < (h.length : Int) := by omega
   obtain ⟨g, o, hao, c0, c1, c2, c3⟩ := (hT.below hb).at hlt
   cases hao
   have HS : Hid ((h.take (k + 1)).all (fun t => rowOk F t.l) = ((h.take k).all (fun t => rowOk F t.l) && rowOk F h[k].l)) := hid (by rw [List.take_succ_eq_append_getElem hlt, List.all_append]; simp)
   have HNO := hid (HVN.out k hlt)
   have hOps := fun wx (hx : Below w.heap.size w wx) => (hT.ops hlt).below hx
   have HTK := hid (HOK.out h[k] (List.getElem_mem hlt))
   generalize h[k] = t at *
   obtain ⟨s, b, c, v, l⟩ := t
   simp only at c0 c1 c2 c3 HS HNO hOps HTK
   obtain ⟨ai, capi, rfl, hli⟩ := (hOps w (Below.refl _ _)).form
   have HOP := hid hOps
   have hM1 := hM.alloc (.cells #[.int .i64 s, .int .i64 b, .int .i64 c, .slice ai l.length capi] 83)
   have hbb := hb.alloc hb.size (.cells #[.int .i64 s, .int .i64 b, .int .i64 c, .slice ai l.length capi] 83)
   clear hOps hM hb HVN HVY
   go_wp2_with fail
   generalize wr.alloc (.cells #[.int .i64 s, .int .i64 b, .int .i64 c, .slice ai l.length capi] 83) = w2 at *
   go_loopw [27] (fun i wx => ∃ j : Nat, j ≤ l.length ∧ i = .int .i64 j ∧ rowOk F (l.take j) = true ∧ MapI eW Tryz.prog 3 wx B n0 F cnt ∧ Below w.heap.size w wx) (fun i _ => l.length - (intOf i).toNat)
   case atStart => exact ⟨0, by omega, rfl, rfl, hM1, hbb⟩
   case round =>
    obtain ⟨j, hj, rfl, hR, hM2, hb2⟩ := hrel
    have HR := hid hR
    clear hR hM1 hbb
    by_cases hltj : j < l.length
    ·have hkj : (j : Int) < (l.length : Int) := by omega
     obtain ⟨g2, o2, hao2, e0, e1, e2⟩ := (HOP.out _ hb2).at hltj
     cases hao2
     have HRS := hid (rowOk_succ F l j hltj)
     have HRN := hid (fun hh => rowOk_no (F := F) hltj hh)
     have hox := HTK.out.2 l[j] (List.getElem_mem hltj)
     generalize l[j] = x at *
     obtain ⟨xw, xk, xv⟩ := x
     simp only at e0 e1 e2
     have hkv := inI_of hox.2
     have hM3 := hM2.alloc (.cells #[.bool xw, .int .i64 xk, .int .i64 xv] 79)
     have hb3 := hb2.alloc hb2.size (.cells #[.bool xw, .int .i64 xk, .int .i64 xv] 79)
     clear hox hM2 hb2
     cases xw with
     | true =>
      have H : Hid (rowOk F (l.take (j + 1)) = true) := hid (by rw [HRS.out, HR.out]; rfl)
      clear HRS HRN
      go_wp2_with fail
      go_roundw
      case rel => exact ⟨j + 1, by omega, by go_num, H.out, hM3, hb3⟩
      case measure => simp [intOf]; omega
     | false =>
      by_cases hx0 : xv = 0
      ·subst hx0
       have H : Hid (rowOk F (l.take (j + 1)) = true) := hid (by rw [HRS.out, HR.out]; rfl)
       clear HRS HRN
       go_wp2_with fail
       go_roundw
       case rel => exact ⟨j + 1, by omega, by go_num, H.out, hM3, hb3⟩
       case measure => simp [intOf]; omega
      ·have hx1 : (xv == 0) = false := by simpa using hx0
       have HD : Hid (rdOk F ⟨false, xk, xv⟩ = (match F xv with | none => false | some u => u.key == xk)) := hid (by unfold rdOk; simp only [hx1]; rfl)
       clear hx0
       cases hv : F xv with
       | none =>
        have H : Hid (false = valuesB h) := hid (HNO.out (HRN.out (by rw [HD.out, hv]))).symm
        have hb4 := hb3.alloc hb3.size (.cells #[.int .i64 0, .int .i64 0, .bool false] 165)
        clear HRS HRN HD
        go_wp2_with (first | (at_lookup; refine wpList_lookI_ok _ rfl _ _ 102 rfl 3 165 keyI mapIW wZ (zeroW _) _ _ _ _ rfl hM3 _ rfl hkv ?_; rw [hv]; simp only [Option.getD_none, Option.isSome_none, eW, wZ]) | go_in)
        go_ret
        exact ⟨ret_b H.out, hb4⟩
       | some u =>
        obtain ⟨ui, uk, ul⟩ := u
        have HD2 : Hid (rdOk F ⟨false, xk, xv⟩ = (uk == xk)) := hid (by rw [HD.out, hv])
        have hM4 := hM3.alloc (.cells #[.int .i64 ui, .int .i64 uk, .bool ul] 165)
        have hb4 := hb3.alloc hb3.size (.cells #[.int .i64 ui, .int .i64 uk, .bool ul] 165)
        clear HD
        by_cases huk : uk = xk
        ·subst huk
         have H : Hid (rowOk F (l.take (j + 1)) = true) := hid (by rw [HRS.out, HR.out, HD2.out]; simp)
         have hne : (uk != uk) = false := by simp
         clear HRS HRN HD2
         go_wp2_with (first | (at_lookup; refine wpList_lookI_ok _ rfl _ _ 102 rfl 3 165 keyI mapIW wZ (zeroW _) _ _ _ _ rfl hM3 _ rfl hkv ?_; rw [hv]; simp only [Option.getD_some, Option.isSome_some, eW]) | go_in)
         go_roundw
         case rel => exact ⟨j + 1, by omega, by go_num, H.out, hM4, hb4⟩
         case measure => simp [intOf]; omega
        ·have H : Hid (false = valuesB h) := hid (HNO.out (HRN.out (by rw [HD2.out]; simpa using huk))).symm
         have hne : (uk != xk) = true := by simpa using huk
         clear HRS HRN HD2 huk
         go_wp2_with (first | (at_lookup; refine wpList_lookI_ok _ rfl _ _ 102 rfl 3 165 keyI mapIW wZ (zeroW _) _ _ _ _ rfl hM3 _ rfl hkv ?_; rw [hv]; simp only [Option.getD_some, Option.isSome_some, eW]) | go_in)
         go_ret
         exact ⟨ret_b H.out, hb4⟩
    ·have hj2 : j = l.length := by omega
     subst hj2
     have H : Hid ((h.take (k + 1)).all (fun t => rowOk F t.l) = true) := hid (by have := HR.out; rw [List.take_length] at this; rw [HS.out, HP.out, this]; rfl)
     go_wp2_with fail
     go_roundw
     case rel => exact ⟨k + 1, by omega, by go_num, H.out, hM2, hb2⟩
     case measure => simp [intOf]; omega
  ·have hkl : k = h.length := by omega
   subst hkl
   have H : Hid (true = valuesB h) := hid (HVY.out (by have := HP.out; rw [List.take_length] at this; exact this)).symm
   go_wp2_with fail
   go_ret
   exact ⟨ret_b H.out, hb⟩
end

section
open Go.RowKit
def rightB (h : List TxnV) : Bool := partsB h && (valuesB h && (stampsB h && sesB h))
def checkI (h : List TxnV) : Int := if 64 < h.length ∨ 1024 < opsN h then 3 else if rightB h then 0 else 2
theorem opsN_short : ∀ (h : List TxnV), Short h → opsN h ≤ h.length * 6000000000000
 | [], _ => by simp [opsN]
 | t :: h, hs => by
  have h1 := opsN_short h (fun u hu => hs u (List.mem_cons_of_mem _ hu))
  have h2 := hs t List.mem_cons_self
  unfold opsN at *
  simp only [List.map_cons, List.sum_cons, List.length_cons]
  omega
theorem parts_keys {h : List TxnV} (hp : partsB h = true) : ∀ t ∈ h, keysIn t.l := by
 intro t ht
 have := List.all_eq_true.1 hp t ht
 unfold mayT at this
 simp only [Bool.and_eq_true] at this
 exact allM_keys this.2
theorem hcheck_any (va : Value) (h : List TxnV) (w : World) (hT : Txns w va h) (hok : ∀ t ∈ h, t.ok) (hsh : Short h) :
  Calls Tryz.prog 39 #[va] w fun e w' => e = .returned (.int .i64 (checkI h)) ∧ Below w.heap.size w w' := by
 obtain ⟨ao, cap, rfl, hal⟩ := hT.form
 by_cases hbig : 64 < h.length
 ·have hbig' : (64 : Int) < (h.length : Int) := by omega
  have H : Hid ((3 : Int) = checkI h) := hid (by unfold checkI; rw [if_pos (.inl hbig)])
  go_enter Tryz.func39, Tryz.ntmps39
  go_wp2_with fail
  go_ret
  exact ⟨ret_int H.out, Below.refl _ _⟩
 have hbf : decide ((64 : Int) < (h.length : Int)) = false := by simp; omega
 have hle := opsN_short h hsh
 have CO := hid (hops_any _ h w hT (by omega))
 have HT := hid (fun wx (hx : Below w.heap.size w wx) => hT.below hx)
 have HOK := hid hok
 clear hT hok hsh
 go_enter Tryz.func39, Tryz.ntmps39
 go_wp2_with fail
 refine (CO.out).mono ?_
 rintro e w1 ⟨rfl, hb1⟩
 clear CO
 by_cases hov : 1024 < opsN h
 ·have hov' : (1024 : Int) < (opsN h : Int) := by omega
  have H : Hid ((3 : Int) = checkI h) := hid (by unfold checkI; rw [if_pos (.inr hov)])
  go_wp2_with fail
  go_ret
  exact ⟨ret_int H.out, hb1⟩
 have hov' : decide ((1024 : Int) < (opsN h : Int)) = false := by simp; omega
 have HCK : Hid (checkI h = if rightB h then 0 else 2) := hid (by unfold checkI; rw [if_neg (by omega)])
 have CP := hid (parts_any _ h w1 (HT.out _ hb1))
 cases hp : partsB h
 ·have H : Hid ((2 : Int) = checkI h) := hid (by rw [HCK.out]; unfold rightB; rw [hp]; rfl)
  rw [hp] at CP
  clear hp
  go_wp2_with fail
  refine (CP.out).mono ?_
  rintro e w2 ⟨rfl, hb2⟩
  have hb3 := below_then hb1 hb2
  go_wp2_with fail
  go_ret
  exact ⟨ret_int H.out, hb3⟩
 rw [hp] at CP
 have HKS := hid (parts_keys hp)
 have HR1 : Hid (rightB h = (valuesB h && (stampsB h && sesB h))) := hid (by unfold rightB; rw [hp]; rfl)
 clear hp
 go_wp2_with fail
 refine (CP.out).mono ?_
 rintro e w2 ⟨rfl, hb2⟩
 have hb3 := below_then hb1 hb2
 have CV := hid (values_any _ h w2 (HT.out _ hb3) HOK.out HKS.out (by omega) (by omega))
 clear CP hb1 hb2
 cases hv : valuesB h
 ·have H : Hid ((2 : Int) = checkI h) := hid (by rw [HCK.out, HR1.out, hv]; rfl)
  rw [hv] at CV
  clear hv
  go_wp2_with fail
  refine (CV.out).mono ?_
  rintro e w4 ⟨rfl, hb4⟩
  have hb5 := below_then hb3 hb4
  go_wp2_with fail
  go_ret
  exact ⟨ret_int H.out, hb5⟩
 rw [hv] at CV
 have HR2 : Hid (rightB h = (stampsB h && sesB h)) := hid (by rw [HR1.out, hv]; rfl)
 clear hv HR1
 go_wp2_with fail
 refine (CV.out).mono ?_
 rintro e w4 ⟨rfl, hb4⟩
 have hb5 := below_then hb3 hb4
 have CS := hid (stamps_any _ h w4 (HT.out _ hb5) HOK.out (by omega))
 clear CV hb3 hb4
 cases hs : stampsB h
 ·have H : Hid ((2 : Int) = checkI h) := hid (by rw [HCK.out, HR2.out, hs]; rfl)
  rw [hs] at CS
  clear hs
  go_wp2_with fail
  refine (CS.out).mono ?_
  rintro e w6 ⟨rfl, hb6⟩
  have hb7 := below_then hb5 hb6
  go_wp2_with fail
  go_ret
  exact ⟨ret_int H.out, hb7⟩
 rw [hs] at CS
 have HR3 : Hid (rightB h = sesB h) := hid (by rw [HR2.out, hs]; rfl)
 clear hs HR2
 go_wp2_with fail
 refine (CS.out).mono ?_
 rintro e w6 ⟨rfl, hb6⟩
 have hb7 := below_then hb5 hb6
 have CE := hid (sessions_any _ h w6 (HT.out _ hb7) HOK.out (by omega))
 clear CS hb5 hb6
 cases hse : sesB h
 ·have H : Hid ((2 : Int) = checkI h) := hid (by rw [HCK.out, HR3.out, hse]; rfl)
  rw [hse] at CE
  clear hse
  go_wp2_with fail
  refine (CE.out).mono ?_
  rintro e w8 ⟨rfl, hb8⟩
  have hb9 := below_then hb7 hb8
  go_wp2_with fail
  go_ret
  exact ⟨ret_int H.out, hb9⟩
 ·have H : Hid ((0 : Int) = checkI h) := hid (by rw [HCK.out, HR3.out, hse]; rfl)
  rw [hse] at CE
  clear hse
  go_wp2_with fail
  refine (CE.out).mono ?_
  rintro e w8 ⟨rfl, hb8⟩
  have hb9 := below_then hb7 hb8
  go_wp2_with fail
  go_ret
  exact ⟨ret_int H.out, hb9⟩
end

section
open Go.RowKit
theorem owns_apart {w : World} {b1 b2 : Nat} {e1 e2 : TypeId} {s1 s2 : Nat} {v1 v2 : Value} {n1 n2 : Nat} {x1 x2 : List Value} (h1 : w.ownsRow b1 e1 s1 v1 n1 x1) (h2 : w.ownsRow b2 e2 s2 v2 n2 x2) (he : e1 ≠ e2) : v1.ownBlock = none ∨ v1.ownBlock ≠ v2.ownBlock := by
 obtain ⟨_, h1⟩ := h1
 obtain ⟨_, h2⟩ := h2
 rcases h1 with ⟨rfl, _⟩ | ⟨g1, c1, cur1, rfl, _, hh1, _⟩
 ·exact .inl rfl
 ·right
  rcases h2 with ⟨rfl, _⟩ | ⟨g2, c2, cur2, rfl, _, hh2, _⟩
  ·simp [Value.ownBlock]
  ·intro e
   simp [Value.ownBlock] at e
   subst e
   rw [hh1] at hh2
   injection hh2 with hh2
   injection hh2 with _ hh2
   exact he hh2
theorem owns_cell_any {w : World} {base : Nat} {e : TypeId} {size : Nat} {v : Value} {n : Nat} {xs : List Value} (h : w.ownsRow base e size v n xs) {a : Addr} (hg : a.block < base) (x : Value) : (w.setCell a x).ownsRow base e size v n xs := by
 refine h.kept (row := some a.block) ⟨rfl, rfl, rfl, by simp, fun k hk hne => ?_⟩ ?_
 ·exact heap_setCell_other w a k x (fun e3 => hne (by rw [e3]))
 ·rcases h.2 with ⟨rfl, _⟩ | ⟨g, cap, cur, rfl, hb, _⟩
  ·exact .inl rfl
  ·right
   simp [Value.ownBlock]; omega
theorem owns_cells {base : Nat} {e : TypeId} {size : Nat} {v : Value} {n : Nat} {xs : List Value} {g : Nat} (hg : g < base) : ∀ (vs : List Value) (o : Nat) (w : World), w.ownsRow base e size v n xs → (w.setCells g o vs).ownsRow base e size v n xs
 | [], _, _, h => h
 | x :: r, o, w, h => by rw [World.setCells]; exact owns_cells hg r (o + 1) _ (owns_cell_any h hg x)
abbrev KRow := Value × List Int
abbrev RRow := Value × List (Int × Int)
structure OfR (b : Nat) (w : World) (vk vr : Value) (K : List KRow) (R : List RRow) : Prop where
 kr : w.ownsRow b 24 1 vk K.length (K.map (·.1))
 ke : ∀ p ∈ K, w.ownsRow b 3 1 p.1 p.2.length (p.2.map (Value.int .i64))
 rr : w.ownsRow b 114 1 vr R.length (R.map (·.1))
 re : ∀ p ∈ R, w.ownsRow b 121 2 p.1 p.2.length (frV p.2)
section
variable {b : Nat} {w : World} {vk vr : Value} {K : List KRow} {R : List RRow}
theorem OfR.nil (b : Nat) (w : World) : OfR b w (.slice none 0 0) (.slice none 0 0) [] [] := ⟨World.ownsRow_nil _ _ _ _, fun p hp => (by cases hp), World.ownsRow_nil _ _ _ _, fun p hp => (by cases hp)⟩
theorem OfR.below {w' : World} (h : OfR b w vk vr K R) (hb : Below w.heap.size w w') : OfR b w' vk vr K R := ⟨owns_below h.kr hb, fun p hp => owns_below (h.ke p hp) hb, owns_below h.rr hb, fun p hp => owns_below (h.re p hp) hb⟩
theorem OfR.cell (h : OfR b w vk vr K R) {a : Addr} (ha : a.block < b) (x : Value) : OfR b (w.setCell a x) vk vr K R := ⟨owns_cell_any h.kr ha x, fun p hp => owns_cell_any (h.ke p hp) ha x, owns_cell_any h.rr ha x, fun p hp => owns_cell_any (h.re p hp) ha x⟩
theorem OfR.cells (h : OfR b w vk vr K R) {g : Nat} (hg : g < b) (o : Nat) (vs : List Value) : OfR b (w.setCells g o vs) vk vr K R := ⟨owns_cells hg vs o w h.kr, fun p hp => owns_cells hg vs o w (h.ke p hp), owns_cells hg vs o w h.rr, fun p hp => owns_cells hg vs o w (h.re p hp)⟩
theorem OfR.addK {w2 : World} {o : Obj} {v v' : Value} {l : List Int} (h : OfR b w vk vr K R) (hv : w.ownsRow b 3 1 v l.length (l.map (Value.int .i64))) (hown : w2.ownsRow b 24 1 v' (K.length + 1) (K.map (·.1) ++ [v]))
  (hg : (w.alloc o).grownBy w2 vk.ownBlock) : OfR b w2 v' vr (K ++ [(v, l)]) R := by
 refine ⟨by simpa using hown, fun p hp => ?_, (h.rr.alloc o).kept hg (owns_apart h.rr h.kr (by decide)), fun p hp => ((h.re p hp).alloc o).kept hg (owns_apart (h.re p hp) h.kr (by decide))⟩
 rcases List.mem_append.1 hp with hp | hp
 ·exact ((h.ke p hp).alloc o).kept hg (owns_apart (h.ke p hp) h.kr (by decide))
 ·obtain rfl := List.mem_singleton.1 hp
  exact (hv.alloc o).kept hg (owns_apart hv h.kr (by decide))
theorem OfR.addR {w2 : World} {o : Obj} {v v' : Value} {l : List (Int × Int)} (h : OfR b w vk vr K R) (hv : w.ownsRow b 121 2 v l.length (frV l)) (hown : w2.ownsRow b 114 1 v' (R.length + 1) (R.map (·.1) ++ [v]))
  (hg : (w.alloc o).grownBy w2 vr.ownBlock) : OfR b w2 vk v' K (R ++ [(v, l)]) := by
 refine ⟨(h.kr.alloc o).kept hg (owns_apart h.kr h.rr (by decide)), fun p hp => ((h.ke p hp).alloc o).kept hg (owns_apart (h.ke p hp) h.rr (by decide)), by simpa using hown, fun p hp => ?_⟩
 rcases List.mem_append.1 hp with hp | hp
 ·exact ((h.re p hp).alloc o).kept hg (owns_apart (h.re p hp) h.rr (by decide))
 ·obtain rfl := List.mem_singleton.1 hp
  exact (hv.alloc o).kept hg (owns_apart hv h.rr (by decide))
theorem OfR.rws (h : OfR b w vk vr K R) : Rws w vk K := ⟨Row.of_owns h.kr, fun p hp => Ints.of_owns (h.ke p hp)⟩
theorem OfR.frws (h : OfR b w vk vr K R) : FRws w vr R := ⟨Row.of_owns h.rr, fun p hp => Row.of_owns (h.re p hp)⟩
end
def keysOf (l : List OpV) : List Int := (refWrites l).map OpV.key
def readsOf (h : List TxnV) (i : Nat) : List (Int × Int) := rdFr (wrTo h h.length) (i : Int) (refReads (opsAt h i))
def soundOf (h : List TxnV) (i : Nat) : Bool := !(refReads (opsAt h i)).any (badFr (wrTo h h.length) (i : Int)) && steadyL (opsAt h i)
def keysTo (h : List TxnV) (k : Nat) : List (List Int) := (List.range k).map fun i => keysOf (opsAt h i)
def readsTo (h : List TxnV) (k : Nat) : List (List (Int × Int)) := (List.range k).map (readsOf h)
def soundTo (h : List TxnV) (k : Nat) : Bool := (List.range k).all (soundOf h)
theorem keysTo_succ (h : List TxnV) (k : Nat) : keysTo h (k + 1) = keysTo h k ++ [keysOf (opsAt h k)] := by simp [keysTo, List.range_succ]
theorem readsTo_succ (h : List TxnV) (k : Nat) : readsTo h (k + 1) = readsTo h k ++ [readsOf h k] := by simp [readsTo, List.range_succ]
theorem soundTo_succ (h : List TxnV) (k : Nat) : soundTo h (k + 1) = (soundTo h k && soundOf h k) := by simp [soundTo, List.range_succ]
theorem check_zero {h : List TxnV} (hc : checkI h = 0) : h.length ≤ 64 ∧ opsN h ≤ 1024 ∧ okW h = true ∧ ∀ t ∈ h, keysIn t.l := by
 unfold checkI at hc
 by_cases hb : 64 < h.length ∨ 1024 < opsN h
 ·rw [if_pos hb] at hc; omega
 ·rw [if_neg hb] at hc
  cases hr : rightB h
  ·rw [hr] at hc; simp at hc
  ·unfold rightB valuesB at hr
   simp only [Bool.and_eq_true] at hr
   exact ⟨by omega, by omega, hr.2.1.1, parts_keys hr.1⟩
end

section
open Go.RowKit
theorem oftime_any (va : Value) (h : List TxnV) (p a b : Nat) (w : World) (hp : w.cell? ⟨p, 0, none⟩ = some va) (hT : Txns w va h) (ha : a < h.length) (hb : b < h.length) :
  Calls Tryz.prog 59 #[.int .i64 a, .int .i64 b, .pointer (some ⟨p, 0, none⟩)] w fun e w' => e = .returned (.bool (decide (h[a].c < h[b].b))) ∧ Below w.heap.size w w' := by
 obtain ⟨ao, cap, rfl, hal⟩ := hT.form
 obtain ⟨g, o, hao, c0, c1, c2, c3⟩ := hT.at ha
 cases hao
 obtain ⟨g', o', hao, d0, d1, d2, d3⟩ := hT.at hb
 cases hao
 have hai : (a : Int) < (h.length : Int) := by omega
 have hbi : (b : Int) < (h.length : Int) := by omega
 generalize h[a].c = x at *
 generalize h[b].b = y at *
 clear c0 c1 c3 d0 d2 d3 hT
 go_enter Tryz.func59, Tryz.ntmps59
 go_wp2_with fail
 go_quiet (fail)
 go_wp2_with fail
 go_ret
 exact ⟨rfl, below_drewN (Below.refl _ _) _⟩
theorem ofsession_any (va : Value) (h : List TxnV) (p a b : Nat) (w : World) (hp : w.cell? ⟨p, 0, none⟩ = some va) (hT : Txns w va h) (ha : a < h.length) (hb : b < h.length) :
  Calls Tryz.prog 58 #[.int .i64 a, .int .i64 b, .pointer (some ⟨p, 0, none⟩)] w fun e w' => e = .returned (.bool (decide (a < b) && decide (h[a].s = h[b].s))) ∧ Below w.heap.size w w' := by
 obtain ⟨ao, cap, rfl, hal⟩ := hT.form
 obtain ⟨g, o, hao, c0, c1, c2, c3⟩ := hT.at ha
 cases hao
 obtain ⟨g', o', hao, d0, d1, d2, d3⟩ := hT.at hb
 cases hao
 have hai : (a : Int) < (h.length : Int) := by omega
 have hbi : (b : Int) < (h.length : Int) := by omega
 generalize h[a].s = x at *
 generalize h[b].s = y at *
 clear c1 c2 c3 d1 d2 d3 hT
 by_cases hab : a < b
 ·have H : Hid ((decide (a < b) && decide (x = y)) = decide (x = y)) := hid (by rw [decide_eq_true hab]; rfl)
  have habi : (a : Int) < (b : Int) := by omega
  rw [H.out]
  clear hab H
  go_enter Tryz.func58, Tryz.ntmps58
  go_wp2_with fail
  go_quiet (fail)
  go_wp2_with fail
  go_ret
  exact ⟨rfl, below_drewN (Below.refl _ _) _⟩
 ·have H : Hid ((decide (a < b) && decide (x = y)) = false) := hid (by rw [decide_eq_false hab]; rfl)
  have habi : ¬ (a : Int) < (b : Int) := by omega
  have hd : decide ((a : Int) < (b : Int)) = false := decide_eq_false habi
  have hle : (b : Int) ≤ (a : Int) := by omega
  have hdn : decide (a < b) = false := decide_eq_false hab
  rw [H.out]
  clear H
  go_enter Tryz.func58, Tryz.ntmps58
  go_wp2_with fail
  go_quiet (fail)
  go_wp2_with fail
  go_ret
  exact ⟨rfl, below_drewN (Below.refl _ _) _⟩
end

section
open Go.RowKit
theorem infoLI : (Tryz.prog.info? 24).map (fun i => (i.zero, i.size, i.bytes)) = some (some (.slice none 0 0), 1, 24) := by kernel_rfl
theorem infoLR : (Tryz.prog.info? 114).map (fun i => (i.zero, i.size, i.bytes)) = some (some (.slice none 0 0), 1, 24) := by kernel_rfl
theorem owns_form {w : World} {b : Nat} {e : TypeId} {s : Nat} {v : Value} {n : Nat} {xs : List Value} (h : w.ownsRow b e s v n xs) : ∃ ao cap, v = .slice ao n cap := by
 rcases h.2 with ⟨rfl, rfl⟩ | ⟨g, cap, cur, rfl, _⟩
 ·exact ⟨_, _, rfl⟩
 ·exact ⟨_, _, rfl⟩
theorem row_ne {w : World} {b : Nat} {e : TypeId} {s : Nat} {v : Value} {n : Nat} {xs : List Value} (h : w.ownsRow b e s v n xs) {g : Nat} (hg : g < b) : some g ≠ v.ownBlock := fun e2 => by have := (h.lt g e2.symm).1; omega
theorem row_ne_box {w : World} {b : Nat} {e : TypeId} {s : Nat} {v : Value} {n : Nat} {xs : List Value} (h : w.ownsRow b e s v n xs) {g : Nat} {cs : Array Value} {t : TypeId} (hg : w.heap[g]? = some (.cells cs t (0, 0))) (he : e ≠ t) : some g ≠ v.ownBlock := by
 rcases h.2 with ⟨rfl, _⟩ | ⟨g1, c1, cur1, rfl, _, hh1, _⟩
 ·simp [Value.ownBlock]
 ·intro q
  simp [Value.ownBlock] at q
  subst q
  rw [hg] at hh1
  injection hh1 with hh1
  injection hh1 with _ hh1
  exact he hh1.symm
def SB (C B gx : Nat) (ts tb tc : Int) (tv : Value) (w : World) : Prop := w.cell? ⟨C, 0, none⟩ = some (.pointer (some ⟨B, 0, none⟩)) ∧ w.cell? ⟨gx, 0, none⟩ = some (.int .i64 ts) ∧ w.cell? ⟨gx, 1, none⟩ = some (.int .i64 tb) ∧ w.cell? ⟨gx, 2, none⟩ = some (.int .i64 tc) ∧ w.cell? ⟨gx, 3, none⟩ = some tv
section
variable {C B gx : Nat} {ts tb tc : Int} {tv : Value} {w w' : World}
theorem SB.below (h : SB C B gx ts tb tc tv w) (hb : Below w.heap.size w w') : SB C B gx ts tb tc tv w' := by
 obtain ⟨h0, h1, h2, h3, h4⟩ := h
 exact ⟨(hb.cell (p := ⟨C, 0, none⟩) (block_lt h0)).trans h0, (hb.cell (p := ⟨gx, 0, none⟩) (block_lt h1)).trans h1, (hb.cell (p := ⟨gx, 1, none⟩) (block_lt h2)).trans h2, (hb.cell (p := ⟨gx, 2, none⟩) (block_lt h3)).trans h3, (hb.cell (p := ⟨gx, 3, none⟩) (block_lt h4)).trans h4⟩
theorem SB.drew (h : SB C B gx ts tb tc tv w) : SB C B gx ts tb tc tv w.drew := h.below (Below.refl _ _).drew
theorem SB.alloc (h : SB C B gx ts tb tc tv w) (o : Obj) : SB C B gx ts tb tc tv (w.alloc o) := h.below (box_below w o)
theorem SB.grown {row : Option Nat} (h : SB C B gx ts tb tc tv w) (hg : w.grownBy w' row) (hC : some C ≠ row) (hX : some gx ≠ row) : SB C B gx ts tb tc tv w' := by
 obtain ⟨h0, h1, h2, h3, h4⟩ := h
 exact ⟨hg.cell h0 hC, hg.cell h1 hX, hg.cell h2 hX, hg.cell h3 hX, hg.cell h4 hX⟩
theorem SB.cell (h : SB C B gx ts tb tc tv w) {a : Addr} (hC : C ≠ a.block) (hX : gx ≠ a.block) (v : Value) : SB C B gx ts tb tc tv (w.setCell a v) := by
 obtain ⟨h0, h1, h2, h3, h4⟩ := h
 refine ⟨?_, ?_, ?_, ?_, ?_⟩
 ·rw [World.cell?_setCell_other _ _ _ _ (fun e => hC (by rw [e]))]; exact h0
 ·rw [World.cell?_setCell_other _ _ _ _ (fun e => hX (by rw [e]))]; exact h1
 ·rw [World.cell?_setCell_other _ _ _ _ (fun e => hX (by rw [e]))]; exact h2
 ·rw [World.cell?_setCell_other _ _ _ _ (fun e => hX (by rw [e]))]; exact h3
 ·rw [World.cell?_setCell_other _ _ _ _ (fun e => hX (by rw [e]))]; exact h4
end
structure OfS (W : World) (gx : Nat) (ts tb tc : Int) (tv : Value) (n : Int) (vk vr : Value) (sd : Bool) (K : List KRow) (R : List RRow) (w : World) : Prop where
 o : OrdAt w W.heap.size n noR noR noR (.map none) vk vr sd
 s : SB (W.heap.size + 1) W.heap.size gx ts tb tc tv w
 r : OfR (W.heap.size + 2) w vk vr K R
 b : Below W.heap.size W w
 z : W.heap.size + 2 ≤ w.heap.size
 x : ∃ cs, w.heap[gx]? = some (.cells cs 83 (0, 0))
 g : W.heap.size + 2 ≤ gx
section
variable {W w w' : World} {gx : Nat} {ts tb tc : Int} {tv : Value} {n : Int} {vk vr : Value} {sd : Bool} {K : List KRow} {R : List RRow}
theorem OfS.below (h : OfS W gx ts tb tc tv n vk vr sd K R w) (hb : Below w.heap.size w w') : OfS W gx ts tb tc tv n vk vr sd K R w' := by
 obtain ⟨cs, hx⟩ := h.x
 have hl : gx < w.heap.size := by
  by_cases h0 : gx < w.heap.size
  ·exact h0
  ·rw [Array.getElem?_eq_none (Nat.le_of_not_lt h0)] at hx; cases hx
 exact ⟨h.o.below hb h.o.lt, h.s.below hb, h.r.below hb, h.b.trans (hb.mono h.b.size), Nat.le_trans h.z hb.size, ⟨cs, (hb.block gx hl).trans hx⟩, h.g⟩
theorem OfS.addK {wx w5 : World} {v v5 : Value} {t : TypeId} {l : List Int} (h : OfS W gx ts tb tc tv n vk vr sd K R w) (hb : Below w.heap.size w wx) (hv : wx.ownsRow (W.heap.size + 2) 3 1 v l.length (l.map (Value.int .i64)))
  (hown : w5.ownsRow (W.heap.size + 2) 24 1 v5 (K.length + 1) (K.map (·.1) ++ [v])) (hg : (wx.alloc (.cells #[v] t)).grownBy w5 vk.ownBlock) :
  OfS W gx ts tb tc tv n v5 vr sd (K ++ [(v, l)]) R (w5.setCell ⟨W.heap.size, 194, none⟩ v5) ∧ SB (W.heap.size + 1) W.heap.size gx ts tb tc tv w5 ∧ w5.frozen? ⟨W.heap.size, 194, none⟩ = false ∧ w5.cell? ⟨W.heap.size, 194, none⟩ = some vk := by
 have hx := h.below hb
 have hsx := hx.b.size
 obtain ⟨cs, hgx⟩ := hx.x
 have hlx : gx < wx.heap.size := by
  by_cases h0 : gx < wx.heap.size
  ·exact h0
  ·rw [Array.getElem?_eq_none (Nat.le_of_not_lt h0)] at hgx; cases hgx
 have nC := row_ne hx.r.kr (g := W.heap.size + 1) (by omega)
 have nB := row_ne hx.r.kr (g := W.heap.size) (by omega)
 have nX := row_ne_box hx.r.kr hgx (by decide)
 have hz := hx.z
 have hgg := hx.g
 have s5 := (hx.s.alloc (.cells #[v] t)).grown hg nC nX
 have o5 := (hx.o.alloc (.cells #[v] t)).grown hg nB
 have r5 := hx.r.addK hv hown hg
 have b5 : Below W.heap.size W w5 := (hx.b.alloc hsx (.cells #[v] t)).grown hg (by simp; omega) (fun k hk => by have := (hx.r.kr.lt k hk).1; omega)
 refine ⟨⟨o5.setK v5, s5.cell (by simp) (by simp; omega) v5, r5.cell (by simp) v5, b5.setCell (Nat.le_refl _) v5, ?_, ⟨cs, ?_⟩, hgg⟩, s5, o5.free (by omega), o5.cK⟩
 ·have := hg.size; simp at this ⊢; omega
 ·rw [heap_setCell_other w5 ⟨W.heap.size, 194, none⟩ gx v5 (by simp; omega), hg.block gx (by simp; omega) nX, Below.heap_alloc wx _ gx hlx]
  exact hgx
theorem OfS.addR {wx w5 : World} {v v5 : Value} {t : TypeId} {l : List (Int × Int)} (h : OfS W gx ts tb tc tv n vk vr sd K R w) (hb : Below w.heap.size w wx) (hv : wx.ownsRow (W.heap.size + 2) 121 2 v l.length (frV l))
  (hown : w5.ownsRow (W.heap.size + 2) 114 1 v5 (R.length + 1) (R.map (·.1) ++ [v])) (hg : (wx.alloc (.cells #[v] t)).grownBy w5 vr.ownBlock) :
  OfS W gx ts tb tc tv n vk v5 sd K (R ++ [(v, l)]) (w5.setCell ⟨W.heap.size, 195, none⟩ v5) ∧ SB (W.heap.size + 1) W.heap.size gx ts tb tc tv w5 ∧ w5.frozen? ⟨W.heap.size, 195, none⟩ = false ∧ w5.cell? ⟨W.heap.size, 195, none⟩ = some vr := by
 have hx := h.below hb
 have hsx := hx.b.size
 obtain ⟨cs, hgx⟩ := hx.x
 have hlx : gx < wx.heap.size := by
  by_cases h0 : gx < wx.heap.size
  ·exact h0
  ·rw [Array.getElem?_eq_none (Nat.le_of_not_lt h0)] at hgx; cases hgx
 have nC := row_ne hx.r.rr (g := W.heap.size + 1) (by omega)
 have nB := row_ne hx.r.rr (g := W.heap.size) (by omega)
 have nX := row_ne_box hx.r.rr hgx (by decide)
 have hz := hx.z
 have hgg := hx.g
 have s5 := (hx.s.alloc (.cells #[v] t)).grown hg nC nX
 have o5 := (hx.o.alloc (.cells #[v] t)).grown hg nB
 have r5 := hx.r.addR hv hown hg
 have b5 : Below W.heap.size W w5 := (hx.b.alloc hsx (.cells #[v] t)).grown hg (by simp; omega) (fun k hk => by have := (hx.r.rr.lt k hk).1; omega)
 refine ⟨⟨o5.setR v5, s5.cell (by simp) (by simp; omega) v5, r5.cell (by simp) v5, b5.setCell (Nat.le_refl _) v5, ?_, ⟨cs, ?_⟩, hgg⟩, s5, o5.free (by omega), o5.cR⟩
 ·have := hg.size; simp at this ⊢; omega
 ·rw [heap_setCell_other w5 ⟨W.heap.size, 195, none⟩ gx v5 (by simp; omega), hg.block gx (by simp; omega) nX, Below.heap_alloc wx _ gx hlx]
  exact hgx
theorem OfS.setS (h : OfS W gx ts tb tc tv n vk vr sd K R w) (v : Bool) : OfS W gx ts tb tc tv n vk vr v K R (w.setCell ⟨W.heap.size, 196, none⟩ (.bool v)) := by
 obtain ⟨cs, hgx⟩ := h.x
 have hgg := h.g
 exact ⟨h.o.setS v, h.s.cell (by simp) (by simp; omega) _, h.r.cell (by simp) _, h.b.setCell (Nat.le_refl _) _, by have := h.z; simpa using this, ⟨cs, by rw [heap_setCell_other w ⟨W.heap.size, 196, none⟩ gx _ (by simp; omega)]; exact hgx⟩, hgg⟩
end
end

section
open Go.RowKit
theorem run_enters {f : FuncId} {fn : Func} {c : Code} (hf : Tryz.prog.funcs[f]? = some fn) (hname : (fn.name == "runtime.NumGoroutine") = false) (hb : fn.body = some c) (args : Array Value) (w : World) : Sem.run Tryz.prog (callFunc f args) w = .ok (.enter f args) w := by
 have h1 : fn.name ≠ "runtime.NumGoroutine" := by simpa using hname
 simp [callFunc, hf, h1, hb]
theorem enters_ses (args : Array Value) (w : World) : Sem.run Tryz.prog (callFunc 58 args) w = .ok (.enter 58 args) w := run_enters Tryz.func58 (by kernel_rfl) rfl args w
theorem enters_tim (args : Array Value) (w : World) : Sem.run Tryz.prog (callFunc 59 args) w = .ok (.enter 59 args) w := run_enters Tryz.func59 (by kernel_rfl) rfl args w
theorem enters_fro (args : Array Value) (w : World) : Sem.run Tryz.prog (callFunc 60 args) w = .ok (.enter 60 args) w := run_enters Tryz.func60 (by kernel_rfl) rfl args w
theorem MapI.cell {α : Type} {e : α → Value} {P : Program} {k : TypeId} {w : World} {b n : Nat} {f : Int → Option α} {c : Nat} (h : MapI e P k w b n f c) {a : Addr} (hb : b ≠ a.block) (v : Value) : MapI e P k (w.setCell a v) b n f c :=
 h.kept (row := some a.block) ⟨rfl, rfl, rfl, by simp, fun j hj hne => heap_setCell_other w a j v (fun e => hne (by rw [e]))⟩ (fun e => hb (by injection e))
theorem MapI.cells {α : Type} {e : α → Value} {P : Program} {k : TypeId} {b n : Nat} {f : Int → Option α} {c : Nat} {g : Nat} (hb : b ≠ g) : ∀ (vs : List Value) (o : Nat) (w : World), MapI e P k w b n f c → MapI e P k (w.setCells g o vs) b n f c
 | [], _, _, h => h
 | v :: r, o, w, h => by rw [World.setCells]; exact MapI.cells hb r (o + 1) _ (h.cell hb v)
def SA (C B A : Nat) (va : Value) (w : World) : Prop := w.cell? ⟨C, 0, none⟩ = some (.pointer (some ⟨B, 0, none⟩)) ∧ w.cell? ⟨A, 0, none⟩ = some va
theorem below_putC {B g : Nat} {W : World} (hg : B ≤ g) : ∀ (vs : List Value) (o : Nat) (w : World), Below B W w → Below B W (w.setCells g o vs)
 | [], _, _, h => h
 | v :: r, o, w, h => by rw [World.setCells]; exact below_putC hg r (o + 1) _ (h.setCell hg v)
theorem cell_put {g : Nat} {p : Addr} (hp : p.block ≠ g) (vs : List Value) (o : Nat) (w : World) : (w.setCells g o vs).cell? p = w.cell? p := World.cell?_setCells_out g vs o w p (fun e _ => absurd e hp)
structure OfT (W : World) (A : Nat) (va : Value) (n : Int) (S T F : Mat) (vm vk vr : Value) (sd : Bool) (K : List KRow) (R : List RRow) (w : World) : Prop where
 o : OrdAt w W.heap.size n S T F vm vk vr sd
 s : SA (W.heap.size + 1) W.heap.size A va w
 r : OfR (W.heap.size + 2) w vk vr K R
 b : Below W.heap.size W w
 a : A < W.heap.size
section
variable {W w w' : World} {A : Nat} {va : Value} {n : Int} {S T F : Mat} {vm vk vr : Value} {sd : Bool} {K : List KRow} {R : List RRow}
theorem OfT.below (h : OfT W A va n S T F vm vk vr sd K R w) (hb : Below w.heap.size w w') : OfT W A va n S T F vm vk vr sd K R w' := by
 obtain ⟨h0, h1⟩ := h.s
 exact ⟨h.o.below hb h.o.lt, ⟨(hb.cell (p := ⟨W.heap.size + 1, 0, none⟩) (block_lt h0)).trans h0, (hb.cell (p := ⟨A, 0, none⟩) (block_lt h1)).trans h1⟩, h.r.below hb, h.b.trans (hb.mono h.b.size), h.a⟩
theorem OfT.drew (h : OfT W A va n S T F vm vk vr sd K R w) : OfT W A va n S T F vm vk vr sd K R w.drew := h.below (Below.refl _ _).drew
theorem OfT.setM (h : OfT W A va n S T F vm vk vr sd K R w) (v : Value) : OfT W A va n S T F v vk vr sd K R (w.setCell ⟨W.heap.size, 193, none⟩ v) := by
 obtain ⟨h0, h1⟩ := h.s
 have ha := h.a
 refine ⟨h.o.setM v, ⟨?_, ?_⟩, h.r.cell (by simp) v, h.b.setCell (Nat.le_refl _) v, ha⟩
 ·rw [World.cell?_setCell_other _ _ _ _ (fun e => by injection e with e; omega)]; exact h0
 ·rw [World.cell?_setCell_other _ _ _ _ (fun e => by injection e with e; omega)]; exact h1
theorem OfT.sput (h : OfT W A va n S T F vm vk vr sd K R w) (o : Nat) (vs : List Value) : SA (W.heap.size + 1) W.heap.size A va (w.setCells W.heap.size o vs) := by
 have ha := h.a
 exact ⟨by rw [cell_put (by simp)]; exact h.s.1, by rw [cell_put (by simp; omega)]; exact h.s.2⟩
theorem OfT.setS (h : OfT W A va n S T F vm vk vr sd K R w) (M : Mat) : OfT W A va n M T F vm vk vr sd K R (w.setCells W.heap.size 1 (rowsA M).toList) := ⟨h.o.setS1 M, h.sput _ _, h.r.cells (by simp) _ _, below_putC (Nat.le_refl _) _ _ _ h.b, h.a⟩
theorem OfT.setT (h : OfT W A va n S T F vm vk vr sd K R w) (M : Mat) : OfT W A va n S M F vm vk vr sd K R (w.setCells W.heap.size 65 (rowsA M).toList) := ⟨h.o.setT1 M, h.sput _ _, h.r.cells (by simp) _ _, below_putC (Nat.le_refl _) _ _ _ h.b, h.a⟩
theorem OfT.setF (h : OfT W A va n S T F vm vk vr sd K R w) (M : Mat) : OfT W A va n S T M vm vk vr sd K R (w.setCells W.heap.size 129 (rowsA M).toList) := ⟨h.o.setF1 M, h.sput _ _, h.r.cells (by simp) _ _, below_putC (Nat.le_refl _) _ _ _ h.b, h.a⟩
end
def sAt (h : List TxnV) (k : Nat) : Int := ((h[k]?).map (·.s)).getD 0
def bAt (h : List TxnV) (k : Nat) : Int := ((h[k]?).map (·.b)).getD 0
def cAt (h : List TxnV) (k : Nat) : Int := ((h[k]?).map (·.c)).getD 0
theorem sAt_eq {h : List TxnV} {k : Nat} (hk : k < h.length) : sAt h k = h[k].s := by unfold sAt; rw [List.getElem?_eq_getElem hk]; rfl
theorem bAt_eq {h : List TxnV} {k : Nat} (hk : k < h.length) : bAt h k = h[k].b := by unfold bAt; rw [List.getElem?_eq_getElem hk]; rfl
theorem cAt_eq {h : List TxnV} {k : Nat} (hk : k < h.length) : cAt h k = h[k].c := by unfold cAt; rw [List.getElem?_eq_getElem hk]; rfl
def sesP (h : List TxnV) (a b : Nat) : Bool := decide (a < b) && decide (sAt h a = sAt h b)
def timP (h : List TxnV) (a b : Nat) : Bool := decide (cAt h a < bAt h b)
def froP (h : List TxnV) (a b : Nat) : Bool := (readsOf h b).any fun r => decide (r.2 = (a : Int))
def sesM (h : List TxnV) : Mat := prsTo (sesP h) h.length h.length
def timM (h : List TxnV) : Mat := prsTo (timP h) h.length h.length
def froM (h : List TxnV) : Mat := prsTo (froP h) h.length h.length
theorem ses_calls (va : Value) (h : List TxnV) (p a b : Nat) (w : World) (hp : w.cell? ⟨p, 0, none⟩ = some va) (hT : Txns w va h) (ha : a < h.length) (hb : b < h.length) :
  Calls Tryz.prog 58 (#[.int .i64 a, .int .i64 b] ++ #[.pointer (some ⟨p, 0, none⟩)]) w fun e w' => e = .returned (.bool (sesP h a b)) ∧ Below w.heap.size w w' := by
 have hh := ofsession_any va h p a b w hp hT ha hb
 unfold sesP
 rw [sAt_eq ha, sAt_eq hb]
 exact hh
theorem tim_calls (va : Value) (h : List TxnV) (p a b : Nat) (w : World) (hp : w.cell? ⟨p, 0, none⟩ = some va) (hT : Txns w va h) (ha : a < h.length) (hb : b < h.length) :
  Calls Tryz.prog 59 (#[.int .i64 a, .int .i64 b] ++ #[.pointer (some ⟨p, 0, none⟩)]) w fun e w' => e = .returned (.bool (timP h a b)) ∧ Below w.heap.size w w' := by
 have hh := oftime_any va h p a b w hp hT ha hb
 unfold timP
 rw [cAt_eq ha, bAt_eq hb]
 exact hh
theorem fro_calls (vr : Value) (h : List TxnV) (R : List RRow) (p ob a b : Nat) (w : World) (hp : w.cell? ⟨p, 0, none⟩ = some (.pointer (some ⟨ob, 0, none⟩))) (hr : w.cell? ⟨ob, 195, none⟩ = some vr) (hT : FRws w vr R) (hR : R.map (·.2) = readsTo h h.length) (hb : b < h.length) :
  Calls Tryz.prog 60 (#[.int .i64 a, .int .i64 b] ++ #[.pointer (some ⟨p, 0, none⟩)]) w fun e w' => e = .returned (.bool (froP h a b)) ∧ Below w.heap.size w w' := by
 have hl : R.length = h.length := by have := congrArg List.length hR; simpa [readsTo] using this
 have hbR : b < R.length := by omega
 have he : R[b].2 = readsOf h b := by
  have := congrArg (·[b]?) hR
  simp only [List.getElem?_map, List.getElem?_eq_getElem hbR, readsTo, List.getElem?_range hb, Option.map_some] at this
  exact Option.some.inj this
 have hh := offrom_any vr R a b p ob w hp hr hT hbR
 unfold froP
 rw [← he]
 exact hh
def OrdIs (w : World) (B b : Nat) (h : List TxnV) : Prop := ∃ (bm m c : Nat) (vk vr : Value) (K : List KRow) (R : List RRow), OrdAt w B h.length (sesM h) (timM h) (froM h) (.map (some bm)) vk vr (soundTo h h.length) ∧
 MapI eS Tryz.prog 3 w bm m (wrsTo K K.length) c ∧ AllSet (wrsTo K K.length) ∧ OfR b w vk vr K R ∧ K.map (·.2) = keysTo h h.length ∧ R.map (·.2) = readsTo h h.length
theorem OrdIs.below {w w' : World} {B b : Nat} {h : List TxnV} (hO : OrdIs w B b h) (hb : Below w.heap.size w w') : OrdIs w' B b h := by
 obtain ⟨bm, m, c, vk, vr, K, R, h1, h2, h3, h4, h5, h6⟩ := hO
 exact ⟨bm, m, c, vk, vr, K, R, h1.below hb h1.lt, h2.below hb, h3, h4.below hb, h5, h6⟩
end

section
open Go.RowKit
theorem prsRow_iff (S : Nat → Nat → Bool) (a : Nat) (R : Mat) (i j : Nat) (hi : i < 64) (hj : j < 64) : ∀ b, prsRow S a R b i j = true ↔ R i j = true ∨ (i = a ∧ j < b ∧ S i j = true)
 | 0 => by simp [prsRow]
 | b + 1 => by
  have ih := prsRow_iff S a R i j hi hj b
  cases hs : S a b with
  | true =>
   rw [prsRow_hit R hs, addM_iff _ _ _ _ _ hi hj, ih]
   constructor
   ·rintro ((h | ⟨h1, h2, h3⟩) | ⟨h1, h2⟩)
    ·exact .inl h
    ·exact .inr ⟨h1, by omega, h3⟩
    ·have e1 : i = a := by omega
     have e2 : j = b := by omega
     subst e1 e2
     exact .inr ⟨rfl, by omega, hs⟩
   ·rintro (h | ⟨h1, h2, h3⟩)
    ·exact .inl (.inl h)
    ·by_cases e : j = b
     ·exact .inr ⟨by omega, by omega⟩
     ·exact .inl (.inr ⟨h1, by omega, h3⟩)
  | false =>
   rw [prsRow_miss R hs, ih]
   constructor
   ·rintro (h | ⟨h1, h2, h3⟩)
    ·exact .inl h
    ·exact .inr ⟨h1, by omega, h3⟩
   ·rintro (h | ⟨h1, h2, h3⟩)
    ·exact .inl h
    ·refine .inr ⟨h1, ?_, h3⟩
     by_cases e : j = b
     ·subst h1 e; rw [hs] at h3; cases h3
     ·omega
theorem prsTo_iff (S : Nat → Nat → Bool) (n : Nat) (i j : Nat) (hi : i < 64) (hj : j < 64) : ∀ a, prsTo S n a i j = true ↔ i < a ∧ j < n ∧ S i j = true
 | 0 => by simp [prsTo, noR]
 | a + 1 => by
  have ih := prsTo_iff S n i j hi hj a
  show prsRow S a (prsTo S n a) n i j = true ↔ _
  rw [prsRow_iff S a _ i j hi hj, ih]
  constructor
  ·rintro (⟨h1, h2⟩ | ⟨h1, h2⟩)
   ·exact ⟨by omega, h2⟩
   ·exact ⟨by omega, h2⟩
  ·rintro ⟨h1, h2⟩
   by_cases e : i = a
   ·exact .inr ⟨e, h2⟩
   ·exact .inl ⟨by omega, h2⟩
theorem wpList_load_part {ops : Array Oper} {rest : List Oper} {o : Oper} {a : Act} {w : World} {Q : Exit → Act → World → Prop} {B k : Nat} {R : Mat} (h : w.rangeAt B k (rowsA R).toList) (x : Operand) (ho : o.op = .load 108 x)
  (hw : Region.wanted o (yielded ops a.tmps) = true) (hx : a.eval x = .pointer (some ⟨B, k, none⟩)) (hn : wpList Tryz.prog ops Q rest (a.put o.dst (.agg (rowsA R))) w) : wpList Tryz.prog ops Q (o :: rest) a w :=
 wpList_step fun K hK => by
  rw [if_pos hw]
  refine wp_load_mid 108 x ho B k hx (rowsA R).toList _ h Tryz.underlying108 rfl (by rw [Array.length_toList]; exact infoRel' R) ?_
  rw [Array.toArray_toList]
  exact hK _ _ hn
end

section
open Go.RowKit
theorem takeG {P : Program} {ops : Array Oper} {Q : Exit → Act → World → Prop} {md : Region.Mode} {S : World → Prop} (d : Option Tmp) {i : Nat} {oi : Oper} {v : Value} {fuel : Nat} {listed : Array Bool} {a : Act} {w : World} (hi : ops[i]? = some oi) (hd : oi.dst = d)
  (hs : Region.noSelect ops = true) (hf : Region.free md ops listed i = true) (hr : (Region.ready md ops listed).contains i = true)
  (hQ : ∀ c a w, Q (.panic c) (a.put oi.dst v) w → Q (.panic c) a w) (hy : YieldsIf P ops S oi v a) (hS : S w)
  (h : wpAnyH P md ops Q S fuel (listed.setIfInBounds i true) (a.put d v) w) : wpAnyH P md ops Q S (fuel + 1) listed a w := by
 subst hd; exact wpAnyH_take hi hs hf hr hQ hy hS h
theorem yields_load_part {ops : Array Oper} {S : World → Prop} {o : Oper} {a : Act} {B k : Nat} {R : Mat} (hw : Region.wanted o (yielded ops a.tmps) = true) (x : Operand) (ho : o.op = .load 108 x)
  (hx : a.eval x = .pointer (some ⟨B, k, none⟩)) (hS : ∀ w, S w → w.rangeAt B k (rowsA R).toList) : YieldsIf Tryz.prog ops S o (.agg (rowsA R)) a := by
 have h := yieldsIf_load_mid (P := Tryz.prog) hw 108 x ho B k hx (rowsA R).toList _ hS Tryz.underlying108 rfl (by rw [Array.length_toList]; exact infoRel' R)
 rw [Array.toArray_toList] at h
 exact h
def OrdB (w : World) (B : Nat) (h : List TxnV) : Prop := ∃ vm vk vr, OrdAt w B h.length (sesM h) (timM h) (froM h) vm vk vr (soundTo h h.length)
theorem OrdIs.blk {w : World} {B b : Nat} {h : List TxnV} (hO : OrdIs w B b h) : OrdB w B h := by
 obtain ⟨bm, m, c, vk, vr, K, R, h1, _⟩ := hO
 exact ⟨_, _, _, h1⟩
theorem OrdB.rS {w : World} {B : Nat} {h : List TxnV} (hO : OrdB w B h) : w.rangeAt B 1 (rowsA (sesM h)).toList := by obtain ⟨_, _, _, h⟩ := hO; exact h.rS
theorem OrdB.rT {w : World} {B : Nat} {h : List TxnV} (hO : OrdB w B h) : w.rangeAt B 65 (rowsA (timM h)).toList := by obtain ⟨_, _, _, h⟩ := hO; exact h.rT
theorem OrdB.rF {w : World} {B : Nat} {h : List TxnV} (hO : OrdB w B h) : w.rangeAt B 129 (rowsA (froM h)).toList := by obtain ⟨_, _, _, h⟩ := hO; exact h.rF
theorem OrdB.cN {w : World} {B : Nat} {h : List TxnV} (hO : OrdB w B h) : w.cell? ⟨B, 0, none⟩ = some (.int .i64 h.length) := by obtain ⟨_, _, _, h⟩ := hO; exact h.cN
theorem OrdB.cS {w : World} {B : Nat} {h : List TxnV} (hO : OrdB w B h) : w.cell? ⟨B, 196, none⟩ = some (.bool (soundTo h h.length)) := by obtain ⟨_, _, _, h⟩ := hO; exact h.cS
theorem OrdB.below {w w' : World} {B : Nat} {h : List TxnV} (hO : OrdB w B h) (hb : Below w.heap.size w w') : OrdB w' B h := by
 obtain ⟨vm, vk, vr, h1⟩ := hO
 exact ⟨_, _, _, h1.below hb h1.lt⟩
end

section
theorem zA {α : Type _} (l : List α) (i : Nat) (a : α) : l.toArray.setIfInBounds i a = (l.set i a).toArray := List.setIfInBounds_toArray ..
theorem zB {α : Type _} {x : α} {xs : List α} {a : α} : (x :: xs).set 0 a = a :: xs := List.set_cons_zero
theorem zC {α : Type _} {x : α} {xs : List α} {i : Nat} {a : α} : (x :: xs).set (i + 1) a = x :: xs.set i a := List.set_cons_succ
end
section
theorem tG {P : Program} {ops : Array Oper} {Q : Exit → Act → World → Prop} {md : Region.Mode} {S : World → Prop} (d : Option Tmp) (i : Nat) {oi : Oper} (v : Value) {fuel : Nat} {listed : Array Bool} {a : Act} {w : World} (hi : ops[i]? = some oi) (hd : oi.dst = d)
 (hy : YieldsIf P ops S oi v a) (hS : S w) (h : wpAnyH P md ops Q S fuel (listed.setIfInBounds i true) (a.put d v) w)
 (hs : Region.noSelect ops = true := by kernel_rfl) (hf : Region.free md ops listed i = true := by kernel_rfl) (hr : (Region.ready md ops listed).contains i = true := by kernel_rfl)
 (hQ : ∀ c a w, Q (.panic c) (a.put oi.dst v) w → Q (.panic c) a w := by exact fun _ _ _ h => h) : wpAnyH P md ops Q S (fuel + 1) listed a w := takeG d hi hd hs hf hr hQ hy hS h
theorem tA {P : Program} {ops : Array Oper} {Q : Exit → Act → World → Prop} {md : Region.Mode} {S : World → Prop} (d : Option Tmp) (i : Nat) {oi : Oper} {v : Value} {fuel : Nat} {listed : Array Bool} {a : Act} {w : World} (hi : ops[i]? = some oi) (hd : oi.dst = d)
 (hS : S w) (h : wpAnyH P md ops Q S fuel (listed.setIfInBounds i true) (a.put d v) w)
 (hy : YieldsIf P ops S oi v a := by exact Or.inl ⟨by rfl, by intro w _; go_simp; try (with_reducible rfl)⟩)
 (hs : Region.noSelect ops = true := by kernel_rfl) (hf : Region.free md ops listed i = true := by kernel_rfl) (hr : (Region.ready md ops listed).contains i = true := by kernel_rfl)
 (hQ : ∀ c a w, Q (.panic c) (a.put oi.dst v) w → Q (.panic c) a w := by exact fun _ _ _ h => h) : wpAnyH P md ops Q S (fuel + 1) listed a w := takeG d hi hd hs hf hr hQ hy hS h
end
section
theorem rD {P : Program} {ops : Array Oper} {Q : Exit → Act → World → Prop} {md : Region.Mode} {S : World → Prop} {fuel : Nat} {listed : Array Bool} {a : Act} {w : World} (i : Nat) {o : Oper} (ho : ops[i]? = some o)
 (h : ∀ K' : Act → World → Prop, Go.Shut (∀ a w, S w → (S w → wpAnyH P md ops Q S fuel (listed.setIfInBounds i true) a w) → K' a w) → if Region.wanted o (yielded ops a.tmps) = true then Oper.wp P o a w K' Q else K' (a.put o.dst undef) w)
 (hr : Region.ready md ops listed = [i] := by kernel_rfl) : wpAnyH P md ops Q S (fuel + 1) listed a w := wpAnyH_ready hr (by simp) (AllReadyH.cons ho h AllReadyH.nil)
end
section
open Go.RowKit
theorem RelAt.far {w : World} {g g' : Nat} {t : TypeId} {R : Mat} (h : RelAt w g t R) (hne : g ≠ g') (cs : Array Value) : RelAt (w.setRow g' cs) g t R := by
 unfold RelAt at *; rw [setRow_other _ _ _ _ hne]; exact h
theorem wp_store_rel {o : Oper} {a : Act} {w : World} {K : Act → World → Prop} {Q : Exit → Act → World → Prop} {g : Nat} {S : Mat} (h : RelAt w g 108 S) (R : Mat) (x y : Operand) (ho : o.op = .store 108 x y)
  (hx : a.eval x = .pointer (some ⟨g, 0, none⟩)) (hy : a.eval y = .agg (rowsA R)) (hn : K (a.put o.dst undef) (w.setRow g (rowsA R))) : o.wp Tryz.prog a w K Q :=
 wp_store_row 108 x y ho g (rowsA R) hx hy _ _ h (infoRel' _) (by rw [rowsA_size, rowsA_size]) (rows_one _) hn
theorem ret_rel {R S : Mat} (h : R = S) : Ending.returned (.agg (rowsA R)) = .returned (.agg (rowsA S)) := by rw [h]
def baseQ (h : List TxnV) (q1 q2 : Int) : Mat := if q2 = 0 then (if q1 = 0 then froM h else orR (froM h) (sesM h)) else orR (if q1 = 0 then froM h else orR (froM h) (sesM h)) (timM h)
def baseM (h : List TxnV) (x : Int) : Mat := baseQ h (bits .and .i64 x 1) (bits .and .i64 x 32)
theorem lbase_any (x : Int) (h : List TxnV) (B : Nat) (w : World) (hO : OrdB w B h) :
  Calls Tryz.prog 167 #[.pointer (some ⟨B, 0, none⟩), .int .i64 x] w fun e w' => e = .returned (.agg (rowsA (baseM h x))) ∧ Below w.heap.size w w' := by
 have HO := hid (fun wx (hx : Below w.heap.size w wx) => hO.below hx)
 obtain ⟨q1, h1⟩ : ∃ q, bits .and .i64 x 1 = q := ⟨_, rfl⟩
 obtain ⟨q2, h2⟩ : ∃ q, bits .and .i64 x 32 = q := ⟨_, rfl⟩
 have HQ : Hid (baseM h x = baseQ h q1 q2) := hid (by unfold baseM; rw [h1, h2])
 have z0 := zero_block w
 have z1 := zero_block (w.alloc (.cells #[.int .u64 0, .int .u64 0, .int .u64 0, .int .u64 0, .int .u64 0, .int .u64 0, .int .u64 0, .int .u64 0, .int .u64 0, .int .u64 0, .int .u64 0, .int .u64 0, .int .u64 0, .int .u64 0, .int .u64 0, .int .u64 0, .int .u64 0, .int .u64 0, .int .u64 0, .int .u64 0, .int .u64 0, .int .u64 0, .int .u64 0, .int .u64 0, .int .u64 0, .int .u64 0, .int .u64 0, .int .u64 0, .int .u64 0, .int .u64 0, .int .u64 0, .int .u64 0, .int .u64 0, .int .u64 0, .int .u64 0, .int .u64 0, .int .u64 0, .int .u64 0, .int .u64 0, .int .u64 0, .int .u64 0, .int .u64 0, .int .u64 0, .int .u64 0, .int .u64 0, .int .u64 0, .int .u64 0, .int .u64 0, .int .u64 0, .int .u64 0, .int .u64 0, .int .u64 0, .int .u64 0, .int .u64 0, .int .u64 0, .int .u64 0, .int .u64 0, .int .u64 0, .int .u64 0, .int .u64 0, .int .u64 0, .int .u64 0, .int .u64 0, .int .u64 0] 108))
 rw [show (w.alloc (.cells #[.int .u64 0, .int .u64 0, .int .u64 0, .int .u64 0, .int .u64 0, .int .u64 0, .int .u64 0, .int .u64 0, .int .u64 0, .int .u64 0, .int .u64 0, .int .u64 0, .int .u64 0, .int .u64 0, .int .u64 0, .int .u64 0, .int .u64 0, .int .u64 0, .int .u64 0, .int .u64 0, .int .u64 0, .int .u64 0, .int .u64 0, .int .u64 0, .int .u64 0, .int .u64 0, .int .u64 0, .int .u64 0, .int .u64 0, .int .u64 0, .int .u64 0, .int .u64 0, .int .u64 0, .int .u64 0, .int .u64 0, .int .u64 0, .int .u64 0, .int .u64 0, .int .u64 0, .int .u64 0, .int .u64 0, .int .u64 0, .int .u64 0, .int .u64 0, .int .u64 0, .int .u64 0, .int .u64 0, .int .u64 0, .int .u64 0, .int .u64 0, .int .u64 0, .int .u64 0, .int .u64 0, .int .u64 0, .int .u64 0, .int .u64 0, .int .u64 0, .int .u64 0, .int .u64 0, .int .u64 0, .int .u64 0, .int .u64 0, .int .u64 0, .int .u64 0] 108)).heap.size = w.heap.size + 1 from by simp] at z1
 have hb1 := box_below w (.cells #[.int .u64 0, .int .u64 0, .int .u64 0, .int .u64 0, .int .u64 0, .int .u64 0, .int .u64 0, .int .u64 0, .int .u64 0, .int .u64 0, .int .u64 0, .int .u64 0, .int .u64 0, .int .u64 0, .int .u64 0, .int .u64 0, .int .u64 0, .int .u64 0, .int .u64 0, .int .u64 0, .int .u64 0, .int .u64 0, .int .u64 0, .int .u64 0, .int .u64 0, .int .u64 0, .int .u64 0, .int .u64 0, .int .u64 0, .int .u64 0, .int .u64 0, .int .u64 0, .int .u64 0, .int .u64 0, .int .u64 0, .int .u64 0, .int .u64 0, .int .u64 0, .int .u64 0, .int .u64 0, .int .u64 0, .int .u64 0, .int .u64 0, .int .u64 0, .int .u64 0, .int .u64 0, .int .u64 0, .int .u64 0, .int .u64 0, .int .u64 0, .int .u64 0, .int .u64 0, .int .u64 0, .int .u64 0, .int .u64 0, .int .u64 0, .int .u64 0, .int .u64 0, .int .u64 0, .int .u64 0, .int .u64 0, .int .u64 0, .int .u64 0, .int .u64 0] 108)
 have z0 := (z0.alloc (.cells #[.int .u64 0, .int .u64 0, .int .u64 0, .int .u64 0, .int .u64 0, .int .u64 0, .int .u64 0, .int .u64 0, .int .u64 0, .int .u64 0, .int .u64 0, .int .u64 0, .int .u64 0, .int .u64 0, .int .u64 0, .int .u64 0, .int .u64 0, .int .u64 0, .int .u64 0, .int .u64 0, .int .u64 0, .int .u64 0, .int .u64 0, .int .u64 0, .int .u64 0, .int .u64 0, .int .u64 0, .int .u64 0, .int .u64 0, .int .u64 0, .int .u64 0, .int .u64 0, .int .u64 0, .int .u64 0, .int .u64 0, .int .u64 0, .int .u64 0, .int .u64 0, .int .u64 0, .int .u64 0, .int .u64 0, .int .u64 0, .int .u64 0, .int .u64 0, .int .u64 0, .int .u64 0, .int .u64 0, .int .u64 0, .int .u64 0, .int .u64 0, .int .u64 0, .int .u64 0, .int .u64 0, .int .u64 0, .int .u64 0, .int .u64 0, .int .u64 0, .int .u64 0, .int .u64 0, .int .u64 0, .int .u64 0, .int .u64 0, .int .u64 0, .int .u64 0] 108)).far (g' := w.heap.size + 1) (by omega) (rowsA (froM h))
 have hb2 := below_setRow (hb1.alloc hb1.size (.cells #[.int .u64 0, .int .u64 0, .int .u64 0, .int .u64 0, .int .u64 0, .int .u64 0, .int .u64 0, .int .u64 0, .int .u64 0, .int .u64 0, .int .u64 0, .int .u64 0, .int .u64 0, .int .u64 0, .int .u64 0, .int .u64 0, .int .u64 0, .int .u64 0, .int .u64 0, .int .u64 0, .int .u64 0, .int .u64 0, .int .u64 0, .int .u64 0, .int .u64 0, .int .u64 0, .int .u64 0, .int .u64 0, .int .u64 0, .int .u64 0, .int .u64 0, .int .u64 0, .int .u64 0, .int .u64 0, .int .u64 0, .int .u64 0, .int .u64 0, .int .u64 0, .int .u64 0, .int .u64 0, .int .u64 0, .int .u64 0, .int .u64 0, .int .u64 0, .int .u64 0, .int .u64 0, .int .u64 0, .int .u64 0, .int .u64 0, .int .u64 0, .int .u64 0, .int .u64 0, .int .u64 0, .int .u64 0, .int .u64 0, .int .u64 0, .int .u64 0, .int .u64 0, .int .u64 0, .int .u64 0, .int .u64 0, .int .u64 0, .int .u64 0, .int .u64 0] 108)) (g := w.heap.size + 1) (by omega) (rowsA (froM h))
 have q0 := (HO.out _ hb1).rF
 have n0 := (HO.out _ hb1).cN
 clear hO hb1
 go_enter Tryz.func167, Tryz.ntmps167
 go_upto_region 2 with (first
  | (with_reducible refine wpList_load_part q0 _ rfl (by kernel_rfl) rfl ?_)
  | (with_reducible refine wpList_store_rel z1 (froM h) rfl _ _ rfl rfl rfl ?_))
 have z1 := z1.setRow (froM h)
 clear q0 n0
 generalize World.setRow _ _ _ = w2 at *
 have hb := hb2
 clear hb2
 by_cases e1 : q1 = 0
 ·subst e1
  go_upto_region 4 with fail
  by_cases e2 : q2 = 0
  ·subst e2
   go_upto_region 6 with fail
   have HE : Hid ((froM h) = baseM h x) := hid (by rw [HQ.out]; unfold baseQ; rw [if_pos rfl, if_pos rfl])
   clear HQ HO
   go_wp2_with (first | (with_reducible refine wpList_load_rel z1 rfl _ rfl rfl ?_) | (with_reducible refine wpList_store_rel z0 (froM h) rfl _ _ rfl rfl rfl ?_))
   have h3 := z0.setRow (froM h)
   exact bodyPost_ret (results_rel rfl _ _ _ _ rfl h3) rfl ⟨ret_rel HE.out, below_setRow hb (Nat.le_refl _) _⟩
  ·go_upto_region 5 with fail
   have kd := (Below.refl w2.heap.size w2).drew
   have HV : Hid (∀ wx, Below w2.heap.size w2 wx → RelAt wx (w.heap.size + 1) 108 (froM h)) := hid (fun wx hx => z1.below hx z1.lt)
   have HZ : Hid (∀ wx, Below w2.heap.size w2 wx → RelAt wx w.heap.size 108 noR) := hid (fun wx hx => z0.below hx z0.lt)
   have HB := hid (fun wx (hx : Below w2.heap.size w2 wx) => hb.trans (hx.mono hb.size))
   have HSB := hid (fun wx (hx : Below w2.heap.size w2 wx) => HO.out wx (hb.trans (hx.mono hb.size)))
   have HSF : Hid (∀ wx, Below w2.heap.size w2 wx → ∀ (cs : Array Value), OrdB (wx.setRow (w.heap.size + 1) cs) B h) := hid (fun wx hx cs => HO.out _ (below_setRow (hb.trans (hx.mono hb.size)) (by omega) cs))
   clear z1 z0 hb
   refine wp_region_held_drew (S := fun wx => OrdB wx B h) (by kernel_rfl) (HSB.out _ kd) (fun hS0 => ?_)
   refine tG (some 23) 1 ?vbw21 rfl rfl (Or.inl ⟨by rfl, ?hbw21⟩) hS0 ?rbw21
   case hbw21 => (intro w hw; go_simp; try (with_reducible rfl))
   try simp only [Act.put, zA, zB, zC]
   refine tG (some 24) 2 ?vbw22 rfl rfl (Or.inl ⟨by rfl, ?hbw22⟩) hS0 ?rbw22
   case hbw22 => (intro w hw; have hn := hw.cN; go_simp; try (with_reducible rfl))
   try simp only [Act.put, zA, zB, zC]
   refine tG (some 25) 3 ?vbw23 rfl rfl (Or.inl ⟨by rfl, ?hbw23⟩) hS0 ?rbw23
   case hbw23 => (intro w hw; have hn := hw.cN; go_simp; try (with_reducible rfl))
   try simp only [Act.put, zA, zB, zC]
   refine tG (some 26) 4 _ rfl rfl (yields_load_part (by rfl) _ rfl rfl (fun wx hx => OrdB.rT hx)) hS0 ?_
   try simp only [Act.put, zA, zB, zC]
   refine rD 0 rfl (fun K hK => ?_)
   rw [if_pos (by rfl)]
   refine wp_load_rel (HV.out _ kd) _ rfl rfl ?_
   refine hK.out _ _ hS0 (fun _ => ?_)
   clear hK K
   refine rD 5 rfl (fun K hK => ?_)
   go_simp
   refine (union_any (froM h) (timM h) _).mono ?_
   rintro e qbw21 ⟨rfl, hqbw21⟩
   show K _ _
   have kbw21 := below_then kd hqbw21
   have sbw21 := HSB.out _ kbw21
   refine hK.out _ _ sbw21 (fun _ => ?_)
   clear hK K
   refine rD 6 rfl (fun K hK => ?_)
   rw [if_pos (by rfl)]
   refine wp_store_rel (HV.out _ kbw21) (orR (froM h) (timM h)) _ _ rfl rfl rfl ?_
   refine hK.out _ _ (HSF.out _ kbw21 _) (fun _ => ?_)
   clear hK K
   refine wpAnyH_done (by kernel_rfl) ?_ _
   have z1 := (HV.out _ kbw21).setRow (orR (froM h) (timM h))
   have z0 := (HZ.out _ kbw21).far (g' := w.heap.size + 1) (by omega) (rowsA (orR (froM h) (timM h)))
   have hb := below_setRow (HB.out _ kbw21) (g := w.heap.size + 1) (by omega) (rowsA (orR (froM h) (timM h)))
   generalize World.setRow _ _ _ = w2' at *
   clear HV HZ HB HSB HSF kd
   have HE : Hid ((orR (froM h) (timM h)) = baseM h x) := hid (by rw [HQ.out]; unfold baseQ; rw [if_neg e2, if_pos rfl])
   clear HQ HO
   go_wp2_with (first | (with_reducible refine wpList_load_rel z1 rfl _ rfl rfl ?_) | (with_reducible refine wpList_store_rel z0 (orR (froM h) (timM h)) rfl _ _ rfl rfl rfl ?_))
   have h3 := z0.setRow (orR (froM h) (timM h))
   exact bodyPost_ret (results_rel rfl _ _ _ _ rfl h3) rfl ⟨ret_rel HE.out, below_setRow hb (Nat.le_refl _) _⟩
 ·go_upto_region 3 with fail
  have kd := (Below.refl w2.heap.size w2).drew
  have HV : Hid (∀ wx, Below w2.heap.size w2 wx → RelAt wx (w.heap.size + 1) 108 (froM h)) := hid (fun wx hx => z1.below hx z1.lt)
  have HZ : Hid (∀ wx, Below w2.heap.size w2 wx → RelAt wx w.heap.size 108 noR) := hid (fun wx hx => z0.below hx z0.lt)
  have HB := hid (fun wx (hx : Below w2.heap.size w2 wx) => hb.trans (hx.mono hb.size))
  have HSB := hid (fun wx (hx : Below w2.heap.size w2 wx) => HO.out wx (hb.trans (hx.mono hb.size)))
  have HSF : Hid (∀ wx, Below w2.heap.size w2 wx → ∀ (cs : Array Value), OrdB (wx.setRow (w.heap.size + 1) cs) B h) := hid (fun wx hx cs => HO.out _ (below_setRow (hb.trans (hx.mono hb.size)) (by omega) cs))
  clear z1 z0 hb
  refine wp_region_held_drew (S := fun wx => OrdB wx B h) (by kernel_rfl) (HSB.out _ kd) (fun hS0 => ?_)
  refine tG (some 14) 1 ?va1 rfl rfl (Or.inl ⟨by rfl, ?ha1⟩) hS0 ?ra1
  case ha1 => (intro w hw; go_simp; try (with_reducible rfl))
  try simp only [Act.put, zA, zB, zC]
  refine tG (some 15) 2 ?va2 rfl rfl (Or.inl ⟨by rfl, ?ha2⟩) hS0 ?ra2
  case ha2 => (intro w hw; have hn := hw.cN; go_simp; try (with_reducible rfl))
  try simp only [Act.put, zA, zB, zC]
  refine tG (some 16) 3 ?va3 rfl rfl (Or.inl ⟨by rfl, ?ha3⟩) hS0 ?ra3
  case ha3 => (intro w hw; have hn := hw.cN; go_simp; try (with_reducible rfl))
  try simp only [Act.put, zA, zB, zC]
  refine tG (some 17) 4 _ rfl rfl (yields_load_part (by rfl) _ rfl rfl (fun wx hx => OrdB.rS hx)) hS0 ?_
  try simp only [Act.put, zA, zB, zC]
  refine rD 0 rfl (fun K hK => ?_)
  rw [if_pos (by rfl)]
  refine wp_load_rel (HV.out _ kd) _ rfl rfl ?_
  refine hK.out _ _ hS0 (fun _ => ?_)
  clear hK K
  refine rD 5 rfl (fun K hK => ?_)
  go_simp
  refine (union_any (froM h) (sesM h) _).mono ?_
  rintro e qa1 ⟨rfl, hqa1⟩
  show K _ _
  have ka1 := below_then kd hqa1
  have sa1 := HSB.out _ ka1
  refine hK.out _ _ sa1 (fun _ => ?_)
  clear hK K
  refine rD 6 rfl (fun K hK => ?_)
  rw [if_pos (by rfl)]
  refine wp_store_rel (HV.out _ ka1) (orR (froM h) (sesM h)) _ _ rfl rfl rfl ?_
  refine hK.out _ _ (HSF.out _ ka1 _) (fun _ => ?_)
  clear hK K
  refine wpAnyH_done (by kernel_rfl) ?_ _
  have z1 := (HV.out _ ka1).setRow (orR (froM h) (sesM h))
  have z0 := (HZ.out _ ka1).far (g' := w.heap.size + 1) (by omega) (rowsA (orR (froM h) (sesM h)))
  have hb := below_setRow (HB.out _ ka1) (g := w.heap.size + 1) (by omega) (rowsA (orR (froM h) (sesM h)))
  generalize World.setRow _ _ _ = w2' at *
  clear HV HZ HB HSB HSF kd
  go_upto_region 4 with fail
  by_cases e2 : q2 = 0
  ·subst e2
   go_upto_region 6 with fail
   have HE : Hid ((orR (froM h) (sesM h)) = baseM h x) := hid (by rw [HQ.out]; unfold baseQ; rw [if_pos rfl, if_neg e1])
   clear HQ HO
   go_wp2_with (first | (with_reducible refine wpList_load_rel z1 rfl _ rfl rfl ?_) | (with_reducible refine wpList_store_rel z0 (orR (froM h) (sesM h)) rfl _ _ rfl rfl rfl ?_))
   have h3 := z0.setRow (orR (froM h) (sesM h))
   exact bodyPost_ret (results_rel rfl _ _ _ _ rfl h3) rfl ⟨ret_rel HE.out, below_setRow hb (Nat.le_refl _) _⟩
  ·go_upto_region 5 with fail
   have kd := (Below.refl w2'.heap.size w2').drew
   have HV : Hid (∀ wx, Below w2'.heap.size w2' wx → RelAt wx (w.heap.size + 1) 108 (orR (froM h) (sesM h))) := hid (fun wx hx => z1.below hx z1.lt)
   have HZ : Hid (∀ wx, Below w2'.heap.size w2' wx → RelAt wx w.heap.size 108 noR) := hid (fun wx hx => z0.below hx z0.lt)
   have HB := hid (fun wx (hx : Below w2'.heap.size w2' wx) => hb.trans (hx.mono hb.size))
   have HSB := hid (fun wx (hx : Below w2'.heap.size w2' wx) => HO.out wx (hb.trans (hx.mono hb.size)))
   have HSF : Hid (∀ wx, Below w2'.heap.size w2' wx → ∀ (cs : Array Value), OrdB (wx.setRow (w.heap.size + 1) cs) B h) := hid (fun wx hx cs => HO.out _ (below_setRow (hb.trans (hx.mono hb.size)) (by omega) cs))
   clear z1 z0 hb
   refine wp_region_held_drew (S := fun wx => OrdB wx B h) (by kernel_rfl) (HSB.out _ kd) (fun hS0 => ?_)
   refine tG (some 23) 1 ?vbw2'1 rfl rfl (Or.inl ⟨by rfl, ?hbw2'1⟩) hS0 ?rbw2'1
   case hbw2'1 => (intro w hw; go_simp; try (with_reducible rfl))
   try simp only [Act.put, zA, zB, zC]
   refine tG (some 24) 2 ?vbw2'2 rfl rfl (Or.inl ⟨by rfl, ?hbw2'2⟩) hS0 ?rbw2'2
   case hbw2'2 => (intro w hw; have hn := hw.cN; go_simp; try (with_reducible rfl))
   try simp only [Act.put, zA, zB, zC]
   refine tG (some 25) 3 ?vbw2'3 rfl rfl (Or.inl ⟨by rfl, ?hbw2'3⟩) hS0 ?rbw2'3
   case hbw2'3 => (intro w hw; have hn := hw.cN; go_simp; try (with_reducible rfl))
   try simp only [Act.put, zA, zB, zC]
   refine tG (some 26) 4 _ rfl rfl (yields_load_part (by rfl) _ rfl rfl (fun wx hx => OrdB.rT hx)) hS0 ?_
   try simp only [Act.put, zA, zB, zC]
   refine rD 0 rfl (fun K hK => ?_)
   rw [if_pos (by rfl)]
   refine wp_load_rel (HV.out _ kd) _ rfl rfl ?_
   refine hK.out _ _ hS0 (fun _ => ?_)
   clear hK K
   refine rD 5 rfl (fun K hK => ?_)
   go_simp
   refine (union_any (orR (froM h) (sesM h)) (timM h) _).mono ?_
   rintro e qbw2'1 ⟨rfl, hqbw2'1⟩
   show K _ _
   have kbw2'1 := below_then kd hqbw2'1
   have sbw2'1 := HSB.out _ kbw2'1
   refine hK.out _ _ sbw2'1 (fun _ => ?_)
   clear hK K
   refine rD 6 rfl (fun K hK => ?_)
   rw [if_pos (by rfl)]
   refine wp_store_rel (HV.out _ kbw2'1) (orR (orR (froM h) (sesM h)) (timM h)) _ _ rfl rfl rfl ?_
   refine hK.out _ _ (HSF.out _ kbw2'1 _) (fun _ => ?_)
   clear hK K
   refine wpAnyH_done (by kernel_rfl) ?_ _
   have z1 := (HV.out _ kbw2'1).setRow (orR (orR (froM h) (sesM h)) (timM h))
   have z0 := (HZ.out _ kbw2'1).far (g' := w.heap.size + 1) (by omega) (rowsA (orR (orR (froM h) (sesM h)) (timM h)))
   have hb := below_setRow (HB.out _ kbw2'1) (g := w.heap.size + 1) (by omega) (rowsA (orR (orR (froM h) (sesM h)) (timM h)))
   generalize World.setRow _ _ _ = w2'' at *
   clear HV HZ HB HSB HSF kd
   have HE : Hid ((orR (orR (froM h) (sesM h)) (timM h)) = baseM h x) := hid (by rw [HQ.out]; unfold baseQ; rw [if_neg e2, if_neg e1])
   clear HQ HO
   go_wp2_with (first | (with_reducible refine wpList_load_rel z1 rfl _ rfl rfl ?_) | (with_reducible refine wpList_store_rel z0 (orR (orR (froM h) (sesM h)) (timM h)) rfl _ _ rfl rfl rfl ?_))
   have h3 := z0.setRow (orR (orR (froM h) (sesM h)) (timM h))
   exact bodyPost_ret (results_rel rfl _ _ _ _ rfl h3) rfl ⟨ret_rel HE.out, below_setRow hb (Nat.le_refl _) _⟩
end

section
open Go.RowKit
def rivS (F : Int → Option Nat) (xs : List Int) : Nat := xs.foldl (fun s x => s ||| (F x).getD 0) 0
theorem rivS_snoc (F : Int → Option Nat) (xs : List Int) (k : Nat) (hk : k < xs.length) : rivS F (xs.take (k + 1)) = rivS F (xs.take k) ||| (F xs[k]).getD 0 := by
 unfold rivS; rw [List.take_succ_eq_append_getElem hk, List.foldl_append]; rfl
theorem isSet_or2 {a b : Nat} (ha : IsSet a) (hb : IsSet b) : IsSet (a ||| b) := by
 unfold IsSet at *
 exact Nat.or_lt_two_pow (n := 64) ha hb
theorem rivS_set {F : Int → Option Nat} (hA : AllSet F) (xs : List Int) : ∀ k, k ≤ xs.length → IsSet (rivS F (xs.take k))
 | 0, _ => by unfold rivS IsSet; simp
 | k + 1, hk => by rw [rivS_snoc F xs k (by omega)]; exact isSet_or2 (rivS_set hA xs k (by omega)) (hA _)
section
variable {w : World} {B bm m c : Nat} {n : Int} {S T F : Mat} {vk vr : Value} {sd : Bool} {Fm : Int → Option Nat} {K : List KRow}
theorem orivals_none (i : Int) (hO : OrdAt w B n S T F (.map (some bm)) vk vr sd) (hK : Rws w vk K) (hi : i < 0 ∨ K.length ≤ i) :
  Calls Tryz.prog 242 #[.pointer (some ⟨B, 0, none⟩), .int .i64 i] w fun e w' => e = .returned (.int .u64 0) ∧ Below w.heap.size w w' := by
 have q1 := hO.cK
 obtain ⟨ao, cap, rfl⟩ := hK.form
 have hf : hi = hi := rfl
 clear hO hK hf
 by_cases h0 : i < 0
 ·go_enter Tryz.func242, Tryz.ntmps242
  go_wp2_with fail
  go_ret
  exact ⟨rfl, Below.refl _ _⟩
 ·have h1 : (K.length : Int) ≤ i := by omega
  go_enter Tryz.func242, Tryz.ntmps242
  go_wp2_with fail
  go_ret
  exact ⟨rfl, Below.refl _ _⟩
theorem orivals_any (i : Nat) (hO : OrdAt w B n S T F (.map (some bm)) vk vr sd) (hM : MapI eS Tryz.prog 3 w bm m Fm c) (hA : AllSet Fm) (hK : Rws w vk K) (hk : ∀ p ∈ K, ∀ x ∈ p.2, InI x) (hi : i < K.length) :
  Calls Tryz.prog 242 #[.pointer (some ⟨B, 0, none⟩), .int .i64 i] w fun e w' => e = .returned (.int .u64 ((woS (rivS Fm K[i].2) (i : Int) : Nat) : Int)) ∧ Below w.heap.size w w' := by
 have q1 := hO.cK
 have q2 := hO.cM
 obtain ⟨ao, cap, rfl⟩ := hK.form
 obtain ⟨g, o, hao, c0, hin⟩ := hK.at hi
 cases hao
 have hii : (i : Int) < (K.length : Int) := by omega
 have HIK := hid (hk _ (List.getElem_mem hi))
 have HIN := hid (fun wx (hx : Below w.heap.size w wx) => hin.below hx)
 have HM := hid (fun wx (hx : Below w.heap.size w wx) => hM.below hx)
 have HC := hid (fun wx (hx : Below w.heap.size w wx) => (hx.cell (p := ⟨B, 193, none⟩) (block_lt q2)).trans q2)
 have HA := hid hA
 generalize K[i] = p at *
 obtain ⟨v, xs⟩ := p
 simp only at c0 hin HIK HIN
 obtain ⟨ax, cx, rfl, hxl⟩ := hin.form
 clear hO hM hA hK hk hin
 go_enter Tryz.func242, Tryz.ntmps242
 go_wp2_with fail
 have e1 : decide ((i : Int) < 0) = false := decide_eq_false (by omega)
 have e2 : decide (K.length ≤ i) = false := decide_eq_false (by omega)
 simp only [e1, e2, Bool.or_self]
 clear e1 e2 c0 q1 hii
 go_loopw [5, 27] (fun s j wr => ∃ k : Nat, k ≤ xs.length ∧ j = .int .i64 k ∧ s = .int .u64 ((rivS Fm (xs.take k) : Nat) : Int) ∧ Below w.heap.size w wr) (fun _ j _ => xs.length - (intOf j).toNat)
 case atStart => exact ⟨0, by omega, rfl, rfl, Below.refl _ _⟩
 case round =>
  obtain ⟨k, hk, rfl, rfl, hb⟩ := hrel
  have hset := rivS_set HA.out xs k hk
  by_cases hlt : k < xs.length
  ·have hki : (k : Int) < (xs.length : Int) := by omega
   obtain ⟨g2, o2, hao2, e0⟩ := (HIN.out _ hb).at hlt
   cases hao2
   have HS := hid (rivS_snoc Fm xs k hlt)
   have hkv := HIK.out xs[k] (List.getElem_mem hlt)
   have hset2 := HA.out xs[k]
   have hM2 := HM.out _ hb
   have q3 := HC.out _ hb
   generalize xs[k] = x at *
   generalize rivS Fm (xs.take k) = a at *
   have HR := hid (Go.bits_or_u64_nat a ((Fm x).getD 0) hset hset2)
   go_wp2_with (at_lookup; refine wpList_lookI _ rfl _ _ 109 rfl 3 106 keyI mapIS 0 (zeroS _) _ _ _ _ rfl hM2 _ rfl hkv ?_; simp only [eS])
   go_roundw
   case rel => exact ⟨k + 1, by omega, by go_num, by rw [HS.out]; exact congrArg _ HR.out, hb⟩
   case measure => simp [intOf]; omega
  ·have hk2 : k = xs.length := by omega
   subst hk2
   rw [List.take_length] at *
   have CW := hid (fun wx => wo_any (rivS Fm xs) (i : Int) wx hset)
   go_wp2_with fail
   refine (CW.out _).mono ?_
   rintro e w1 ⟨rfl, rfl⟩
   go_wp2_with fail
   go_ret
   exact ⟨rfl, hb⟩
end
end

section
open Go.RowKit
theorem mayop_any (wr : Bool) (key val : Int) (w : World) :
  Calls Tryz.prog 130 #[.agg #[.bool wr, .int .i64 key, .int .i64 val]] w fun e w' => e = .returned (.bool (mayO ⟨wr, key, val⟩)) ∧ Below w.heap.size w w' := by
 have hi : mayO ⟨wr, key, val⟩ = true ↔ (0 ≤ key ∧ key < 64) ∧ (0 ≤ val ∧ val ≤ 2147483647) ∧ (wr = true → val ≠ 0) := mayO_iff ⟨wr, key, val⟩
 have hb := box_below w (.cells #[.bool wr, .int .i64 key, .int .i64 val] 79)
 have NO : Hid (¬ ((0 ≤ key ∧ key < 64) ∧ (0 ≤ val ∧ val ≤ 2147483647) ∧ (wr = true → val ≠ 0)) → false = mayO ⟨wr, key, val⟩) := hid (fun h => by
  cases hm : mayO ⟨wr, key, val⟩
  ·rfl
  ·exact absurd (hi.1 hm) h)
 by_cases d1 : key < 0
 ·have H := hid (NO.out (by omega))
  go_enter Tryz.func130, Tryz.ntmps130
  go_wp2_with fail
  go_ret
  exact ⟨ret_b H.out, hb⟩
 by_cases d2 : (63 : Int) < key
 ·have H := hid (NO.out (by omega))
  go_enter Tryz.func130, Tryz.ntmps130
  go_wp2_with fail
  go_ret
  exact ⟨ret_b H.out, hb⟩
 by_cases d3 : val < 0
 ·have H := hid (NO.out (by omega))
  go_enter Tryz.func130, Tryz.ntmps130
  go_wp2_with fail
  go_ret
  exact ⟨ret_b H.out, hb⟩
 by_cases d4 : (2147483647 : Int) < val
 ·have H := hid (NO.out (by omega))
  go_enter Tryz.func130, Tryz.ntmps130
  go_wp2_with fail
  go_ret
  exact ⟨ret_b H.out, hb⟩
 cases wr
 ·have H : Hid (true = mayO ⟨false, key, val⟩) := hid (hi.2 ⟨by omega, by omega, fun h => by cases h⟩).symm
  clear hi NO
  go_enter Tryz.func130, Tryz.ntmps130
  go_wp2_with fail
  go_ret
  exact ⟨ret_b H.out, hb⟩
 ·by_cases d5 : val = 0
  ·have H := hid (NO.out (fun h => h.2.2 rfl d5))
   subst d5
   clear hi NO
   go_enter Tryz.func130, Tryz.ntmps130
   go_wp2_with fail
   go_ret
   exact ⟨ret_b H.out, hb⟩
  ·have H : Hid (true = mayO ⟨true, key, val⟩) := hid (hi.2 ⟨by omega, by omega, fun _ => d5⟩).symm
   have d6 : (val != 0) = true := by simpa using d5
   clear hi NO d5
   go_enter Tryz.func130, Tryz.ntmps130
   go_wp2_with fail
   go_ret
   exact ⟨ret_b H.out, hb⟩
theorem maytxn_any (s b c : Int) (va : Value) (l : List OpV) (w : World) (ha : Ops w va l) :
  Calls Tryz.prog 80 #[.agg #[.int .i64 s, .int .i64 b, .int .i64 c, va]] w fun e w' => e = .returned (.bool (mayT s b c l)) ∧ Below w.heap.size w w' := by
 obtain ⟨ao, cap, rfl, hal⟩ := ha.form
 have hb0 := (Below.refl w.heap.size w).alloc (Nat.le_refl _) (.cells #[.int .i64 s, .int .i64 b, .int .i64 c, .slice ao l.length cap] 83)
 have hA0 := At.new w (.cells #[.int .i64 s, .int .i64 b, .int .i64 c, .slice ao l.length cap] 83)
 have NO : Hid (¬ (0 ≤ s ∧ s < 64 ∧ 0 ≤ b ∧ b < c ∧ c ≤ 2147483647 ∧ 1 ≤ l.length ∧ l.length ≤ 64) → false = mayT s b c l) := hid (fun h => (mayT_no h).symm)
 by_cases d1 : s < 0
 ·have H := hid (NO.out (by omega))
  go_enter Tryz.func80, Tryz.ntmps80
  go_wp2_with fail
  go_ret
  exact ⟨ret_b H.out, hb0⟩
 by_cases d2 : (63 : Int) < s
 ·have H := hid (NO.out (by omega))
  go_enter Tryz.func80, Tryz.ntmps80
  go_wp2_with fail
  go_ret
  exact ⟨ret_b H.out, hb0⟩
 by_cases d3 : b < 0
 ·have H := hid (NO.out (by omega))
  go_enter Tryz.func80, Tryz.ntmps80
  go_wp2_with fail
  go_ret
  exact ⟨ret_b H.out, hb0⟩
 by_cases d4 : c ≤ b
 ·have H := hid (NO.out (by omega))
  go_enter Tryz.func80, Tryz.ntmps80
  go_wp2_with fail
  go_ret
  exact ⟨ret_b H.out, hb0⟩
 by_cases d5 : (2147483647 : Int) < c
 ·have H := hid (NO.out (by omega))
  go_enter Tryz.func80, Tryz.ntmps80
  go_wp2_with fail
  go_ret
  exact ⟨ret_b H.out, hb0⟩
 by_cases d6 : (l.length : Int) < 1
 ·have H := hid (NO.out (by omega))
  go_enter Tryz.func80, Tryz.ntmps80
  go_wp2_with fail
  go_ret
  exact ⟨ret_b H.out, hb0⟩
 by_cases d7 : (64 : Int) < (l.length : Int)
 ·have H := hid (NO.out (by omega))
  go_enter Tryz.func80, Tryz.ntmps80
  go_wp2_with fail
  go_ret
  exact ⟨ret_b H.out, hb0⟩
 have YES : Hid (mayT s b c l = allM l) := hid (mayT_yes (by omega))
 clear NO
 go_enter Tryz.func80, Tryz.ntmps80
 go_wp2_with fail
 clear d1 d2 d3 d4 d5 d6 d7
 go_loopw [3] (fun i wr => ∃ k : Nat, k ≤ l.length ∧ i = .int .i64 k ∧ allM (l.take k) = true ∧ At wr w.heap.size (.cells #[.int .i64 s, .int .i64 b, .int .i64 c, .slice ao l.length cap] 83) ∧ Below w.heap.size w wr) (fun i _ => l.length - (intOf i).toNat)
 case atStart => exact ⟨0, by omega, rfl, rfl, hA0, hb0⟩
 case round =>
  obtain ⟨k, hk, rfl, hal2, hA, hb⟩ := hrel
  have HA := hid hal2
  clear hal2 hb0 hA0
  obtain ⟨q0, q1, q2, q3⟩ := hA.cells4
  by_cases hlt : k < l.length
  ·have hki : (k : Int) < (l.length : Int) := by omega
   obtain ⟨g, o, hao, c0, c1, c2⟩ := (ha.below hb).at hlt
   cases hao
   have HS := hid (allM_succ l k hlt)
   have HNO := hid (allM_no l k hlt)
   generalize l[k] = x at *
   obtain ⟨xw, xk, xv⟩ := x
   try simp only at c0 c1 c2
   have CR := hid (mayop_any xw xk xv wr)
   generalize mayO ⟨xw, xk, xv⟩ = q at *
   go_wp2_with fail
   refine (CR.out).mono ?_
   rintro e w1 ⟨rfl, hb1⟩
   have hb2 := below_then hb hb1
   have hA1 := hA.below hb1
   clear CR q0 q1 q2 q3
   cases q
   ·have H : Hid (false = mayT s b c l) := hid (by rw [YES.out, HNO.out rfl])
    go_wp2_with fail
    go_ret
    exact ⟨ret_b H.out, hb2⟩
   ·have H : Hid (allM (l.take (k + 1)) = true) := hid (by rw [HS.out, HA.out]; rfl)
    go_wp2_with fail
    go_roundw
    case rel => exact ⟨k + 1, by omega, by go_num, H.out, hA1, hb2⟩
    case measure => simp [intOf]; omega
  ·have hkl : k = l.length := by omega
   have H : Hid (true = mayT s b c l) := hid (by have := HA.out; rw [hkl, List.take_length] at this; rw [YES.out, this])
   go_wp2_with fail
   go_ret
   exact ⟨ret_b H.out, hb⟩
def tmO (x : Int) (l : List OpV) : Nat := (wv l).count x
def tmH (x : Int) (h : List TxnV) : Nat := (wvH h).count x
theorem tmO_succ (x : Int) (l : List OpV) (k : Nat) (hk : k < l.length) : tmO x (l.take (k + 1)) = tmO x (l.take k) + (if l[k].wr = true ∧ l[k].val = x then 1 else 0) := by
 unfold tmO
 rw [take_snoc l k hk, wv_snoc, List.count_append]
 cases hw : l[k].wr
 ·simp
 ·by_cases e : l[k].val = x <;> simp [e]
theorem tmH_succ (x : Int) (h : List TxnV) (k : Nat) (hk : k < h.length) : tmH x (h.take (k + 1)) = tmH x (h.take k) + tmO x h[k].l := by
 unfold tmH tmO; rw [wvH_succ h k hk, List.count_append]
theorem tmO_le (x : Int) (l : List OpV) (k : Nat) : tmO x (l.take k) ≤ k := by
 unfold tmO
 have h1 := List.count_le_length (a := x) (l := wv (l.take k))
 have h2 := wv_len (l.take k)
 rw [List.length_take] at h2
 omega
theorem tmH_le (x : Int) (h : List TxnV) : tmH x h ≤ opsN h := by
 unfold tmH
 have h1 := List.count_le_length (a := x) (l := wvH h)
 have h2 : (wvH h).length ≤ opsN h := by
  unfold wvH opsN
  rw [List.length_flatMap]
  clear h1
  induction h with
  | nil => simp
  | cons t h ih =>
   have := wv_len t.l
   simp only [List.map_cons, List.sum_cons]
   omega
 omega
theorem times_any (va : Value) (h : List TxnV) (x : Int) (w : World) (hT : Txns w va h) (hn : opsN h ≤ 100000) :
  Calls Tryz.prog 81 #[va, .int .i64 x] w fun e w' => e = .returned (.int .i64 (tmH x h)) ∧ Below w.heap.size w w' := by
 obtain ⟨ao, cap, rfl, hal⟩ := hT.form
 go_enter Tryz.func81, Tryz.ntmps81
 go_wp2_with fail
 go_loopw [5, 6] (fun n i wr => ∃ k : Nat, k ≤ h.length ∧ i = .int .i64 k ∧ n = .int .i64 (tmH x (h.take k)) ∧ w = wr) (fun _ i _ => h.length - (intOf i).toNat)
 case atStart => exact ⟨0, by omega, rfl, by simp [tmH, wvH], rfl⟩
 case round =>
  obtain ⟨k, hk, rfl, rfl, rfl⟩ := hrel
  by_cases hlt : k < h.length
  ·have hki : (k : Int) < (h.length : Int) := by omega
   obtain ⟨g, o, hao, c0, c1, c2, c3⟩ := hT.at hlt
   cases hao
   have HS := hid (tmH_succ x h k hlt)
   have hle1 := tmH_le x (h.take k)
   have hle2 := opsN_le h k
   have hle3 := opsN_at h k hlt
   obtain ⟨ai, capi, hv, hli⟩ := (hT.ops hlt).form
   have hO := hT.ops hlt
   rw [hv] at c3 hO
   generalize h[k].l = l at *
   generalize tmH x (h.take k) = m at *
   clear hv c0 c1 c2 hT
   go_wp2_with fail
   go_loopw [5, 7] (fun n i wx => ∃ j : Nat, j ≤ l.length ∧ i = .int .i64 j ∧ n = .int .i64 ((m + tmO x (l.take j) : Nat)) ∧ w = wx) (fun _ i _ => l.length - (intOf i).toNat)
   case atStart => exact ⟨0, by omega, rfl, by simp [tmO, wv], rfl⟩
   case round =>
    obtain ⟨j, hj, rfl, rfl, rfl⟩ := hrel
    have htj := tmO_le x l j
    by_cases hltj : j < l.length
    ·have hkj : (j : Int) < (l.length : Int) := by omega
     obtain ⟨g2, o2, hao2, e0, e1, e2⟩ := hO.at hltj
     cases hao2
     have HSJ := hid (tmO_succ x l j hltj)
     generalize l[j] = y at *
     obtain ⟨yw, yk, yv⟩ := y
     try simp only at e0 e1 e2
     generalize tmO x (l.take j) = n at *
     cases yw with
     | false =>
      have H : Hid (tmO x (l.take (j + 1)) = n) := hid (by rw [HSJ.out]; simp)
      clear HSJ
      go_wp2_with fail
      go_roundw
      case rel => exact ⟨j + 1, by omega, by go_num, by rw [H.out], by first | rfl | trivial⟩
      case measure => simp [intOf]; omega
     | true =>
      by_cases hx : yv = x
      ·have H : Hid (tmO x (l.take (j + 1)) = n + 1) := hid (by rw [HSJ.out]; simp [hx])
       subst hx
       clear HSJ
       go_wp2_with fail
       go_roundw
       case rel => exact ⟨j + 1, by omega, by go_num, by rw [H.out]; go_num, by first | rfl | trivial⟩
       case measure => simp [intOf]; omega
      ·have H : Hid (tmO x (l.take (j + 1)) = n) := hid (by rw [HSJ.out]; simp [hx])
       have hx' : (yv == x) = false := by simpa using hx
       clear HSJ hx
       go_wp2_with fail
       go_roundw
       case rel => exact ⟨j + 1, by omega, by go_num, by rw [H.out], by first | rfl | trivial⟩
       case measure => simp [intOf]; omega
    ·have hj2 : j = l.length := by omega
     subst hj2
     have H : Hid (tmH x (h.take (k + 1)) = m + tmO x (l.take l.length)) := hid (by rw [HS.out, List.take_length])
     generalize tmO x (l.take l.length) = n at *
     go_wp2_with fail
     go_roundw
     case rel => exact ⟨k + 1, by omega, by go_num, by rw [H.out], by first | rfl | trivial⟩
     case measure => simp [intOf]; omega
  ·have hkl : k = h.length := by omega
   subst hkl
   have H : Hid ((tmH x (h.take h.length) : Int) = tmH x h) := hid (by rw [List.take_length])
   generalize tmH x (h.take h.length) = n at *
   go_wp2_with fail
   go_ret
   exact ⟨ret_int H.out, Below.refl _ _⟩
end

section
open Go.RowKit
def isWr (key x : Int) (o : OpV) : Bool := o.wr && (o.key == key && o.val == x)
def wrI (key x : Int) (h : List TxnV) : Int := match h.findIdx? (fun t => t.l.any (isWr key x)) with
 | some i => i
 | none => -1
theorem wrI_hit {key x : Int} {h : List TxnV} {k j : Nat} (hk : k < h.length) (hj : j < h[k].l.length) (hn : ∀ i, ∀ hi : i < k, (h[i]'(by omega)).l.any (isWr key x) = false) (hh : isWr key x h[k].l[j] = true) : wrI key x h = k := by
 unfold wrI
 have : h.findIdx? (fun t => t.l.any (isWr key x)) = some k := by
  rw [List.findIdx?_eq_some_iff_getElem]
  exact ⟨hk, List.any_eq_true.2 ⟨_, List.getElem_mem hj, hh⟩, fun i hi => by rw [hn i hi]; simp⟩
 rw [this]
theorem wrI_none {key x : Int} {h : List TxnV} (hn : ∀ i, ∀ hi : i < h.length, h[i].l.any (isWr key x) = false) : wrI key x h = -1 := by
 unfold wrI
 have : h.findIdx? (fun t => t.l.any (isWr key x)) = none := by
  rw [List.findIdx?_eq_none_iff]
  intro t ht
  obtain ⟨i, hi, rfl⟩ := List.getElem_of_mem ht
  exact hn i hi
 rw [this]
theorem wrI_nonneg {key x : Int} {h : List TxnV} : wrI key x h < 0 ↔ ∀ t ∈ h, ∀ o ∈ t.l, isWr key x o = false := by
 unfold wrI
 cases hf : h.findIdx? (fun t => t.l.any (isWr key x)) with
 | none =>
  rw [List.findIdx?_eq_none_iff] at hf
  simp only [Int.reduceNeg, Int.reduceLT, true_iff]
  intro t ht o ho
  have := List.any_eq_false.1 (hf t ht) o ho
  simpa using this
 | some i =>
  rw [List.findIdx?_eq_some_iff_getElem] at hf
  obtain ⟨hi, h1, _⟩ := hf
  constructor
  ·intro h2; simp only at h2; omega
  ·intro h2
   obtain ⟨o, ho, hw⟩ := List.any_eq_true.1 h1
   rw [h2 _ (List.getElem_mem hi) o ho] at hw
   cases hw
theorem writer_any (va : Value) (h : List TxnV) (key x : Int) (w : World) (hT : Txns w va h) :
  Calls Tryz.prog 82 #[va, .int .i64 key, .int .i64 x] w fun e w' => e = .returned (.int .i64 (wrI key x h)) ∧ Below w.heap.size w w' := by
 obtain ⟨ao, cap, rfl, hal⟩ := hT.form
 have HT := hid (fun wx (hx : Below w.heap.size w wx) => hT.below hx)
 have HHIT : Hid (∀ k j, ∀ hk : k < h.length, ∀ hj : j < h[k].l.length, (∀ i, ∀ hi : i < k, (h[i]'(by omega)).l.any (isWr key x) = false) → isWr key x h[k].l[j] = true → (k : Int) = wrI key x h) := hid (fun k j hk hj hn hh => (wrI_hit hk hj hn hh).symm)
 have HNONE : Hid ((∀ i, ∀ hi : i < h.length, h[i].l.any (isWr key x) = false) → (-1 : Int) = wrI key x h) := hid (fun hn => (wrI_none hn).symm)
 clear hT
 go_enter Tryz.func82, Tryz.ntmps82
 go_wp2_with fail
 go_loopw [7] (fun i wr => ∃ k : Nat, k ≤ h.length ∧ i = .int .i64 k ∧ (∀ i, ∀ _ : i < k, ∀ hi2 : i < h.length, h[i].l.any (isWr key x) = false) ∧ Below w.heap.size w wr) (fun i _ => h.length - (intOf i).toNat)
 case atStart => exact ⟨0, by omega, rfl, by omega, Below.refl _ _⟩
 case round =>
  obtain ⟨k, hk, rfl, hN, hb⟩ := hrel
  have HN := hid hN
  clear hN
  by_cases hlt : k < h.length
  ·have hki : (k : Int) < (h.length : Int) := by omega
   obtain ⟨g, o, hao, c0, c1, c2, c3⟩ := (HT.out _ hb).at hlt
   cases hao
   have HOP := hid (fun wx (hx : Below w.heap.size w wx) => (HT.out wx hx).ops hlt)
   have HAT := hid (fun wx (hx : Below w.heap.size w wx) => (HT.out wx hx).at hlt)
   have HHK := hid (fun j hj hh => HHIT.out k j hlt hj (fun i hi => HN.out i hi (by omega)) hh)
   have HLK : Hid (h[k].l.any (isWr key x) = false → ∀ i, ∀ _ : i < k + 1, ∀ hi2 : i < h.length, h[i].l.any (isWr key x) = false) := hid (fun hh i hi hi2 => by
    rcases Nat.lt_or_eq_of_le (Nat.le_of_lt_succ hi) with h1 | rfl
    ·exact HN.out i h1 hi2
    ·exact hh)
   obtain ⟨ai, capi, hv, hli⟩ := ((HT.out _ hb).ops hlt).form
   rw [hv] at HOP c3 HAT
   generalize h[k].l = l at *
   clear hv c0 c1 c2 c3 HHIT HNONE
   go_wp2_with fail
   go_loopw [8] (fun i wx => ∃ j : Nat, j ≤ l.length ∧ i = .int .i64 j ∧ ((l.take j).any (isWr key x) = false) ∧ Below w.heap.size w wx) (fun i _ => l.length - (intOf i).toNat)
   case atStart => exact ⟨0, by omega, rfl, rfl, hb⟩
   case round =>
    obtain ⟨j, hj, rfl, hA, hb2⟩ := hrel
    have HA := hid hA
    clear hA hb
    obtain ⟨_, _, hao, c0, c1, c2, c3⟩ := HAT.out _ hb2
    cases hao
    clear c0 c1 c2
    by_cases hltj : j < l.length
    ·have hkj : (j : Int) < (l.length : Int) := by omega
     obtain ⟨g2, o2, hao2, e0, e1, e2⟩ := (HOP.out _ hb2).at hltj
     cases hao2
     have HS : Hid ((l.take (j + 1)).any (isWr key x) = ((l.take j).any (isWr key x) || isWr key x l[j])) := hid (by rw [take_snoc l j hltj, List.any_append]; simp)
     have HH := hid (HHK.out j hltj)
     generalize l[j] = y at *
     obtain ⟨yw, yk, yv⟩ := y
     try simp only at e0 e1 e2
     have hb3 := hb2.alloc hb2.size (.cells #[.bool yw, .int .i64 yk, .int .i64 yv] 79)
     clear HHK
     cases yw with
     | false =>
      have H : Hid ((l.take (j + 1)).any (isWr key x) = false) := hid (by rw [HS.out, HA.out]; rfl)
      clear HS HH
      go_wp2_with fail
      go_roundw
      case rel => exact ⟨j + 1, by omega, by go_num, H.out, hb3⟩
      case measure => simp [intOf]; omega
     | true =>
      by_cases hyk : yk = key
      ·subst hyk
       by_cases hyv : yv = x
       ·have H := hid (HH.out (by subst hyv; unfold isWr; simp))
        subst hyv
        clear HS HH
        go_wp2_with fail
        go_ret
        exact ⟨ret_int H.out, hb3⟩
       ·have H : Hid ((l.take (j + 1)).any (isWr yk x) = false) := hid (by rw [HS.out, HA.out]; unfold isWr; simp [hyv])
        have hyv' : (yv == x) = false := by simpa using hyv
        clear HS HH hyv
        go_wp2_with fail
        go_roundw
        case rel => exact ⟨j + 1, by omega, by go_num, H.out, hb3⟩
        case measure => simp [intOf]; omega
      ·have H : Hid ((l.take (j + 1)).any (isWr key x) = false) := hid (by rw [HS.out, HA.out]; unfold isWr; simp [hyk])
       have hyk' : (yk == key) = false := by simpa using hyk
       clear HS HH hyk
       go_wp2_with fail
       go_roundw
       case rel => exact ⟨j + 1, by omega, by go_num, H.out, hb3⟩
       case measure => simp [intOf]; omega
    ·have hj2 : j = l.length := by omega
     subst hj2
     have H := hid (HLK.out (by have := HA.out; rwa [List.take_length] at this))
     go_wp2_with fail
     go_roundw
     case rel => exact ⟨k + 1, by omega, by go_num, H.out, hb2⟩
     case measure => simp [intOf]; omega
  ·have hkl : k = h.length := by omega
   subst hkl
   have H := hid (HNONE.out (fun i hi => HN.out i hi hi))
   clear HHIT HNONE
   go_wp2_with fail
   go_ret
   exact ⟨ret_int H.out, hb⟩
end

section
open Go.RowKit
def apartB (a t : TxnV) : Bool := (a.b != t.b && (a.b != t.c && (a.c != t.b && a.c != t.c))) && !(a.s == t.s && decide (t.b < a.c))
def opR (h : List TxnV) (o : OpV) : Bool := if o.wr then tmH o.val h == 1 else o.val == 0 || !decide (wrI o.key o.val h < 0)
def rowR (h : List TxnV) (k : Nat) (t : TxnV) : Bool := mayT t.s t.b t.c t.l && ((h.take k).all (fun a => apartB a t) && t.l.all (opR h))
def mayRef (h : List TxnV) : Bool := (List.range h.length).all fun k => match h[k]? with
 | some t => rowR h k t
 | none => true
theorem mayRef_no {h : List TxnV} {k : Nat} (hk : k < h.length) (hn : rowR h k h[k] = false) : mayRef h = false := by
 unfold mayRef
 rw [List.all_eq_false]
 exact ⟨k, List.mem_range.2 hk, by rw [List.getElem?_eq_getElem hk]; simp [hn]⟩
theorem mayRef_yes {h : List TxnV} (hn : ∀ k, ∀ hk : k < h.length, rowR h k h[k] = true) : mayRef h = true := by
 unfold mayRef
 rw [List.all_eq_true]
 intro k hk
 have := List.mem_range.1 hk
 rw [List.getElem?_eq_getElem this]; exact hn k this
theorem rowR_a {h : List TxnV} {k : Nat} {t : TxnV} (hn : mayT t.s t.b t.c t.l = false) : rowR h k t = false := by unfold rowR; rw [hn]; rfl
theorem rowR_b {h : List TxnV} {k : Nat} {t : TxnV} {j : Nat} (hj : j < k) (hk : k ≤ h.length) (hn : apartB (h[j]'(by omega)) t = false) : rowR h k t = false := by
 unfold rowR
 have : (h.take k).all (fun a => apartB a t) = false := List.all_eq_false.2 ⟨h[j]'(by omega), by rw [List.mem_take_iff_getElem]; exact ⟨j, by omega, rfl⟩, by simp [hn]⟩
 rw [this]; simp
theorem rowR_c {h : List TxnV} {k : Nat} {t : TxnV} {j : Nat} (hj : j < t.l.length) (hn : opR h t.l[j] = false) : rowR h k t = false := by
 unfold rowR
 have : t.l.all (opR h) = false := List.all_eq_false.2 ⟨t.l[j], List.getElem_mem hj, by simp [hn]⟩
 rw [this]; simp
theorem rmay_any (va : Value) (h : List TxnV) (w : World) (hT : Txns w va h) (hn : opsN h ≤ 100000) :
  Calls Tryz.prog 38 #[va] w fun e w' => e = .returned (.bool (mayRef h)) ∧ Below w.heap.size w w' := by
 obtain ⟨ao, cap, rfl, hal⟩ := hT.form
 have HT := hid (fun wx (hx : Below w.heap.size w wx) => hT.below hx)
 have HNO : Hid (∀ k, ∀ hk : k < h.length, rowR h k h[k] = false → false = mayRef h) := hid (fun k hk hh => (mayRef_no hk hh).symm)
 have HTM : Hid (∀ x wx, Below w.heap.size w wx → Calls Tryz.prog 81 #[.slice ao h.length cap, .int .i64 x] wx fun e w' => e = .returned (.int .i64 (tmH x h)) ∧ Below wx.heap.size wx w') := hid (fun x wx hx => times_any _ h x wx (hT.below hx) hn)
 have HWR : Hid (∀ key x wx, Below w.heap.size w wx → Calls Tryz.prog 82 #[.slice ao h.length cap, .int .i64 key, .int .i64 x] wx fun e w' => e = .returned (.int .i64 (wrI key x h)) ∧ Below wx.heap.size wx w') := hid (fun key x wx hx => writer_any _ h key x wx (hT.below hx))
 clear hT
 go_enter Tryz.func38, Tryz.ntmps38
 go_wp2_with fail
 go_loopw [3] (fun i wr => ∃ k : Nat, k ≤ h.length ∧ i = .int .i64 k ∧ (∀ j, ∀ _ : j < k, ∀ hj : j < h.length, rowR h j h[j] = true) ∧ Below w.heap.size w wr) (fun i _ => h.length - (intOf i).toNat)
 case atStart => exact ⟨0, by omega, rfl, by omega, Below.refl _ _⟩
 case round =>
  obtain ⟨k, hk, rfl, hN, hb⟩ := hrel
  have HN := hid hN
  clear hN
  by_cases hlt : k < h.length
  ·have hki : (k : Int) < (h.length : Int) := by omega
   obtain ⟨g, o, hao, c0, c1, c2, c3⟩ := (HT.out _ hb).at hlt
   cases hao
   have HOP := hid (fun wx (hx : Below w.heap.size w wx) => (HT.out wx hx).ops hlt)
   have HAT := hid (fun wx (hx : Below w.heap.size w wx) => (HT.out wx hx).at hlt)
   have HAJ := hid (fun wx (hx : Below w.heap.size w wx) j (hj : j < h.length) => (HT.out wx hx).at hj)
   have HNK := hid (HNO.out k hlt)
   have HLK : Hid (rowR h k h[k] = true → ∀ i, ∀ _ : i < k + 1, ∀ hi2 : i < h.length, rowR h i h[i] = true) := hid (fun hh i hi hi2 => by
    rcases Nat.lt_or_eq_of_le (Nat.le_of_lt_succ hi) with h1 | rfl
    ·exact HN.out i h1 hi2
    ·exact hh)
   have HJV : Hid (∀ wx, Below w.heap.size w wx → ∀ j, ∀ hj : j < h.length, ∃ a' m' c', (h[j]).v = .slice a' m' c') := hid (fun wx hx j hj => by
    obtain ⟨a', c', hv', _⟩ := ((HT.out wx hx).ops hj).form
    exact ⟨a', _, c', hv'⟩)
   generalize ht : h[k] = t at *
   have HTK := hid ht
   clear ht
   obtain ⟨s, b, c, v, l⟩ := t
   simp only at c0 c1 c2 c3 HOP HAT
   obtain ⟨ai, capi, rfl, hli⟩ := (HOP.out _ hb).form
   have CM := hid (maytxn_any s b c _ l wr (HOP.out _ hb))
   clear HN
   cases hm : mayT s b c l
   ·have H := hid (HNK.out (rowR_a hm))
    rw [hm] at CM
    clear hm HNK HLK HNO
    go_wp2_with fail
    refine (CM.out).mono ?_
    rintro e w1 ⟨rfl, hb1⟩
    have hb2 := below_then hb hb1
    go_wp2_with fail
    go_ret
    exact ⟨ret_b H.out, hb2⟩
   rw [hm] at CM
   have HM := hid hm
   clear hm
   go_wp2_with fail
   refine (CM.out).mono ?_
   rintro e w1 ⟨rfl, hb1⟩
   have hb2 := below_then hb hb1
   clear CM hb hb1 c0 c1 c2 c3
   go_wp2_with fail
   go_loopw [4] (fun i wx => ∃ j : Nat, j ≤ k ∧ i = .int .i64 j ∧ ((h.take j).all (fun a => apartB a ⟨s, b, c, .slice ai l.length capi, l⟩) = true) ∧ Below w.heap.size w wx) (fun i _ => k - (intOf i).toNat)
   case atStart => exact ⟨0, by omega, rfl, rfl, hb2⟩
   case round =>
    obtain ⟨j, hj, rfl, hA, hb3⟩ := hrel
    have HA := hid hA
    clear hA hb2
    by_cases hltj : j < k
    ·have hkj : (j : Int) < (k : Int) := by omega
     have hjl : j < h.length := by omega
     have hjl' : (j : Int) < (h.length : Int) := by omega
     obtain ⟨_, _, hao, c0, c1, c2, c3⟩ := HAJ.out _ hb3 j hjl
     cases hao
     have HS : Hid ((h.take (j + 1)).all (fun a => apartB a ⟨s, b, c, .slice ai l.length capi, l⟩) = ((h.take j).all (fun a => apartB a ⟨s, b, c, .slice ai l.length capi, l⟩) && apartB h[j] ⟨s, b, c, .slice ai l.length capi, l⟩)) := hid (by rw [List.take_succ_eq_append_getElem hjl, List.all_append]; simp)
     have HB := hid (fun hh => HNK.out (rowR_b hltj hk hh))
     obtain ⟨a1, m1, cap1, hv1⟩ := HJV.out _ hb3 j hjl
     rw [hv1] at c3
     generalize h[j] = u at *
     obtain ⟨us, ub, uc, uv, ul⟩ := u
     simp only at c0 c1 c2 hv1
     subst hv1
     have hb4 := hb3.alloc hb3.size (.cells #[.int .i64 us, .int .i64 ub, .int .i64 uc, .slice a1 m1 cap1] 83)
     have hb5 := hb4.alloc hb4.size (.cells #[.int .i64 s, .int .i64 b, .int .i64 c, .slice ai l.length capi] 83)
     obtain ⟨_, _, hao, e0, e1, e2, e3⟩ := HAT.out _ hb4
     cases hao
     have HAP : Hid (apartB ⟨us, ub, uc, .slice a1 m1 cap1, ul⟩ ⟨s, b, c, .slice ai l.length capi, l⟩ = ((ub != b && (ub != c && (uc != b && uc != c))) && !(us == s && decide (b < uc)))) := hid rfl
     generalize apartB ⟨us, ub, uc, .slice a1 m1 cap1, ul⟩ ⟨s, b, c, .slice ai l.length capi, l⟩ = q at *
     cases b1 : ub == b
     case true =>
      have H := hid (HB.out (by rw [HAP.out]; simp [bne, b1]))
      clear HLK HNO HNK HB HAP HS
      go_wp2_with fail
      go_ret
      exact ⟨ret_b H.out, hb5⟩
     cases b2 : ub == c
     case true =>
      have H := hid (HB.out (by rw [HAP.out]; simp [bne, b1, b2]))
      clear HLK HNO HNK HB HAP HS
      go_wp2_with fail
      go_ret
      exact ⟨ret_b H.out, hb5⟩
     cases b3 : uc == b
     case true =>
      have H := hid (HB.out (by rw [HAP.out]; simp [bne, b1, b2, b3]))
      clear HLK HNO HNK HB HAP HS
      go_wp2_with fail
      go_ret
      exact ⟨ret_b H.out, hb5⟩
     cases b4 : uc == c
     case true =>
      have H := hid (HB.out (by rw [HAP.out]; simp [bne, b1, b2, b3, b4]))
      clear HLK HNO HNK HB HAP HS
      go_wp2_with fail
      go_ret
      exact ⟨ret_b H.out, hb5⟩
     cases b5 : us == s
     case false =>
      have H : Hid ((h.take (j + 1)).all (fun a => apartB a ⟨s, b, c, .slice ai l.length capi, l⟩) = true) := hid (by rw [HS.out, HA.out, HAP.out]; simp [bne, b1, b2, b3, b4, b5])
      clear HB HAP HS
      go_wp2_with fail
      go_roundw
      case rel => exact ⟨j + 1, by omega, by go_num, H.out, hb5⟩
      case measure => simp [intOf]; omega
     by_cases d6 : b < uc
     ·have H := hid (HB.out (by rw [HAP.out]; simp [bne, b1, b2, b3, b4, b5, d6]))
      clear HLK HNO HNK HB HAP HS
      go_wp2_with fail
      go_ret
      exact ⟨ret_b H.out, hb5⟩
     ·have H : Hid ((h.take (j + 1)).all (fun a => apartB a ⟨s, b, c, .slice ai l.length capi, l⟩) = true) := hid (by rw [HS.out, HA.out, HAP.out]; simp [bne, b1, b2, b3, b4, b5, d6])
      clear HB HAP HS
      go_wp2_with fail
      go_roundw
      case rel => exact ⟨j + 1, by omega, by go_num, H.out, hb5⟩
      case measure => simp [intOf]; omega
    ·have hjk : j = k := by omega
     subst hjk
     have HRO : Hid (rowR h j ⟨s, b, c, .slice ai l.length capi, l⟩ = l.all (opR h)) := hid (by unfold rowR; rw [HM.out, HA.out]; rfl)
     have HOO := hid (fun i hi hh => HNK.out (rowR_c (j := i) hi hh))
     clear HNK HM HA HJV HAJ
     go_wp2_with fail
     go_loopw [7] (fun i wx => ∃ m : Nat, m ≤ l.length ∧ i = .int .i64 m ∧ (l.take m).all (opR h) = true ∧ Below w.heap.size w wx) (fun i _ => l.length - (intOf i).toNat)
     case atStart => exact ⟨0, by omega, rfl, rfl, hb3⟩
     case round =>
      obtain ⟨m, hm, rfl, hA, hb4⟩ := hrel
      have HA := hid hA
      clear hA hb3
      obtain ⟨_, _, hao, c0, c1, c2, c3⟩ := HAT.out _ hb4
      cases hao
      clear c0 c1 c2
      by_cases hltm : m < l.length
      ·have hkm : (m : Int) < (l.length : Int) := by omega
       obtain ⟨g2, o2, hao2, e0, e1, e2⟩ := (HOP.out _ hb4).at hltm
       cases hao2
       have HS : Hid ((l.take (m + 1)).all (opR h) = ((l.take m).all (opR h) && opR h l[m])) := hid (by rw [take_snoc l m hltm, List.all_append]; simp)
       have HB := hid (HOO.out m hltm)
       generalize l[m] = y at *
       obtain ⟨yw, yk, yv⟩ := y
       try simp only at e0 e1 e2
       have hb5 := hb4.alloc hb4.size (.cells #[.bool yw, .int .i64 yk, .int .i64 yv] 79)
       have HOR : Hid (opR h ⟨yw, yk, yv⟩ = if yw then tmH yv h == 1 else yv == 0 || !decide (wrI yk yv h < 0)) := hid rfl
       generalize opR h ⟨yw, yk, yv⟩ = q at *
       cases yw with
       | true =>
        simp only [if_true] at HOR
        have CT := hid (HTM.out yv _ hb5)
        generalize tmH yv h = n at *
        cases hn1 : n == 1
        ·have H := hid (HB.out (by rw [HOR.out, hn1]))
         have hn2 : ((n : Int) != 1) = true := by simp at hn1 ⊢; omega
         clear HLK HNO HOO HB HOR HS hn1
         go_wp2_with fail
         refine (CT.out).mono ?_
         rintro e w6 ⟨rfl, hb6⟩
         have hb7 := below_then hb5 hb6
         go_wp2_with fail
         go_ret
         exact ⟨ret_b H.out, hb7⟩
        ·have H : Hid ((l.take (m + 1)).all (opR h) = true) := hid (by rw [HS.out, HA.out, HOR.out, hn1]; rfl)
         obtain rfl : n = 1 := by simpa using hn1
         change Hid (Calls _ _ _ _ fun e w' => e = .returned (.int .i64 1) ∧ _) at CT
         clear HB HOR HS hn1
         obtain ⟨x0, x1, x2⟩ := opBlock wr (.bool true) (.int .i64 yk) (.int .i64 yv) 79
         go_wp2_with fail
         refine (CT.out).mono ?_
         rintro e w6 ⟨rfl, hb6⟩
         have hb7 := below_then hb5 hb6
         have z0 := (hb6.cell (p := ⟨wr.heap.size, 0, none⟩) (block_lt x0)).trans x0
         have z1 := (hb6.cell (p := ⟨wr.heap.size, 1, none⟩) (block_lt x1)).trans x1
         have z2 := (hb6.cell (p := ⟨wr.heap.size, 2, none⟩) (block_lt x2)).trans x2
         clear x0 x1 x2
         go_wp2_with fail
         go_roundw
         case rel => exact ⟨m + 1, by omega, by go_num, H.out, hb7⟩
         case measure => simp [intOf]; omega
       | false =>
        simp only [Bool.false_eq_true, if_false] at HOR
        cases hz : yv == 0
        ·have hz2 : (yv != 0) = true := by simp [bne, hz]
         have CW := hid (HWR.out yk yv _ hb5)
         generalize wrI yk yv h = n at *
         by_cases hneg : n < 0
         ·have H := hid (HB.out (by rw [HOR.out, hz]; simp [hneg]))
          clear HLK HNO HOO HB HOR HS
          go_wp2_with fail
          refine (CW.out).mono ?_
          rintro e w6 ⟨rfl, hb6⟩
          have hb7 := below_then hb5 hb6
          go_wp2_with fail
          go_ret
          exact ⟨ret_b H.out, hb7⟩
         ·have H : Hid ((l.take (m + 1)).all (opR h) = true) := hid (by rw [HS.out, HA.out, HOR.out, hz]; simp [hneg])
          clear HB HOR HS
          go_wp2_with fail
          refine (CW.out).mono ?_
          rintro e w6 ⟨rfl, hb6⟩
          have hb7 := below_then hb5 hb6
          go_wp2_with fail
          go_roundw
          case rel => exact ⟨m + 1, by omega, by go_num, H.out, hb7⟩
          case measure => simp [intOf]; omega
        ·have hz2 : (yv != 0) = false := by simp [bne, hz]
         have H : Hid ((l.take (m + 1)).all (opR h) = true) := hid (by rw [HS.out, HA.out, HOR.out, hz]; rfl)
         clear HB HOR HS
         go_wp2_with fail
         go_roundw
         case rel => exact ⟨m + 1, by omega, by go_num, H.out, hb5⟩
         case measure => simp [intOf]; omega
      ·have hm2 : m = l.length := by omega
       subst hm2
       have H := hid (HLK.out (by rw [HRO.out]; have := HA.out; rwa [List.take_length] at this))
       go_wp2_with fail
       go_roundw
       case rel => exact ⟨j + 1, by omega, by go_num, H.out, hb4⟩
       case measure => simp [intOf]; omega
  ·have hkl : k = h.length := by omega
   subst hkl
   have H : Hid (true = mayRef h) := hid (mayRef_yes (fun k hk => HN.out k hk hk)).symm
   clear HNO HTM HWR
   go_wp2_with fail
   go_ret
   exact ⟨ret_b H.out, hb⟩
end

section
open Go.RowKit
def wrs (h : List TxnV) : List OpV := h.flatMap fun t => t.l.filter (·.wr)
theorem wvH_map (h : List TxnV) : wvH h = (wrs h).map (·.val) := by unfold wvH wrs wv; rw [List.map_flatMap]
theorem wrs_mem {h : List TxnV} {o : OpV} : o ∈ wrs h ↔ ∃ t ∈ h, o ∈ t.l ∧ o.wr = true := by unfold wrs; simp
theorem inj_val : ∀ {L : List OpV}, (L.map (·.val)).Nodup → ∀ {o p : OpV}, o ∈ L → p ∈ L → o.val = p.val → o = p
 | a :: L, hd, o, p, ho, hp, e => by
  rw [List.map_cons, List.nodup_cons] at hd
  rcases List.mem_cons.1 ho with rfl | ho
  ·rcases List.mem_cons.1 hp with rfl | hp
   ·rfl
   ·exact absurd (List.mem_map.2 ⟨p, hp, e.symm⟩) hd.1
  ·rcases List.mem_cons.1 hp with hpe | hp
   ·exact absurd (List.mem_map.2 ⟨o, ho, by rw [e, hpe]⟩) hd.1
   ·exact inj_val hd.2 ho hp e
theorem okW_inj {h : List TxnV} (hw : okW h = true) {o p : OpV} (ho : o ∈ wrs h) (hp : p ∈ wrs h) (e : o.val = p.val) : o = p := by
 unfold okW at hw
 rw [decide_eq_true_eq, wvH_map] at hw
 exact inj_val hw ho hp e
theorem okW_count {h : List TxnV} : okW h = true ↔ ∀ t ∈ h, ∀ o ∈ t.l, o.wr = true → tmH o.val h = 1 := by
 unfold okW tmH
 rw [decide_eq_true_eq]
 constructor
 ·intro hd t ht o ho hw
  rw [List.Nodup.count hd, if_pos]
  rw [wvH_map]
  exact List.mem_map.2 ⟨o, wrs_mem.2 ⟨t, ht, ho, hw⟩, rfl⟩
 ·intro hc
  rw [List.nodup_iff_count]
  intro x
  by_cases hx : x ∈ wvH h
  ·have hx2 := hx
   rw [wvH_map] at hx2
   obtain ⟨o, ho, rfl⟩ := List.mem_map.1 hx2
   obtain ⟨t, ht, ho2, hw⟩ := wrs_mem.1 ho
   exact Nat.le_of_eq (hc t ht o ho2 hw)
  ·rw [List.count_eq_zero_of_not_mem hx]; omega
def Real (h : List TxnV) (F : Int → Option WV) : Prop := ∀ x u, F x = some u → ∃ o ∈ wrs h, o.val = x ∧ o.key = u.key
theorem real_put {h : List TxnV} {F : Int → Option WV} (hF : Real h F) {o : OpV} (ho : o ∈ wrs h) (i : Int) (b : Bool) : Real h (putF F o.val ⟨i, o.key, b⟩) := by
 intro x u hx
 unfold putF at hx
 split at hx
 ·rename_i e
  cases hx
  exact ⟨o, ho, e.symm, rfl⟩
 ·exact hF x u hx
theorem real_add {h : List TxnV} (i : Int) : ∀ (l : List OpV) (F : Int → Option WV), Real h F → (∀ o ∈ l, o.wr = true → o ∈ wrs h) → Real h (addF i F l)
 | [], F, hF, _ => hF
 | a :: l, F, hF, hl => by
  show Real h (addF i (addOne i F a) l)
  refine real_add i l _ ?_ (fun o ho => hl o (List.mem_cons_of_mem _ ho))
  unfold addOne
  split
  ·rename_i hw
   exact real_put hF (hl a List.mem_cons_self hw) i false
  ·exact hF
theorem real_fin {h : List TxnV} (i : Int) : ∀ (l : List OpV) (F : Int → Option WV), Real h F → (∀ o ∈ l, o ∈ wrs h) → Real h (finF i F l)
 | [], F, hF, _ => hF
 | a :: l, F, hF, hl => by
  show Real h (finF i (putF F a.val ⟨i, a.key, true⟩) l)
  exact real_fin i l _ (real_put hF (hl a List.mem_cons_self) i true) (fun o ho => hl o (List.mem_cons_of_mem _ ho))
theorem refWrites_mem {l : List OpV} {o : OpV} (h : o ∈ refWrites l) : o ∈ l ∧ o.wr = true := by
 unfold refWrites at h
 obtain ⟨k, _, hk⟩ := upTo_mem.1 h
 have := lastW_key (l := l) (x := k) hk
 exact ⟨this.2.2, this.2.1⟩
theorem real_wr (h : List TxnV) : ∀ k, k ≤ h.length → Real h (wrTo h k)
 | 0, _ => fun x u hx => by simp [wrTo] at hx
 | k + 1, hk => by
  have hlt : k < h.length := by omega
  rw [wrTo_succ, opsAt_eq hlt]
  have hm : ∀ o ∈ h[k].l, o.wr = true → o ∈ wrs h := fun o ho hw => wrs_mem.2 ⟨_, List.getElem_mem hlt, ho, hw⟩
  exact real_fin _ _ _ (real_add _ _ _ (real_wr h k (by omega)) hm) (fun o ho => hm o (refWrites_mem ho).1 (refWrites_mem ho).2)
theorem dom_add (i : Int) : ∀ (l : List OpV) (F : Int → Option WV) (x : Int), (addF i F l x).isSome = ((F x).isSome || decide (x ∈ wv l))
 | [], F, x => by simp [addF, wv]
 | a :: l, F, x => by
  show (addF i (addOne i F a) l x).isSome = _
  rw [dom_add i l]
  have hc : wv (a :: l) = (if a.wr then [a.val] else []) ++ wv l := by
   unfold wv
   cases hw : a.wr <;> simp [hw]
  rw [hc]
  unfold addOne putF
  cases hw : a.wr
  ·simp
  ·by_cases e : x = a.val <;> simp [e]
theorem dom_fin (i : Int) : ∀ (l : List OpV) (F : Int → Option WV) (x : Int), (finF i F l x).isSome = ((F x).isSome || decide (x ∈ l.map (·.val)))
 | [], F, x => by simp [finF]
 | a :: l, F, x => by
  show (finF i (putF F a.val ⟨i, a.key, true⟩) l x).isSome = _
  rw [dom_fin i l]
  unfold putF
  by_cases e : x = a.val <;> simp [e]
theorem dom_wr (h : List TxnV) : ∀ k, k ≤ h.length → ∀ x, (wrTo h k x).isSome = decide (x ∈ wvH (h.take k))
 | 0, _ => fun x => by simp [wrTo, wvH]
 | k + 1, hk => fun x => by
  have hlt : k < h.length := by omega
  rw [wrTo_succ, opsAt_eq hlt, dom_fin, dom_add, dom_wr h k (by omega), wvH_succ h k hlt]
  have : x ∈ (refWrites h[k].l).map (·.val) → x ∈ wv h[k].l := fun hx => by
   obtain ⟨o, ho, rfl⟩ := List.mem_map.1 hx
   exact wv_mem.2 ⟨o, (refWrites_mem ho).1, (refWrites_mem ho).2, rfl⟩
  rw [Bool.eq_iff_iff]
  simp only [Bool.or_eq_true, decide_eq_true_eq, List.mem_append]
  constructor
  ·rintro ((h1 | h1) | h1)
   ·exact .inl h1
   ·exact .inr h1
   ·exact .inr (this h1)
  ·rintro (h1 | h1)
   ·exact .inl (.inl h1)
   ·exact .inl (.inr h1)
theorem rd_iff {h : List TxnV} (hw : okW h = true) (o : OpV) : rdOk (wrTo h h.length) o = (o.wr || o.val == 0 || !decide (wrI o.key o.val h < 0)) := by
 unfold rdOk
 cases hv : (o.wr || o.val == 0)
 ·rw [Bool.false_or, Bool.false_or]
  have hd := dom_wr h h.length (Nat.le_refl _) o.val
  rw [List.take_length] at hd
  cases hF : wrTo h h.length o.val with
  | none =>
   rw [hF] at hd
   simp only
   symm
   rw [Bool.not_eq_false', decide_eq_true_eq, wrI_nonneg]
   intro t ht p hp
   unfold isWr
   cases hpw : p.wr
   ·rfl
   ·have hne : ¬ p.val = o.val := fun e => by
     have : o.val ∈ wvH h := by rw [wvH_map]; exact List.mem_map.2 ⟨p, wrs_mem.2 ⟨t, ht, hp, hpw⟩, e⟩
     simp [this] at hd
    simp [hne]
  | some u =>
   obtain ⟨p, hp, e1, e2⟩ := real_wr h h.length (Nat.le_refl _) _ _ hF
   simp only
   rw [Bool.eq_iff_iff, beq_iff_eq, Bool.not_eq_true', decide_eq_false_iff_not, wrI_nonneg]
   constructor
   ·intro e hn
    obtain ⟨t, ht, hp2, hpw⟩ := wrs_mem.1 hp
    have := hn t ht p hp2
    unfold isWr at this
    simp [hpw, e1, e2, e] at this
   ·intro hn
    have : ∃ q ∈ wrs h, q.key = o.key ∧ q.val = o.val := Classical.byContradiction fun hno => hn fun t ht q hq => by
     unfold isWr
     cases hqw : q.wr
     ·rfl
     ·cases hqk : q.key == o.key
      ·rfl
      ·cases hqv : q.val == o.val
       ·rfl
       ·exact absurd ⟨q, wrs_mem.2 ⟨t, ht, hq, hqw⟩, by simpa using hqk, by simpa using hqv⟩ hno
    obtain ⟨q, hq, e3, e4⟩ := this
    have := okW_inj hw hp hq (by rw [e1, e4])
    subst this
    rw [← e2, e3]
 ·rfl
def Apart (a t : TxnV) : Prop := a.b ≠ t.b ∧ a.b ≠ t.c ∧ a.c ≠ t.b ∧ a.c ≠ t.c
theorem apartB_iff (a t : TxnV) : apartB a t = true ↔ Apart a t ∧ ¬ (a.s = t.s ∧ t.b < a.c) := by
 unfold apartB Apart
 simp only [Bool.and_eq_true, bne_iff_ne, Bool.not_eq_true', Bool.and_eq_false_iff, beq_eq_false_iff_ne, decide_eq_false_iff_not, Classical.not_and_iff_not_or_not, ne_eq]
theorem stL_mem {h : List TxnV} {x : Int} : x ∈ stL h ↔ ∃ t ∈ h, x = t.b ∨ x = t.c := by unfold stL; simp
theorem st_take {h : List TxnV} {k : Nat} (hd : (stL (h.take k)).Nodup) : ∀ i j, ∀ hj : j < k, ∀ hk : k ≤ h.length, ∀ hi : i < j, Apart (h[i]'(by omega)) (h[j]'(by omega)) := by
 intro i j hj hk hi
 have e : stL (h.take k) = stL (h.take (j + 1)) ++ stL ((h.take k).drop (j + 1)) := by
  unfold stL
  rw [← List.flatMap_append]
  congr 1
  rw [show h.take (j + 1) = (h.take k).take (j + 1) from by rw [List.take_take]; congr 1; omega]
  exact (List.take_append_drop _ _).symm
 rw [e] at hd
 have h1 := (List.nodup_append.1 hd).1
 rw [stL_succ h j (by omega)] at h1
 have h2 := (List.nodup_append.1 h1).2.2
 have mem : h[i]'(by omega) ∈ h.take j := by rw [List.mem_take_iff_getElem]; exact ⟨i, by omega, rfl⟩
 have mb : (h[i]'(by omega)).b ∈ stL (h.take j) := stL_mem.2 ⟨_, mem, .inl rfl⟩
 have mc : (h[i]'(by omega)).c ∈ stL (h.take j) := stL_mem.2 ⟨_, mem, .inr rfl⟩
 exact ⟨h2 _ mb _ (by simp), h2 _ mb _ (by simp), h2 _ mc _ (by simp), h2 _ mc _ (by simp)⟩
theorem st_nodup {h : List TxnV} (hbc : ∀ t ∈ h, t.b < t.c) (ha : ∀ i j, ∀ hj : j < h.length, ∀ hi : i < j, Apart (h[i]'(by omega)) h[j]) : ∀ k, k ≤ h.length → (stL (h.take k)).Nodup
 | 0, _ => by simp [stL]
 | k + 1, hk => by
  have hlt : k < h.length := by omega
  rw [stL_succ h k hlt, List.nodup_append]
  refine ⟨st_nodup hbc ha k (by omega), ?_, ?_⟩
  ·have := hbc _ (List.getElem_mem hlt)
   simp; omega
  ·intro x hx y hy
   obtain ⟨t, ht, hxt⟩ := stL_mem.1 hx
   rw [List.mem_take_iff_getElem] at ht
   obtain ⟨i, hi, rfl⟩ := ht
   have hA := ha i k hlt (by omega)
   unfold Apart at hA
   simp at hy
   rcases hxt with rfl | rfl <;> rcases hy with rfl | rfl
   ·exact hA.1
   ·exact hA.2.1
   ·exact hA.2.2.1
   ·exact hA.2.2.2
end

section
open Go.RowKit
theorem endF_find (h : List TxnV) (s : Int) : ∀ k, k ≤ h.length → match endF (h.take k) s with
  | none => ∀ j, ∀ hj : j < k, ∀ hk : k ≤ h.length, (h[j]'(by omega)).s ≠ s
  | some e => ∃ m, ∃ hm : m < k, ∃ hk : k ≤ h.length, (h[m]'(by omega)).s = s ∧ (h[m]'(by omega)).c = e ∧ ∀ j, ∀ hj : j < k, m < j → (h[j]'(by omega)).s ≠ s
 | 0, _ => by simp [endF]
 | k + 1, hk => by
  have hlt : k < h.length := by omega
  have ih := endF_find h s k (by omega)
  rw [endF_succ h k hlt]
  unfold putF
  by_cases e : s = h[k].s
  ·rw [if_pos e]
   exact ⟨k, by omega, hk, e.symm, rfl, fun j hj hmj => by omega⟩
  ·rw [if_neg e]
   cases hF : endF (h.take k) s with
   | none =>
    rw [hF] at ih
    intro j hj hk2
    rcases Nat.lt_or_eq_of_le (Nat.le_of_lt_succ hj) with h1 | rfl
    ·exact ih j h1 (by omega)
    ·exact fun e2 => e e2.symm
   | some c =>
    rw [hF] at ih
    obtain ⟨m, hm, hk2, h1, h2, h3⟩ := ih
    refine ⟨m, by omega, hk, h1, h2, fun j hj hmj => ?_⟩
    rcases Nat.lt_or_eq_of_le (Nat.le_of_lt_succ hj) with h4 | rfl
    ·exact h3 j h4 hmj
    ·exact fun e2 => e e2.symm
theorem ses_all {h : List TxnV} (hs : sesB h = true) (hbc : ∀ t ∈ h, t.b < t.c) : ∀ j, ∀ hj : j < h.length, ∀ i, ∀ hi : i < j, (h[i]'(by omega)).s = h[j].s → (h[i]'(by omega)).c < h[j].b := by
 intro j
 induction j using Nat.strongRecOn with
 | ind j ih =>
  intro hj i hi e
  have h1 := List.all_eq_true.1 hs j (List.mem_range.2 hj)
  rw [sesOk_at hj] at h1
  have h2 := endF_find h h[j].s j (by omega)
  cases hF : endF (h.take j) h[j].s with
  | none =>
   rw [hF] at h2
   exact absurd e (h2 i hi (by omega))
  | some c =>
   rw [hF] at h1 h2
   obtain ⟨m, hm, hk2, e1, e2, e3⟩ := h2
   simp only [decide_eq_true_eq] at h1
   rcases Nat.lt_trichotomy i m with h4 | rfl | h4
   ·have h5 := ih m hm (by omega) i h4 (by rw [e1]; exact e)
    have h6 := hbc _ (List.getElem_mem (show m < h.length by omega))
    omega
   ·omega
   ·exact absurd e (e3 i hi h4)
theorem ses_mk {h : List TxnV} (ha : ∀ j, ∀ hj : j < h.length, ∀ i, ∀ hi : i < j, (h[i]'(by omega)).s = h[j].s → (h[i]'(by omega)).c < h[j].b) : sesB h = true := by
 refine sesB_all fun j hj => ?_
 rw [sesOk_at hj]
 have h2 := endF_find h h[j].s j (by omega)
 cases hF : endF (h.take j) h[j].s with
 | none => rfl
 | some c =>
  rw [hF] at h2
  obtain ⟨m, hm, hk2, e1, e2, e3⟩ := h2
  simp only [decide_eq_true_eq]
  rw [← e2]; exact ha j hj m hm e1
theorem mayT_bc {t : TxnV} (h : mayT t.s t.b t.c t.l = true) : t.b < t.c := by
 unfold mayT at h
 simp only [Bool.and_eq_true, decide_eq_true_eq] at h
 exact h.1.2.2.2.1
theorem right_ref (h : List TxnV) : rightB h = mayRef h := by
 rw [Bool.eq_iff_iff]
 constructor
 ·intro hr
  unfold rightB at hr
  simp only [Bool.and_eq_true] at hr
  obtain ⟨hp, hv, hst, hse⟩ := hr
  unfold valuesB at hv
  simp only [Bool.and_eq_true] at hv
  obtain ⟨hw, hro⟩ := hv
  have hP : ∀ t ∈ h, mayT t.s t.b t.c t.l = true := List.all_eq_true.1 hp
  have hbc : ∀ t ∈ h, t.b < t.c := fun t ht => mayT_bc (hP t ht)
  refine mayRef_yes fun k hk => ?_
  unfold rowR
  rw [hP _ (List.getElem_mem hk), Bool.true_and, Bool.and_eq_true]
  constructor
  ·rw [List.all_eq_true]
   intro a ha
   rw [List.mem_take_iff_getElem] at ha
   obtain ⟨i, hi, rfl⟩ := ha
   rw [apartB_iff]
   unfold stampsB at hst
   rw [decide_eq_true_eq, ← List.take_length (l := h)] at hst
   refine ⟨st_take hst i k hk (Nat.le_refl _) (by omega), fun hh => ?_⟩
   have := ses_all hse hbc k hk i (by omega) hh.1
   omega
  ·rw [List.all_eq_true]
   intro o ho
   unfold opR
   cases how : o.wr
   ·have h1 := List.all_eq_true.1 (List.all_eq_true.1 hro _ (List.getElem_mem hk)) o ho
    rw [rd_iff hw o, how] at h1
    simpa using h1
   ·simp only [if_true, beq_iff_eq]
    exact okW_count.1 hw _ (List.getElem_mem hk) o ho how
 ·intro hm
  have hrow : ∀ k, ∀ hk : k < h.length, rowR h k h[k] = true := fun k hk => by
   have := List.all_eq_true.1 hm k (List.mem_range.2 hk)
   rwa [List.getElem?_eq_getElem hk] at this
  have hP : ∀ t ∈ h, mayT t.s t.b t.c t.l = true := fun t ht => by
   obtain ⟨k, hk, rfl⟩ := List.getElem_of_mem ht
   have := hrow k hk
   unfold rowR at this
   simp only [Bool.and_eq_true] at this
   exact this.1
  have hbc : ∀ t ∈ h, t.b < t.c := fun t ht => mayT_bc (hP t ht)
  have hA : ∀ i j, ∀ hj : j < h.length, ∀ hi : i < j, Apart (h[i]'(by omega)) h[j] ∧ ¬ ((h[i]'(by omega)).s = h[j].s ∧ h[j].b < (h[i]'(by omega)).c) := fun i j hj hi => by
   have := hrow j hj
   unfold rowR at this
   simp only [Bool.and_eq_true] at this
   exact (apartB_iff _ _).1 (List.all_eq_true.1 this.2.1 _ (by rw [List.mem_take_iff_getElem]; exact ⟨i, by omega, rfl⟩))
  have hO : ∀ t ∈ h, ∀ o ∈ t.l, opR h o = true := fun t ht => by
   obtain ⟨k, hk, rfl⟩ := List.getElem_of_mem ht
   have := hrow k hk
   unfold rowR at this
   simp only [Bool.and_eq_true] at this
   exact List.all_eq_true.1 this.2.2
  have hw : okW h = true := okW_count.2 fun t ht o ho how => by
   have := hO t ht o ho
   unfold opR at this
   rw [how] at this
   simpa using this
  unfold rightB
  simp only [Bool.and_eq_true]
  refine ⟨List.all_eq_true.2 hP, ?_, ?_, ?_⟩
  ·unfold valuesB
   rw [hw, Bool.true_and, List.all_eq_true]
   intro t ht
   unfold rowOk
   rw [List.all_eq_true]
   intro o ho
   rw [rd_iff hw o]
   have := hO t ht o ho
   unfold opR at this
   cases how : o.wr
   ·rw [how] at this
    simpa using this
   ·rfl
  ·unfold stampsB
   rw [decide_eq_true_eq]
   have := st_nodup hbc (fun i j hj hi => (hA i j hj hi).1) h.length (Nat.le_refl _)
   rwa [List.take_length] at this
  ·refine ses_mk fun j hj i hi e => ?_
   obtain ⟨h1, h2⟩ := hA i j hj hi
   have h3 : ¬ h[j].b < (h[i]'(by omega)).c := fun hh => h2 ⟨e, hh⟩
   have h4 := h1.2.2.1
   omega
def checkR (h : List TxnV) : Int := if 64 < h.length ∨ 1024 < opsN h then 3 else if mayRef h then 0 else 2
theorem check_ref (h : List TxnV) : checkI h = checkR h := by unfold checkI checkR; rw [right_ref]
end

section
open Go.RowKit
theorem rcheck_any (va : Value) (h : List TxnV) (w : World) (hT : Txns w va h) (hsh : Short h) :
  Calls Tryz.prog 11 #[va] w fun e w' => e = .returned (.int .i64 (checkR h)) ∧ Below w.heap.size w w' := by
 obtain ⟨ao, cap, rfl, hal⟩ := hT.form
 by_cases hbig : 64 < h.length
 ·have hbig' : (64 : Int) < (h.length : Int) := by omega
  have H : Hid ((3 : Int) = checkR h) := hid (by unfold checkR; rw [if_pos (.inl hbig)])
  go_enter Tryz.func11, Tryz.ntmps11
  go_wp2_with fail
  go_ret
  exact ⟨ret_int H.out, Below.refl _ _⟩
 have hbf : decide ((64 : Int) < (h.length : Int)) = false := by simp; omega
 have hle := opsN_short h hsh
 have CO := hid (count_any _ h w hT (by omega))
 have HT := hid (fun wx (hx : Below w.heap.size w wx) => hT.below hx)
 clear hT hsh
 go_enter Tryz.func11, Tryz.ntmps11
 go_wp2_with fail
 refine (CO.out).mono ?_
 rintro e w1 ⟨rfl, hb1⟩
 clear CO
 by_cases hov : 1024 < opsN h
 ·have hov' : (1024 : Int) < (opsN h : Int) := by omega
  have H : Hid ((3 : Int) = checkR h) := hid (by unfold checkR; rw [if_pos (.inr hov)])
  go_wp2_with fail
  go_ret
  exact ⟨ret_int H.out, hb1⟩
 have hov' : decide ((1024 : Int) < (opsN h : Int)) = false := by simp; omega
 have HCK : Hid (checkR h = if mayRef h then 0 else 2) := hid (by unfold checkR; rw [if_neg (by omega)])
 have CM := hid (rmay_any _ h w1 (HT.out _ hb1) (by omega))
 generalize mayRef h = q at *
 go_wp2_with fail
 refine (CM.out).mono ?_
 rintro e w2 ⟨rfl, hb2⟩
 have hb3 := below_then hb1 hb2
 clear CM
 cases q
 ·have H : Hid ((2 : Int) = checkR h) := hid (by rw [HCK.out]; rfl)
  go_wp2_with fail
  go_ret
  exact ⟨ret_int H.out, hb3⟩
 ·have H : Hid ((0 : Int) = checkR h) := hid (by rw [HCK.out]; rfl)
  go_wp2_with fail
  go_ret
  exact ⟨ret_int H.out, hb3⟩
end

section
open Go.RowKit
def vOf (l : List OpV) (k : Int) : Int := (((refWrites l).find? fun o => o.key == k).map (·.val)).getD 0
theorem wv_cons (a : OpV) (l : List OpV) : wv (a :: l) = (if a.wr then [a.val] else []) ++ wv l := by
 unfold wv; cases h : a.wr <;> simp [h]
theorem addF_cons (i : Int) (F : Int → Option WV) (a : OpV) (l : List OpV) : addF i F (a :: l) = addF i (addOne i F a) l := rfl
theorem finF_cons (i : Int) (F : Int → Option WV) (a : OpV) (l : List OpV) : finF i F (a :: l) = finF i (putF F a.val ⟨i, a.key, true⟩) l := rfl
theorem addF_out (i : Int) {x : Int} : ∀ (l : List OpV) (F : Int → Option WV), ¬ x ∈ wv l → addF i F l x = F x
 | [], _, _ => rfl
 | a :: l, F, h => by
  rw [wv_cons] at h
  rw [addF_cons, addF_out i l _ (fun hh => h (List.mem_append_right _ hh))]
  unfold addOne
  cases hw : a.wr
  ·rfl
  ·simp only [if_true]
   exact putF_other _ _ (fun e => h (by rw [hw, e]; simp))
theorem addF_in (i : Int) {o : OpV} (ho : o.wr = true) : ∀ (l : List OpV) (F : Int → Option WV), (wv l).Nodup → o ∈ l → addF i F l o.val = some ⟨i, o.key, false⟩
 | a :: l, F, hn, hin => by
  rw [wv_cons] at hn
  rw [addF_cons]
  rcases List.mem_cons.1 hin with rfl | h
  ·rw [ho] at hn
   simp only [if_true, List.singleton_append, List.nodup_cons] at hn
   rw [addF_out i l _ hn.1]
   unfold addOne
   rw [ho]
   simp only [if_true]
   exact putF_same _ _ _
  ·exact addF_in i ho l _ (List.nodup_append.1 hn).2.1 h
theorem finF_out (i : Int) {x : Int} : ∀ (R : List OpV) (F : Int → Option WV), (∀ o ∈ R, o.val ≠ x) → finF i F R x = F x
 | [], _, _ => rfl
 | a :: R, F, h => by
  rw [finF_cons, finF_out i R _ (fun o ho => h o (List.mem_cons_of_mem _ ho))]
  exact putF_other _ _ (fun e => h a List.mem_cons_self e.symm)
theorem finF_in (i : Int) {x k : Int} : ∀ (R : List OpV) (F : Int → Option WV), (∀ o ∈ R, o.val = x → o.key = k) → (∃ o ∈ R, o.val = x) → finF i F R x = some ⟨i, k, true⟩
 | a :: R, F, h, hex => by
  rw [finF_cons]
  by_cases hr : ∃ o ∈ R, o.val = x
  ·exact finF_in i R _ (fun o ho => h o (List.mem_cons_of_mem _ ho)) hr
  ·have hn : ∀ o ∈ R, o.val ≠ x := fun o ho e => hr ⟨o, ho, e⟩
   obtain ⟨o, ho, e⟩ := hex
   rcases List.mem_cons.1 ho with rfl | h1
   ·rw [finF_out i R _ hn, e, putF_same, h _ List.mem_cons_self e]
   ·exact (hn o h1 e).elim
theorem wv_inj {l : List OpV} (hn : (wv l).Nodup) {o p : OpV} (ho : o ∈ l) (hp : p ∈ l) (wo : o.wr = true) (wp : p.wr = true) (e : o.val = p.val) : o.key = p.key := by
 have h1 := addF_in 0 wo l (fun _ => none) hn ho
 have h2 := addF_in 0 wp l (fun _ => none) hn hp
 rw [e, h2] at h1
 have := Option.some.inj h1
 exact (congrArg WV.key this).symm
theorem lastW_some (l : List OpV) {o : OpV} (wo : o.wr = true) : ∀ k, k ≤ l.length → o ∈ l.take k → (lastW (l.take k) o.key).isSome = true
 | 0, _, h => by simp at h
 | k + 1, hk, h => by
  have hlt : k < l.length := by omega
  rw [take_snoc l k hlt] at h ⊢
  rw [lastW_snoc]
  cases hw : l[k].wr with
  | false =>
   simp only [Bool.false_eq_true, if_false]
   rcases List.mem_append.1 h with h1 | h1
   ·exact lastW_some l wo k (by omega) h1
   ·simp at h1; rw [h1, hw] at wo; cases wo
  | true =>
   simp only [if_true]
   by_cases e : o.key = l[k].key
   ·rw [e, putF_same]; rfl
   ·rw [putF_other _ _ e]
    rcases List.mem_append.1 h with h1 | h1
    ·exact lastW_some l wo k (by omega) h1
    ·simp at h1; rw [h1] at e; exact (e rfl).elim
theorem turn_at (i : Int) (F : Int → Option WV) {l : List OpV} (hk : keysIn l) (hn : (wv l).Nodup) {o : OpV} (ho : o ∈ l) (wo : o.wr = true) :
  finF i (addF i F l) (refWrites l) o.val = some ⟨i, o.key, vOf l o.key == o.val⟩ := by
 have hR := refWrites_rise hk
 have hmem : ∀ p ∈ refWrites l, p ∈ l ∧ p.wr = true := fun p hp => refWrites_mem hp
 have huq : ∀ p ∈ refWrites l, ∀ q ∈ refWrites l, p.key = q.key → p = q := fun p hp q hq e => by
  have h1 := ((hR.2 p).1 hp).1
  have h2 := ((hR.2 q).1 hq).1
  rw [e, h2] at h1
  exact (Option.some.inj h1).symm
 have hex : ∃ p ∈ refWrites l, p.key = o.key := by
  have h1 := lastW_some l wo l.length (Nat.le_refl _) (by rw [List.take_length]; exact ho)
  rw [List.take_length] at h1
  obtain ⟨p, hp⟩ := Option.isSome_iff_exists.1 h1
  have h2 := lastW_key hp
  exact ⟨p, (hR.2 p).2 ⟨by rw [h2.1]; exact hp, h2.2.1⟩, h2.1⟩
 obtain ⟨p, hp, hpk⟩ := hex
 have hv : vOf l o.key = p.val := by
  unfold vOf
  cases hf : (refWrites l).find? (fun q => q.key == o.key) with
  | none => have := List.find?_eq_none.1 hf p hp; simp [hpk] at this
  | some q =>
   have h1 := List.find?_some hf
   have h2 := List.mem_of_find?_eq_some hf
   have : q = p := huq q h2 p hp (by simpa [hpk] using h1)
   rw [this]; rfl
 by_cases he : p.val = o.val
 ·rw [finF_in (k := o.key) i _ _ (fun q hq e => wv_inj hn (hmem q hq).1 ho (hmem q hq).2 wo e) ⟨p, hp, he⟩, hv, he]
  simp
 ·rw [finF_out i _ _ (fun q hq e => he ?_), addF_in i wo l F hn ho, hv]
  ·simp [he]
  ·have := wv_inj hn (hmem q hq).1 ho (hmem q hq).2 wo e
   rw [← huq q hq p hp (by rw [this, hpk])]; exact e
theorem wrTo_at {h : List TxnV} (hk : ∀ t ∈ h, keysIn t.l) : ∀ n, n ≤ h.length → (wvH (h.take n)).Nodup → ∀ i, ∀ hi : i < h.length, i < n → ∀ o ∈ h[i].l, o.wr = true → wrTo h n o.val = some ⟨i, o.key, vOf h[i].l o.key == o.val⟩
 | 0, _, _, i, _, hin, _, _, _ => by omega
 | n + 1, hn, hd, i, hi, hin, o, ho, wo => by
  have hlt : n < h.length := by omega
  rw [wvH_succ h n hlt] at hd
  have hd3 := List.nodup_append.1 hd
  rw [wrTo_succ, opsAt_eq hlt]
  by_cases e : i = n
  ·subst e
   exact turn_at _ _ (hk _ (List.getElem_mem _)) hd3.2.1 ho wo
  ·have hin2 : o.val ∈ wvH (h.take n) := by
    unfold wvH
    rw [List.mem_flatMap]
    refine ⟨h[i], ?_, wv_mem.2 ⟨o, ho, wo, rfl⟩⟩
    rw [List.mem_take_iff_getElem]
    exact ⟨i, by omega, rfl⟩
   have hout : ¬ o.val ∈ wv h[n].l := fun hh => hd3.2.2 _ hin2 _ hh rfl
   have hR := refWrites_rise (hk _ (List.getElem_mem hlt))
   rw [finF_out _ _ _ (fun q hq e2 => hout (by rw [← e2]; exact wv_mem.2 ⟨q, (refWrites_mem hq).1, (refWrites_mem hq).2, rfl⟩)), addF_out _ _ _ hout]
   exact wrTo_at hk n (by omega) hd3.1 i hi (by omega) o ho wo
end

section
open Go.RowKit
def fromR (h : List TxnV) (o : OpV) : Int := if o.val = 0 then -1 else wrI o.key o.val h
def rdR (h : List TxnV) (i : Int) (l : List OpV) : List (Int × Int) := (l.filter fun o => fromR h o != i).map fun o => (o.key, fromR h o)
end

section
open Go.RowKit
def wrsR (h : List TxnV) (i : Nat) (key : Int) : Bool := vOf (opsAt h i) key != 0
def rivR (h : List TxnV) (i k : Nat) : Bool := (List.range 64).any fun n => wrsR h i (n : Int) && wrsR h k (n : Int)
end

section
open Go.RowKit
theorem may_parts {h : List TxnV} (hm : mayRef h = true) : okW h = true ∧ ∀ t ∈ h, keysIn t.l := by
 rw [← right_ref] at hm
 unfold rightB valuesB at hm
 simp only [Bool.and_eq_true] at hm
 exact ⟨hm.2.1.1, parts_keys hm.1⟩
end

section
open Go.RowKit
theorem wrI_at {key x : Int} {h : List TxnV} (hn : ¬ wrI key x h < 0) : ∃ i, ∃ hi : i < h.length, wrI key x h = i ∧ ∃ o ∈ h[i].l, isWr key x o = true := by
 unfold wrI at hn ⊢
 cases hf : h.findIdx? (fun t => t.l.any (isWr key x)) with
 | none => rw [hf] at hn; exact absurd (by decide) hn
 | some i =>
  rw [List.findIdx?_eq_some_iff_getElem] at hf
  obtain ⟨hi, h1, _⟩ := hf
  obtain ⟨o, ho, hw⟩ := List.any_eq_true.1 h1
  exact ⟨i, hi, rfl, o, ho, hw⟩
theorem isWr_iff {key x : Int} {o : OpV} : isWr key x o = true ↔ o.wr = true ∧ o.key = key ∧ o.val = x := by unfold isWr; simp
theorem may_rows {h : List TxnV} (hm : mayRef h = true) : ∀ k, ∀ hk : k < h.length, rowR h k h[k] = true := fun k hk => by
 have := List.all_eq_true.1 hm k (List.mem_range.2 hk)
 rwa [List.getElem?_eq_getElem hk] at this
theorem rowR_iff {h : List TxnV} {k : Nat} {t : TxnV} : rowR h k t = true ↔ mayT t.s t.b t.c t.l = true ∧ (h.take k).all (fun a => apartB a t) = true ∧ ∀ o ∈ t.l, opR h o = true := by
 unfold rowR
 rw [Bool.and_eq_true, Bool.and_eq_true, List.all_eq_true (p := opR h)]
theorem may_wr {h : List TxnV} (hm : mayRef h = true) {i : Nat} (hi : i < h.length) {o : OpV} (ho : o ∈ h[i].l) (wo : o.wr = true) : wrTo h h.length o.val = some ⟨i, o.key, vOf h[i].l o.key == o.val⟩ := by
 obtain ⟨hw, hk⟩ := may_parts hm
 exact wrTo_at hk h.length (Nat.le_refl _) (by rw [List.take_length]; unfold okW at hw; simpa using hw) i hi hi o ho wo
theorem reads_F {h : List TxnV} (hm : mayRef h = true) {k : Nat} (hk : k < h.length) {o : OpV} (ho : o ∈ h[k].l) (wo : o.wr = false) :
  (o.val = 0 ∧ wrTo h h.length 0 = none) ∨ (o.val ≠ 0 ∧ ∃ u, wrTo h h.length o.val = some u ∧ u.key = o.key ∧ wrI o.key o.val h = u.i) := by
 by_cases h0 : o.val = 0
 ·refine .inl ⟨h0, ?_⟩
  cases hF : wrTo h h.length 0 with
  | none => rfl
  | some u =>
   obtain ⟨p, hp, hpv, _⟩ := real_wr h h.length (Nat.le_refl _) 0 u hF
   obtain ⟨t, ht, hpt, hpw⟩ := wrs_mem.1 hp
   obtain ⟨i, hi, rfl⟩ := List.getElem_of_mem ht
   have h1 := (rowR_iff.1 (may_rows hm i hi)).1
   unfold mayT at h1
   simp only [Bool.and_eq_true] at h1
   have h2 := (mayO_iff p).1 (List.all_eq_true.1 h1.2 p hpt)
   exact absurd hpv (h2.2.2 hpw)
 ·refine .inr ⟨h0, ?_⟩
  have h1 := (rowR_iff.1 (may_rows hm k hk)).2.2 o ho
  unfold opR at h1
  rw [wo] at h1
  have h2 : ¬ wrI o.key o.val h < 0 := by simpa [h0] using h1
  obtain ⟨i, hi, he, p, hp, hpw⟩ := wrI_at h2
  obtain ⟨q1, q2, q3⟩ := isWr_iff.1 hpw
  have h3 := may_wr hm hi hp q1
  rw [q3, q2] at h3
  exact ⟨_, h3, rfl, he⟩
end

section
open Go.RowKit
theorem may_of {h : List TxnV} (hc : checkI h = 0) : mayRef h = true := by
 rw [← right_ref]
 unfold checkI at hc
 split at hc
 ·cases hc
 ·cases hr : rightB h with
  | true => rfl
  | false => rw [hr] at hc; cases hc
theorem from_same {h : List TxnV} (hc : checkI h = 0) {k : Nat} (hk : k < h.length) {o : OpV} (ho : o ∈ h[k].l) (wo : o.wr = false) : fromO (wrTo h h.length) o.val = fromR h o := by
 unfold fromO fromR
 rcases reads_F (may_of hc) hk ho wo with ⟨h0, hn⟩ | ⟨h0, u, hu, _, hw⟩
 ·rw [if_pos h0, h0, hn]; rfl
 ·rw [if_neg h0, hu, hw]; rfl
theorem rd_congr {h : List TxnV} {F : Int → Option WV} {i : Int} : ∀ (l : List OpV), (∀ o ∈ l, fromO F o.val = fromR h o) → rdFr F i l = rdR h i l
 | [], _ => rfl
 | a :: l, hl => by
  have ih := rd_congr (i := i) l (fun o ho => hl o (List.mem_cons_of_mem _ ho))
  have ha := hl a List.mem_cons_self
  unfold rdFr rdR at *
  rw [List.filter_cons, List.filter_cons, ha]
  split
  ·rw [List.map_cons, List.map_cons, ih, ha]
  ·exact ih
theorem refReads_in {l : List OpV} {o : OpV} (ho : o ∈ refReads l) : o ∈ l ∧ o.wr = false := by
 obtain ⟨k, _, hk⟩ := upTo_mem.1 ho
 obtain ⟨h1, h2⟩ := rdK_some.1 hk
 exact ⟨(firstO_key h1).2, h2⟩
theorem reads_same {h : List TxnV} (hc : checkI h = 0) {k : Nat} (hk : k < h.length) : readsOf h k = rdR h k (refReads h[k].l) := by
 unfold readsOf
 rw [opsAt_eq hk]
 refine rd_congr _ fun o ho => ?_
 obtain ⟨h1, h2⟩ := refReads_in ho
 exact from_same hc hk h1 h2
end

end Go.Proofs.YtnhkjehfmbfmmaaGreatDoor
