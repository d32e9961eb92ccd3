/- Walks and plain facts that the proof of the statement SearchBound uses, joined: SeaM BruF BruG BruH BruI LesC AxhB AxhC BruJ ArgC TopA BruK LevD SeaN. Conditions: each theorem's own. -/
import Derived.Deep.CutRange
import Derived.Deep.RegionHeld3
import Derived.Test.YtecpeegbfeijaaaGreatDoorPSearchBound0
import Derived.Test.YtecpeegbfeijaaaGreatDoorPSearchBound2
import Derived.Test.YtecpeegbfeijaaaGreatDoorPSearchBound3
import Derived.Test.YtecpeegbfeijaaaGreatDoorPSearchBound4
import Derived.Test.YtecpeegbfeijaaaGreatDoorPSearchBound5
import Derived.Test.YtecpeegbfeijaaaGreatDoorPSearchBound6
import Derived.Test.YtecpeegbfeijaaaGreatDoorPSearchBound7
namespace Go.Proofs.YtecpeegbfeijaaaGreatDoor
set_option maxHeartbeats 32000000
set_option maxRecDepth 100000
open Lib (hid)
section
open Go.RowKit
def rowsTo (F : List Nat → Nat) (h : List TxnV) (C : Nat) (r : List Nat) (j : Nat) : Nat := h.length - r.length + ((List.range j).map fun i => if tryP h C r i = true then F (i :: r) else 0).sum
def rowsN (h : List TxnV) (C : Nat) : Nat → List Nat → Nat
 | 0, r => rowsTo (fun _ => 0) h C r h.length
 | k + 1, r => rowsTo (rowsN h C k) h C r h.length
section
variable {F : List Nat → Nat} {h : List TxnV} {C : Nat} {r : List Nat} {j b : Nat}
theorem rowsTo_zero : rowsTo F h C r 0 = h.length - r.length := by unfold rowsTo; rfl
theorem rowsTo_succ : rowsTo F h C r (j + 1) = rowsTo F h C r j + if tryP h C r j = true then F (j :: r) else 0 := by
 unfold rowsTo
 rw [List.range_succ, List.map_append, List.sum_append, List.map_singleton, List.sum_singleton, Nat.add_assoc]
theorem rowsTo_le (hF : ∀ i, F (i :: r) ≤ b) : rowsTo F h C r j ≤ h.length + j * b := by
 induction j with
 | zero => rw [rowsTo_zero]; omega
 | succ j ih =>
  rw [rowsTo_succ, Nat.succ_mul]
  have := hF j
  split <;> omega
end
def bR : Nat → Nat
 | 0 => 5
 | k + 1 => 5 + 5 * bR k
theorem bR_le : ∀ k, k ≤ 5 → bR k ≤ 100000 := by decide +kernel
theorem rowsN_le {h : List TxnV} {C : Nat} (hn : h.length ≤ 5) : ∀ (k : Nat) (r : List Nat), rowsN h C k r ≤ bR k
 | 0, r => by
  have h1 := rowsTo_le (F := fun _ => 0) (h := h) (C := C) (r := r) (j := h.length) (b := 0) (fun _ => Nat.le_refl _)
  unfold rowsN bR
  omega
 | k + 1, r => by
  have h1 := rowsTo_le (F := rowsN h C k) (h := h) (C := C) (r := r) (j := h.length) (b := bR k) (fun i => rowsN_le hn k (i :: r))
  have h2 : h.length * bR k ≤ 5 * bR k := Nat.mul_le_mul_right _ hn
  unfold rowsN
  rw [bR]
  omega
theorem rows17_step (va vr vm : Value) (h : List TxnV) (x : Nat) (hx : x < 64) (r : List Nat) (m : List Pr) (F : List Nat → Nat) (hc : checkI h = 0) (hn : h.length ≤ 5) (hlt : ∀ a ∈ r, a < h.length) (g : RowG h x r) (w : World)
  (hT : Txns w va h) (hl : Ints w vr (r.reverse.map Int.ofNat)) (hm : Prs w vm m) (hR : Rep (seesR h x r) m) (hrl : r.length ≤ h.length) (hF : ∀ i, F (i :: r) ≤ 100000)
  (IH : ∀ (i : Nat) (v2 vm2 : Value) (m2 : List Pr) (w2 : World), tryP h x r i = true → Txns w2 va h → Ints w2 v2 ((i :: r).reverse.map Int.ofNat) → Prs w2 vm2 m2 → Rep (seesR h x (i :: r)) m2 →
   Calls Tryz.prog 32 #[va, .int .i64 x, v2, vm2] w2 fun e w' => e = .returned (.int .i64 ((F (i :: r) : Nat) : Int)) ∧ Below w2.heap.size w2 w') :
  Calls Tryz.prog 32 #[va, .int .i64 x, vr, vm] w fun e w' => e = .returned (.int .i64 ((rowsTo F h x r h.length : Nat) : Int)) ∧ Below w.heap.size w w' := by
 have CMay := hid (fun (i : Nat) wx (hb : Below w.heap.size w wx) => may14_any va vr vm h x hx r m (i : Int) hc hlt g wx (hT.below hb) (hl.below hb) (hm.below hb) hR)
 have CWith := hid (fun (i : Nat) (ht : tryP h x r i = true) wx (hb : Below w.heap.size w wx) => with14_any va vr vm h x hx r m i hc (tryP_parts ht).1 (tryP_parts ht).2.1 hlt g (tryP_parts ht).2.2 wx (hT.below hb) (hl.below hb) (hm.below hb) hR)
 have HT := hid (fun wx (hb : Below w.heap.size w wx) => hT.below hb)
 have HIH := hid IH
 have HLE := hid (fun j => rowsTo_le (F := F) (h := h) (C := x) (r := r) (j := j) (b := 100000) hF)
 obtain ⟨ho, hcap, rfl, _⟩ := hT.form
 obtain ⟨ao, cap, rfl, _⟩ := hl.form
 have HF := hid (fun wx (hb : Below w.heap.size w wx) => RowHi.full (D := 0) (r := r.reverse) ⟨hl.below hb, fun _ _ => Nat.zero_le _⟩)
 rw [List.length_reverse] at HF
 have hll : (r.reverse.map Int.ofNat).length = r.length := by simp
 have hcp : r.length ≤ cap := by
  obtain ⟨_, ao', cap', e, hm', _⟩ := hl
  cases e
  simpa using hm'.1
 rw [hll] at CMay CWith ⊢
 have hrr : r.reverse.length = r.length := List.length_reverse
 have hsub : ((h.length : Int) - (r.length : Int)) = ((rowsTo F h x r 0 : Nat) : Int) := by rw [rowsTo_zero]; omega
 have hb0 := hid (Below.refl w.heap.size w)
 clear hT hl hm hR IH hF hll hx g
 go_enter Tryz.func32, Tryz.ntmps32
 go_wp2_with fail
 go_loopw [9, 18] (fun nv iv wr => ∃ j : Nat, j ≤ h.length ∧ nv = .int .i64 ((rowsTo F h x r j : Nat) : Int) ∧ iv = .int .i64 (j : Int) ∧ Hid (Below w.heap.size w wr)) (fun _ iv _ => h.length - (intOf iv).toNat)
 case atStart => exact ⟨0, Nat.zero_le _, by go_num, rfl, hb0⟩
 case round =>
  clear hb0 hsub
  obtain ⟨j, hj, rfl, rfl, HB⟩ := hrel
  by_cases hjl : j < h.length
  ·have hji : (j : Int) < (h.length : Int) := by omega
   have CM := hid (CMay.out j wr HB.out)
   have e1 : tryI h x r (j : Int) = tryP h x r j := by unfold tryI; simp
   rw [e1] at CM
   clear e1
   cases htr : tryP h x r j with
   | false =>
    have HS : Hid (rowsTo F h x r (j + 1) = rowsTo F h x r j) := hid (by rw [rowsTo_succ, htr]; simp)
    rw [htr] at CM
    clear htr
    go_wp2_with fail
    refine CM.out.mono ?_
    rintro e w2 ⟨rfl, h2⟩
    have HB2 := hid (below_then HB.out h2)
    clear h2 CM
    go_wp2_with fail
    go_roundw
    case rel => exact ⟨j + 1, by omega, by rw [HS.out], by go_num, HB2⟩
    case measure => simp only [intOf]; omega
   | true =>
    have HS : Hid (rowsTo F h x r (j + 1) = rowsTo F h x r j + F (j :: r)) := hid (by rw [rowsTo_succ, htr]; simp)
    have hle := HLE.out (j + 1)
    rw [htr] at CM
    rw [HS.out] at hle
    have hle2 : (j + 1) * 100000 ≤ 5 * 100000 := Nat.mul_le_mul_right _ (by omega)
    have HTR := hid htr
    clear htr
    generalize rowsTo F h x r j = s at *
    generalize hFe : F (j :: r) = f at *
    have HFE := hid hFe
    clear hFe
    have HWI := hid (fun wx (hb : Below wr.heap.size wr wx) => CWith.out j HTR.out wx (below_then HB.out hb))
    have HFU := hid (fun wx (hb : Below wr.heap.size wr wx) => HF.out wx (below_then HB.out hb))
    have HTT := hid (fun wx (hb : Below wr.heap.size wr wx) => HT.out wx (below_then HB.out hb))
    have HIJ := hid (fun v2 vm2 m2 w2 => HIH.out j v2 vm2 m2 w2 HTR.out)
    have HBB := hid (fun wx (hb : Below wr.heap.size wr wx) => below_then HB.out hb)
    go_wp2_with fail
    refine CM.out.mono ?_
    rintro e w2 ⟨rfl, h2⟩
    have hcell : (w2.alloc (.cells #[.int .i64 (j : Int)] 3)).cell? ⟨w2.heap.size, 0, none⟩ = some (.int .i64 (j : Int)) := by
     rw [cell_of_row _ _ _ _ _ _ (heap_alloc_new w2 _)]; rfl
    have hb3 := below_then h2 (box_below w2 (.cells #[.int .i64 (j : Int)] 3))
    have hfull := HFU.out _ hb3
    obtain ⟨v4, w4, hap, hr4, h4⟩ := run_append_full 29 (w := w2.alloc (.cells #[.int .i64 (j : Int)] 3)) (ao := ao) (l := r.reverse) (by rw [hrr]; exact hfull) ⟨w2.heap.size, 0, none⟩ 1 j hcell (by omega)
    rw [hrr] at hap
    have hb4 := below_then hb3 h4
    have hI4 : Ints w4 v4 ((j :: r).reverse.map Int.ofNat) := by rw [List.reverse_cons]; exact hr4.1
    have HA := hid hap
    have CW := hid (HWI.out w4 hb4)
    clear hcell hb3 hfull hap hr4 h4 CM h2 HWI HFU
    cases ao with
    | none =>
     go_wp2_with (at_builtin; refine wpList_append_full _ _ _ rfl (by kernel_rfl) rfl rfl HA.out ?_)
     refine CW.out.mono ?_
     rintro e w5 ⟨⟨v5, m5, rfl, hP5, hR5, _⟩, h5⟩
     have hb5 := below_then hb4 h5
     have CR := hid (HIJ.out v4 v5 m5 w5 (HTT.out _ hb5) (hI4.below h5) hP5 hR5)
     clear CW hP5 hR5 h5 HA hb4 hI4
     go_wp2_with fail
     refine CR.out.mono ?_
     rintro e w6 ⟨rfl, h6⟩
     rw [HFE.out]
     have HB2 := hid (HBB.out _ (below_then hb5 h6))
     clear CR h6 hb5
     go_wp2_with fail
     go_roundw
     case rel => exact ⟨j + 1, by omega, by rw [HS.out]; go_num, by go_num, HB2⟩
     case measure => simp only [intOf]; omega
    | some ad =>
     go_wp2_with (at_builtin; refine wpList_append_full _ _ _ rfl (by kernel_rfl) rfl rfl HA.out ?_)
     refine CW.out.mono ?_
     rintro e w5 ⟨⟨v5, m5, rfl, hP5, hR5, _⟩, h5⟩
     have hb5 := below_then hb4 h5
     have CR := hid (HIJ.out v4 v5 m5 w5 (HTT.out _ hb5) (hI4.below h5) hP5 hR5)
     clear CW hP5 hR5 h5 HA hb4 hI4
     go_wp2_with fail
     refine CR.out.mono ?_
     rintro e w6 ⟨rfl, h6⟩
     rw [HFE.out]
     have HB2 := hid (HBB.out _ (below_then hb5 h6))
     clear CR h6 hb5
     go_wp2_with fail
     go_roundw
     case rel => exact ⟨j + 1, by omega, by rw [HS.out]; go_num, by go_num, HB2⟩
     case measure => simp only [intOf]; omega
  ·obtain rfl : j = h.length := by omega
   have hji : ¬ (h.length : Int) < (h.length : Int) := by omega
   go_wp2_with fail
   go_ret
   exact ⟨rfl, HB.out⟩
end

section
open Go.RowKit
theorem prs_nilB (w : World) : Prs w (.slice none 0 0) [] := ⟨rfl, none, 0, rfl, ⟨Nat.le_refl _, by decide⟩, fun _ => ⟨rfl, rfl⟩, fun h => absurd h (Nat.lt_irrefl _)⟩
end

section
open Go.RowKit
def hasI (k : Nat) (t : Int) : Bool := hasT k t.toNat
theorem rl_hasI (k : Nat) (hk : k < 64) (t : Int) (w : World) (ht : 0 < t) (ht2 : t ≤ 32) : Calls Tryz.prog 80 #[.int .i64 k, .int .i64 t] w fun e w' => e = .returned (.bool (hasI k t)) ∧ w = w' := by
 obtain ⟨n, rfl⟩ := Int.eq_ofNat_of_zero_le (Int.le_of_lt ht)
 exact rl_has k n hk (by omega) (by omega) w
def clV (h16 h4 h32 h1 h2 h8 : Bool) : Int :=
 (if h1 || h32 then 1 else 0) + (if h2 || (h4 || h16) then 2 else 0) + (if h4 || h16 then 4 else 0) + (if h8 || h16 then 8 else 0) + (if h16 then 16 else 0) + (if h32 then 32 else 0)
theorem clV_eq : ∀ k : Fin 64, ((clN k.val : Nat) : Int) = clV (hasI k.val 16) (hasI k.val 4) (hasI k.val 32) (hasI k.val 1) (hasI k.val 2) (hasI k.val 8) := by decide +kernel
theorem rl_closed (k : Nat) (hk : k < 64) (w : World) : Calls Tryz.prog 30 #[.int .i64 k] w fun e w' => e = .returned (.int .i64 (clN k)) ∧ w = w' := by
 have H := clV_eq ⟨k, hk⟩
 have C := hid (rl_hasI k hk)
 simp only at H
 cases h16 : hasI k 16 <;> cases h4 : hasI k 4 <;> cases h32 : hasI k 32 <;> cases h1 : hasI k 1 <;> cases h2 : hasI k 2 <;> cases h8 : hasI k 8
 all_goals
  rw [h16, h4, h32, h1, h2, h8] at H
  have HH := hid H
  clear H
  rw [HH.out]
  clear HH
  go_enter Tryz.func30, Tryz.ntmps30
  go_wp2_with (go_at_call 80; refine (C.out _ _ (by omega) (by omega)).mono ?_; rintro e w' ⟨rfl, rfl⟩)
  go_ret
  exact ⟨rfl, rfl⟩
end

section
open Go.RowKit
theorem srch_rows {h : List TxnV} {C n : Nat} : ∀ (k : Nat) (r : List Nat) (M : List (Nat × ByteArray)), r.Nodup → (∀ i ∈ r, i < n) → r.length + k = n → h.length = n → (srch h C n k r M).2.2 ≤ rowsN h C k r
 | 0, r, M, _, _, _, _ => Nat.zero_le _
 | k + 1, r, M, hnd, hlt, hl, hh => by
  by_cases hq : (plS r, keyB h C r) ∈ M
  ·rw [srch_in hq]; exact Nat.zero_le _
  ·rw [srch_go hq, srchEnd_cost.1]
   have key : ∀ j, j ≤ n → (srchTo (srch h C n k) h C r M j).2.2 ≤ ((List.range j).filter fun j => !decide (j ∈ r)).length + ((List.range j).map fun i => if tryP h C r i = true then rowsN h C k (i :: r) else 0).sum := by
    intro j
    induction j with
    | zero => intro _; exact Nat.zero_le _
    | succ j ih =>
     intro hj
     have ih := ih (by omega)
     rw [srchTo_succ, List.range_succ, List.filter_append, List.length_append, List.map_append, List.sum_append, List.map_singleton, List.sum_singleton]
     generalize srchTo (srch h C n k) h C r M j = st at *
     by_cases hjr : j ∈ r
     ·rw [show (List.filter (fun j => !decide (j ∈ r)) [j]).length = 0 by simp [hjr], Nat.add_zero]
      cases h1 : st.1 with
      | some x => rw [step_found h1]; omega
      | none => rw [step_in h1 hjr]; omega
     ·rw [show (List.filter (fun j => !decide (j ∈ r)) [j]).length = 1 by simp [hjr]]
      cases h1 : st.1 with
      | some x => rw [step_found h1]; omega
      | none =>
       cases ht : tryP h C r j with
       | false => rw [step_no h1 hjr ht]; show st.2.2 + 1 ≤ _; omega
       | true =>
        rw [step_yes h1 hjr ht, if_pos rfl]
        have := srch_rows (C := C) k (j :: r) st.2.1 (List.nodup_cons.2 ⟨hjr, hnd⟩) (fun i hi => by rcases List.mem_cons.1 hi with rfl | hi; exact hj; exact hlt i hi) (by simp only [List.length_cons]; omega) hh
        show st.2.2 + 1 + (srch h C n k (j :: r) st.2.1).2.2 ≤ _
        omega
   have hf := free_count hnd hlt
   have := key n (Nat.le_refl _)
   unfold rowsN rowsTo
   rw [hh]
   omega
theorem dec_rows (h : List TxnV) (lv : Int) : (decN h lv).2.2 ≤ rowsN h (clI ((askN lv : Nat) : Int)) h.length [] := by
 unfold decN
 split
 ·exact srch_rows h.length [] [] List.nodup_nil (fun _ hi => (by cases hi)) (by simp) rfl
 ·exact Nat.zero_le _
theorem rows17_any (va : Value) (h : List TxnV) (x : Nat) (hx : x < 64) (hc : checkI h = 0) (hn : h.length ≤ 5) : ∀ (k : Nat) (vr vm : Value) (r : List Nat) (m : List Pr) (w : World), r.length + k = h.length → (∀ a ∈ r, a < h.length) → RowG h x r →
  Txns w va h → Ints w vr (r.reverse.map Int.ofNat) → Prs w vm m → Rep (seesR h x r) m →
  Calls Tryz.prog 32 #[va, .int .i64 x, vr, vm] w fun e w' => e = .returned (.int .i64 ((rowsN h x k r : Nat) : Int)) ∧ Below w.heap.size w w'
 | 0, vr, vm, r, m, w, hk, hlt, g, hT, hl, hm, hR => by
  unfold rowsN
  refine rows17_step va vr vm h x hx r m (fun _ => 0) hc hn hlt g w hT hl hm hR (by omega) (fun _ => Nat.zero_le _) fun i v2 vm2 m2 w2 ht => ?_
  obtain ⟨t1, t2, _⟩ := tryP_parts ht
  have hf := free_count g.nd hlt
  have hmem : i ∈ (List.range h.length).filter fun j => !decide (j ∈ r) := List.mem_filter.2 ⟨List.mem_range.2 t1, by simp [t2]⟩
  have := List.length_pos_of_mem hmem
  omega
 | k + 1, vr, vm, r, m, w, hk, hlt, g, hT, hl, hm, hR => by
  unfold rowsN
  refine rows17_step va vr vm h x hx r m (rowsN h x k) hc hn hlt g w hT hl hm hR (by omega) (fun i => Nat.le_trans (rowsN_le hn k _) (bR_le k (by omega))) fun i v2 vm2 m2 w2 ht a1 a2 a3 a4 => ?_
  obtain ⟨t1, _, _⟩ := tryP_parts ht
  exact rows17_any va h x hx hc hn k v2 vm2 (i :: r) m2 w2 (by simp only [List.length_cons]; omega) (fun a ha => by rcases List.mem_cons.1 ha with rfl | ha; exact t1; exact hlt a ha) (g.push (check_zero hc).1 ht) a1 a2 a3 a4
theorem sbound17_walk (va : Value) (h : List TxnV) (l : Nat) (w : World) (hl8 : l < 256) (ht : Tab w) (hK : Kinds w) (hT : Txns w va h) (hok : ∀ t ∈ h, t.ok) (hsh : Short h) :
  Calls Tryz.prog 6 #[va, .int .u8 l] w fun e w' => e = .returned (.bool true) ∧ Below w.heap.size w w' := by
 have ml : (l : Int) % 12 = ((l % 12 : Nat) : Int) := by omega
 have ll : l % 12 < 12 := Nat.mod_lt _ (by omega)
 generalize l % 12 = y at *
 have hg := ht.pos
 have HT : Hid (∀ wx, Below w.heap.size w wx → Tab wx ∧ Kinds wx) := hid (fun wx hb => ⟨ht.below hb hg, hK.below hb⟩)
 have HH := hid (fun wx (hx : Below w.heap.size w wx) => hT.below hx)
 obtain ⟨ao, cap, rfl, hal⟩ := hT.form
 have HOK := hid hok
 have HSH := hid hsh
 have C0 := hid (speaks17_any w ht hK)
 clear ht hK hT hok
 go_enter Tryz.func6, Tryz.ntmps6
 go_wp2_with fail
 refine (C0.out).mono ?_
 rintro e w1 ⟨rfl, hb1⟩
 clear C0
 by_cases h5 : 5 < h.length
 ·have h5i : (5 : Int) < (h.length : Int) := by omega
  clear hsh
  go_wp2_with fail
  go_ret
  exact ⟨rfl, hb1⟩
 have h5i : ¬ (5 : Int) < (h.length : Int) := by omega
 have CC := hid (rcheck_any _ h w1 (HH.out _ hb1) hsh)
 rw [← check_ref] at CC
 by_cases hc : checkI h = 0
 rotate_left
 ·have hcn : ¬ checkI h = 0 := hc
  generalize checkI h = c at *
  have hcb : (c != 0) = true := by rw [bne_iff_ne]; exact hcn
  clear hsh hc
  go_wp2_with fail
  refine (CC.out).mono ?_
  rintro e w2 ⟨rfl, hb2⟩
  have hb2 := below_then hb1 hb2
  go_wp2_with fail
  go_ret
  exact ⟨rfl, hb2⟩
 rw [hc] at CC
 go_wp2_with fail
 refine (CC.out).mono ?_
 rintro e w2 ⟨rfl, hb2⟩
 have hb2 := below_then hb1 hb2
 have CO := hid (of_done _ h w2 (HH.out _ hb2) HOK.out HSH.out hc)
 have HC := hid hc
 have hcb : (decN h (y : Int)).2.2 ≤ 20000 := Nat.le_trans (dec_tries h (y : Int)) (tr_le h.length (by omega))
 clear hb1 CC hc hsh
 go_wp2_with fail
 refine (CO.out).mono ?_
 rintro e w3 ⟨⟨B, rfl, hB, hO⟩, hb3⟩
 have hb3 := below_then hb2 hb3
 have HW := hid (fun wx (hx : Below w3.heap.size w3 wx) => hb3.trans (hx.mono hb3.size))
 have hTK := HT.out _ hb3
 have CY := hid (fun T F wx (hx : Below w3.heap.size w3 wx) hT hm hU hl => sdecide_ok (w := wx) (y : Int) T F 0 hO hTK.1 hTK.2 HC.out hx hT hm (by omega) hU hl)
 have hax : askN (y : Int) < 64 := by
  unfold askN
  split
  ·next hlv => exact askAt_lt ⟨(y : Int).toNat, by unfold isLv at hlv; simp at hlv; omega⟩
  ·decide
 have hCE : clI ((askN (y : Int) : Nat) : Int) = clN (askN (y : Int)) := by
  unfold clI
  congr 1
  omega
 have CRW := hid (fun wx (hx : Below w3.heap.size w3 wx) => rows17_any (.slice ao h.length cap) h (clI ((askN (y : Int) : Nat) : Int)) (clI_lt _) HC.out (by omega) h.length (.slice none 0 0) (.slice none 0 0) [] [] wx (by simp) (fun _ q => by cases q) RowG.nil (HH.out _ (hb3.trans (hx.mono hb3.size))) (ints_nil wx) (prs_nilB wx) ⟨List.nodup_nil, fun a b => by simp [seesR, plSee]⟩)
 have hcr : (decN h (y : Int)).2.2 ≤ rowsN h (clI ((askN (y : Int) : Nat) : Int)) h.length [] := dec_rows h (y : Int)
 clear hb2 CO hO hB hb3 hTK HT HH HOK HSH HC
 generalize (decN h (y : Int)).2.2 = c at *
 obtain ⟨L, hL⟩ : ∃ L, L = (decW h (y : Int)).1 := ⟨_, rfl⟩
 obtain ⟨LL, hLL⟩ : ∃ LL, LL = (decW h (y : Int)).2.1 := ⟨_, rfl⟩
 rw [← hL, ← hLL] at CY
 generalize (decW h (y : Int)).2.2 = yes at *
 clear hL hLL
 simp only [Nat.zero_add] at CY
 have CN1 := hid (fun wx => fnew_any 4611686018427387904 wx)
 have eM : fuelN 4611686018427387904 = 4611686018427387904 := by decide +kernel
 rw [eM] at CN1
 clear eM
 rw [hCE] at CRW hcr
 generalize rowsN h (clN (askN (y : Int))) h.length [] = R at *
 go_wp2_with fail
 refine (CN1.out _).mono ?_
 rintro e w4 ⟨T1, rfl, hm4, hT4, h4⟩
 have CY1 := hid (CY.out T1 _ w4 h4 hT4 hm4 (fun _ => by omega) (.inl rfl))
 clear CN1 CY hm4 hT4 h4 hCE
 go_wp2_with fail
 refine CY1.out.mono ?_
 rintro e w5 ⟨vo, vs, rfl, hI, hS, hm5, _, h5⟩
 obtain ⟨oo, oc, rfl, _⟩ := hI.form
 obtain ⟨so, sc, rfl, _⟩ := hS.form
 have hx6 := box_below w5 (.cells #[.slice oo L.length oc, .slice so LL.length sc] 32)
 have hm6 := hm5.below hx6 hm5.lt
 have h6 := h5.trans (hx6.mono h5.size)
 clear CY1 hI hS hm5 h5 hx6
 go_upto_region 10 with fail
 generalize w5.alloc (.cells #[.slice oo L.length oc, .slice so LL.length sc] 32) = w6 at *
 have CA := hid (rl_asks (y : Int) w6)
 have CL := hid (rl_closed (askN (y : Int)) hax w6)
 have CU := hid (fused_any T1 _ _ w6 hm6)
 have CR := hid (CRW.out w6 h6)
 clear CRW hm6
 generalize clN (askN (y : Int)) = cl at *
 generalize askN (y : Int) = ak at *
 go_wp2_with fail
 refine CA.out.mono ?_
 rintro e wq ⟨rfl, rfl⟩
 go_wp2_with fail
 refine CL.out.mono ?_
 rintro e wq ⟨rfl, rfl⟩
 go_wp2_with fail
 refine CU.out.mono ?_
 rintro e wq ⟨rfl, rfl⟩
 go_wp2_with fail
 refine CR.out.mono ?_
 rintro e w7 ⟨rfl, h7⟩
 have hz := HW.out _ (h6.trans (h7.mono h6.size))
 have hci : (c : Int) ≤ (R : Int) := by omega
 clear h7 h6 CA CL CU CR
 go_wp2_with fail
 go_ret
 exact ⟨rfl, hz⟩
end

end Go.Proofs.YtecpeegbfeijaaaGreatDoor
