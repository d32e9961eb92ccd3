/- Walks and plain facts that the proof of the statement VectorAccepts uses, joined: SeaF AxhD AxhF AxhG AxhL BruA BruC BruD. Conditions: each theorem's own. -/
import Derived.OneCell
import Derived.Lib.BufferWrite
import Derived.Deep.CutRange
import Derived.RangeFuncNested
import Derived.RangeFuncCalls
import Derived.RangeFuncLeaves
import Derived.RangeFuncBound
import Derived.Shelf.Abstract
import Derived.OwnWalkIn
import Derived.TacticsInMore
import Derived.LoopNIn
import Derived.LoopIn
import Derived.Deep.AppendLies
import Derived.ArgAppend
import Derived.Test.YtmcicfdnmfbimaaGreatDoorPVectorAccepts0
import Derived.Test.YtmcicfdnmfbimaaGreatDoorPVectorAccepts1
import Derived.Test.YtmcicfdnmfbimaaGreatDoorPVectorAccepts2
import Derived.Test.YtmcicfdnmfbimaaGreatDoorPVectorAccepts4
import Derived.Test.YtmcicfdnmfbimaaGreatDoorPVectorAccepts5
import Derived.Test.YtmcicfdnmfbimaaGreatDoorPVectorAccepts7
import Derived.Test.YtmcicfdnmfbimaaGreatDoorPVectorAccepts8
namespace Go.Proofs.YtmcicfdnmfbimaaGreatDoor
set_option maxHeartbeats 32000000
set_option maxRecDepth 100000
open Lib (hid)
section
open Go.RowKit
theorem inv_spend (x : Value) (w : World) : (invoke (.fn (.method "Spend") #[]) #[.iface 43 x]).run Tryz.prog w = .ok (.enter 232 #[x]) w := by kernel_rfl
theorem keyB_len (h : List TxnV) (C : Nat) (r : List Nat) (hr : r.length ≤ 64) : (keyB h C r).size ≤ maxLen := by
 have h1 : (keyB h C r).size = (keyL h C r).length := by unfold keyB byteB ByteArray.size; simp
 have h2 : (keyL h C r).length ≤ 128 := by
  unfold keyL
  rw [List.length_append, List.length_reverse]
  have h3 := wrOf_le (h := h) (r := r)
  have h4 : (lst (lackN (plS r) (wAllN h))).length ≤ 64 := by
   unfold lst lstTo
   exact Nat.le_trans (List.length_filter_le _ _) (by simp)
  split
  ·rw [List.length_map]; omega
  ·simp; omega
 rw [h1]; unfold maxLen; omega
theorem plS_lt (r : List Nat) : plS r < 18446744073709551616 := plS_set r
theorem has_pl {r : List Nat} (hlt : ∀ k ∈ r, k < 64) {j : Nat} (hj : j < 64) : hasB (plS r) (j : Int) = decide (j ∈ r) := by
 unfold hasB
 rw [Int.toNat_natCast, plS_bit j r hlt, show decide (0 ≤ (j : Int) ∧ (j : Int) < 64) = true by simp; omega]
 simp
section
variable {w0 w : World} {N S B b : Nat} {h : List TxnV} {C : Nat} {r : List Nat} {vb vr : Value} {aF sF : Nat → Nat}
theorem xof_any (p : PlX w0 N S B b h C r vb vr aF sF w) (hc : checkI h = 0) (hC : C < 9223372036854775808) :
  Calls Tryz.prog 110 #[.pointer (some ⟨B, 0, none⟩), .pointer (some ⟨S, 0, none⟩)] w fun e w' => e = .returned (kV (plS r) (keyB h C r)) ∧ Below w.heap.size w w' := by
 obtain ⟨W, _, _, q⟩ := p; exact mof_any q hc hC
theorem PlX.ord (p : PlX w0 N S B b h C r vb vr aF sF w) : OrdIs w B b h := by obtain ⟨W, _, _, q⟩ := p; exact q.ord
theorem PlX.tab (p : PlX w0 N S B b h C r vb vr aF sF w) : Tab w := by obtain ⟨W, _, _, q⟩ := p; exact q.tab
end
theorem srchTo_keys {h : List TxnV} {C n k : Nat} {r : List Nat} {M : List (Nat × ByteArray)} (j : Nat) : (srchTo (srch h C n k) h C r M j).2.1.length ≤ M.length + (srchTo (srch h C n k) h C r M j).2.2 := by
 induction j with
 | zero => exact Nat.le_refl _
 | succ j ih =>
  rw [srchTo_succ]
  generalize srchTo (srch h C n k) h C r M j = st at *
  unfold srchStep
  split
  ·exact ih
  ·split
   ·exact ih
   ·split
    ·have := srch_keys (h := h) (C := C) (n := n) k (j :: r) st.2.1
     show List.length (srch h C n k (j :: r) st.2.1).2.1 ≤ M.length + (st.2.2 + 1 + (srch h C n k (j :: r) st.2.1).2.2)
     omega
    ·show st.2.1.length ≤ M.length + (st.2.2 + 1); omega
theorem srch_found {h : List TxnV} {C n k : Nat} {r : List Nat} {M : List (Nat × ByteArray)} {j : Nat} {x : List Nat} (hq : (plS r, keyB h C r) ∉ M) (hj : j ≤ n) (h1 : (srchTo (srch h C n k) h C r M j).1 = some x) :
  srch h C n (k + 1) r M = srchTo (srch h C n k) h C r M j := by
 rw [srch_go hq, srchTo_found_le hj h1]
 unfold srchEnd; rw [h1]
theorem srch_cost_le {h : List TxnV} {C n k : Nat} {r : List Nat} {M : List (Nat × ByteArray)} {j : Nat} (hq : (plS r, keyB h C r) ∉ M) (hj : j ≤ n) : (srchTo (srch h C n k) h C r M j).2.2 ≤ (srch h C n (k + 1) r M).2.2 := by
 rw [srch_go hq, srchEnd_cost.1]; exact srchTo_cost hj
theorem srch_none {h : List TxnV} {C n k : Nat} {r : List Nat} {M : List (Nat × ByteArray)} (hq : (plS r, keyB h C r) ∉ M) (h1 : (srchTo (srch h C n k) h C r M n).1 = none) :
  srch h C n (k + 1) r M = (none, (plS r, keyB h C r) :: (srchTo (srch h C n k) h C r M n).2.1, (srchTo (srch h C n k) h C r M n).2.2) := by
 rw [srch_go hq]; unfold srchEnd; rw [h1]
def SeaRes (w0 : World) (N S B b : Nat) (h : List TxnV) (C X Mb T F : Nat) (vb : Value) (r : List Nat) (vr : Value) (U : Nat) (w : World) (res : Srch) (e : Ending) (w' : World) : Prop :=
 ∃ vr', SeaStep S Mb T vr vr' w w' ∧
  ((Lasts F U res.2.2 ∧ e = .returned (.tuple #[.bool res.1.isSome, .int .i64 0]) ∧ ∃ aF' sF', Sea w0 N S B b h C X Mb T F vb (res.1.getD r) vr' aF' sF' res.2.1 (U + res.2.2) w') ∨
   (¬ Lasts F U res.2.2 ∧ e = .returned (.tuple #[.bool false, .int .i64 4]) ∧ MtAt w' T F F))
section
variable {w0 : World} {N S B b : Nat} {h : List TxnV} {C X Mb T F : Nat} {vb : Value}
theorem sfurther_any (hO : OrdIs w0 B b h) (ht : Tab w0) (hc : checkI h = 0) (hC : C < 9223372036854775808) : ∀ (k : Nat) (r : List Nat) (vr : Value) (aF sF : Nat → Nat) (M : List (Nat × ByteArray)) (U : Nat) (w : World), Sea w0 N S B b h C X Mb T F vb r vr aF sF M U w → r.length + k = h.length →
  M.length + (srch h C h.length k r M).2.2 + 2 ≤ 1099511627776 → (F = 4611686018427387904 → U + (srch h C h.length k r M).2.2 ≤ 4611686018427387904) →
  Calls Tryz.prog 69 #[.pointer (some ⟨X, 0, none⟩)] w fun e w' => SeaRes w0 N S B b h C X Mb T F vb r vr U w (srch h C h.length k r M) e w'
 | 0, r, vr, aF, sF, M, U, w, q, hl, _, _ => by
  have CD := hid (xdone_any q.p)
  rw [decide_eq_true (by omega : r.length = h.length)] at CD
  have Q := hid q
  have c0 := q.x.c0
  have HF : Hid (∀ wx, Below w.heap.size w wx → SeaRes w0 N S B b h C X Mb T F vb r vr U w (srch h C h.length 0 r M) (.returned (.tuple #[.bool true, .int .i64 0])) wx) := hid (fun wx hx => by
   refine ⟨vr, SeaStep.of_below hx, .inl ⟨?_, rfl, aF, sF, Q.out.below hx⟩⟩
   by_cases e : F = 4611686018427387904
   ·exact .inl e
   ·exact .inr (Q.out.t.ue e))
  clear q hO ht hc hl
  go_enter Tryz.func69, Tryz.ntmps69
  go_wp2_with fail
  refine CD.out.mono ?_
  rintro e w1 ⟨rfl, hb⟩
  go_wp2_with fail
  go_ret2
  exact HF.out _ hb
 | k + 1, r, vr, aF, sF, M, U, w, q, hl, hM, hU => by
  have h64 := (check_zero hc).1
  have IH := hid (fun r vr aF sF M U w q hl hM hU => sfurther_any hO ht hc hC k r vr aF sF M U w q hl hM hU)
  have CD := hid (xdone_any q.p)
  rw [decide_eq_false (by omega : ¬ r.length = h.length)] at CD
  have hrl : r.length ≤ 64 := by omega
  have hlt64 : ∀ a ∈ r, a < 64 := fun a ha => by have := q.p.lt.1 a ha; omega
  have hkl := keyB_len h C r hrl
  have hpl := plS_lt r
  have Q := hid q
  have HX : Hid (∀ wx, Below w.heap.size w wx → SrAt wx X S B Mb T) := hid (fun wx hx => (Q.out.below hx).x)
  have CO := hid (fun wx (hx : Below w.heap.size w wx) => xof_any (q.p.below hx) hc hC)
  have CH := hid (fun wx (hx : Below w.heap.size w wx) => mhas_any (Q.out.below hx).m hpl hkl)
  have HN : Hid (∀ wx, Below w.heap.size w wx → wx.cell? ⟨B, 0, none⟩ = some (.int .i64 (h.length : Int))) := hid (fun wx hx => ((q.p.below hx).ord).blk.cN)
  have HH : Hid (OrdIs w0 B b h ∧ Tab w0 ∧ checkI h = 0 ∧ h.length ≤ 64 ∧ r.length + (k + 1) = h.length ∧ ∀ a ∈ r, a < 64) := hid ⟨hO, ht, hc, h64, hl, hlt64⟩
  have HB : Hid (M.length + (srch h C h.length (k + 1) r M).2.2 + 2 ≤ 1099511627776 ∧ (F = 4611686018427387904 → U + (srch h C h.length (k + 1) r M).2.2 ≤ 4611686018427387904)) := hid ⟨hM, hU⟩
  have c0 := q.x.c0
  clear q hO ht hc hl hM hU hkl hpl hlt64 hrl
  go_enter Tryz.func69, Tryz.ntmps69
  go_wp2_with fail
  refine CD.out.mono ?_
  rintro e w1 ⟨rfl, hb1⟩
  clear c0 CD
  obtain ⟨PK, hPK⟩ : ∃ PK, PK = plS r := ⟨_, rfl⟩
  obtain ⟨KK, hKK⟩ : ∃ KK, KK = keyB h C r := ⟨_, rfl⟩
  rw [← hPK, ← hKK] at CO CH
  have HPK := hid hPK
  have HKK := hid hKK
  clear hPK hKK
  go_upto_region 3 with fail
  have kd := hb1.drew
  go_cut [4] from 4 to 21 (fun u wx => ∃ g, u = .pointer (some ⟨g, 0, none⟩) ∧ KyAt wx g PK KK ∧ w.heap.size ≤ g ∧ Below w.heap.size w wx)
  case first =>
   refine wp_region_held_drew (S := Below w.heap.size w) (by kernel_rfl) kd (fun hS0 => ?_)
   refine tA (some 13) 0 rfl rfl hS0 ?_
   try simp only [Act.put, zA, zB, zC]
   refine tA (some 14) 1 rfl rfl hS0 ?_
   try simp only [Act.put, zA, zB, zC]
   refine tA (some 15) 2 rfl rfl hS0 ?_
   try simp only [Act.put, zA, zB, zC]
   refine tG (some 16) 3 ?vsa3x4 rfl rfl (Or.inl ⟨by rfl, ?hsa3x4⟩) hS0 ?rsa3x4
   case hsa3x4 => (intro w hz; obtain ⟨z0, z1, z2, z3⟩ := HX.out w hz; go_simp; try (with_reducible rfl))
   try simp only [Act.put, zA, zB, zC]
   refine tA (some 17) 4 rfl rfl hS0 ?_
   try simp only [Act.put, zA, zB, zC]
   refine tA (some 18) 5 rfl rfl hS0 ?_
   try simp only [Act.put, zA, zB, zC]
   refine tA (some 19) 6 rfl rfl hS0 ?_
   try simp only [Act.put, zA, zB, zC]
   refine tG (some 20) 7 ?vsa7x8 rfl rfl (Or.inl ⟨by rfl, ?hsa7x8⟩) hS0 ?rsa7x8
   case hsa7x8 => (intro w hz; obtain ⟨z0, z1, z2, z3⟩ := HX.out w hz; go_simp; try (with_reducible rfl))
   try simp only [Act.put, zA, zB, zC]
   refine wpAnyH_ready (rs := [8, 9]) (by kernel_rfl) (by simp) ?_
   refine AllReadyH.cons rfl (fun K hK => ?_) (AllReadyH.cons rfl (fun K hK => ?_) AllReadyH.nil)
   ·
    go_simp
    refine (CO.out _ hS0).mono ?_
    rintro e y9 ⟨rfl, hy9⟩
    show K _ _
    have s9 := below_then hS0 hy9
    unfold kV
    refine hK.out _ _ s9 (fun _ => ?_)
    clear hK K
    refine rD 9 rfl (fun K hK => ?_)
    go_simp
    have l10 := s9.size
    have z10 := KyAt.made y9
    have s10 := s9.alloc s9.size (.cells #[.int .u64 0, .string ⟨#[]⟩] 174)
    refine hK.out _ _ s10 (fun _ => ?_)
    clear hK K
    generalize y9.heap.size = g at *
    generalize (y9.alloc (.cells #[.int .u64 0, .string ⟨#[]⟩] 174)) = x10 at *
    refine rD 10 rfl (fun K hK => ?_)
    obtain ⟨k0, k1, k2, k3⟩ := z10
    go_simp
    have s11 := (s10.setCell (p := ⟨g, 0, none⟩) l10 (.int .u64 (PK : Int))).setCell (p := ⟨g, 1, none⟩) l10 (.string KK)
    have z11 := KyAt.set ⟨k0, k1, k2, k3⟩ PK KK
    refine hK.out _ _ s11 (fun _ => ?_)
    clear hK K
    refine wpAnyH_done (by kernel_rfl) ?_ _
    go_wp2_with fail
    go_meet
    exact ⟨g, rfl, z11, l10, s11⟩
   ·
    go_simp
    have l12 := hb1.size
    have z12 : KyAt (w1.alloc (.cells #[.int .u64 0, .string ⟨#[]⟩] 174)).drew w1.heap.size 0 ⟨#[]⟩ := (KyAt.made w1).block rfl
    have s12 := (hb1.alloc hb1.size (.cells #[.int .u64 0, .string ⟨#[]⟩] 174)).drew
    refine hK.out _ _ s12 (fun _ => ?_)
    clear hK K
    generalize w1.heap.size = g at *
    generalize (w1.alloc (.cells #[.int .u64 0, .string ⟨#[]⟩] 174)).drew = x12 at *
    refine rD 8 rfl (fun K hK => ?_)
    go_simp
    refine (CO.out _ s12).mono ?_
    rintro e y13 ⟨rfl, hy13⟩
    show K _ _
    have s13 := below_then s12 hy13
    have z13 := z12.below hy13
    unfold kV
    refine hK.out _ _ s13 (fun _ => ?_)
    clear hK K
    refine rD 10 rfl (fun K hK => ?_)
    obtain ⟨k0, k1, k2, k3⟩ := z13
    go_simp
    have s14 := (s13.setCell (p := ⟨g, 0, none⟩) l12 (.int .u64 (PK : Int))).setCell (p := ⟨g, 1, none⟩) l12 (.string KK)
    have z14 := KyAt.set ⟨k0, k1, k2, k3⟩ PK KK
    refine hK.out _ _ s14 (fun _ => ?_)
    clear hK K
    refine wpAnyH_done (by kernel_rfl) ?_ _
    go_wp2_with fail
    go_meet
    exact ⟨g, rfl, z14, l12, s14⟩
  case rest =>
   obtain ⟨g, rfl, hK0, hgl, hb⟩ := hcut
   clear hb1 kd CO
   generalize wc = w2 at *
   have Q2 := hid (Q.out.below hb)
   have HW2 := hid hb
   have CH1 := hid (fun wx (hx : Below w2.heap.size w2 wx) => CH.out wx (below_then hb hx))
   have HX2 := hid (fun wx (hx : Below w2.heap.size w2 wx) => And.intro (HX.out wx (below_then hb hx)) (hK0.below hx))
   have HN2 := hid (fun wx (hx : Below w2.heap.size w2 wx) => HN.out wx (below_then hb hx))
   have HGL := hid hgl
   clear CH HX HN hb hK0 hgl
   have kd := (Below.refl w2.heap.size w2).drew
   go_upto_region 4 with fail
   by_cases hq : (plS r, keyB h C r) ∈ M
   ·have hmf : memF M PK KK = true := by unfold memF; rw [HPK.out, HKK.out]; exact decide_eq_true hq
    rw [hmf] at CH1
    have HF : Hid (∀ wx, Below w2.heap.size w2 wx → SeaRes w0 N S B b h C X Mb T F vb r vr U w (srch h C h.length (k + 1) r M) (.returned (.tuple #[.bool false, .int .i64 0])) wx) := hid (fun wx hx => by
     rw [srch_in hq]
     refine ⟨vr, SeaStep.of_below (below_then HW2.out hx), .inl ⟨?_, rfl, aF, sF, Q2.out.below hx⟩⟩
     by_cases e : F = 4611686018427387904
     ·exact .inl e
     ·exact .inr (Q2.out.t.ue e))
    clear HB IH hmf HN2
    refine wp_region_held_drew (S := Below w2.heap.size w2) (by kernel_rfl) kd (fun hS0 => ?_)
    refine tA (some 22) 0 rfl rfl hS0 ?_
    try simp only [Act.put, zA, zB, zC]
    refine tA (some 23) 1 rfl rfl hS0 ?_
    try simp only [Act.put, zA, zB, zC]
    refine tA (some 24) 2 rfl rfl hS0 ?_
    try simp only [Act.put, zA, zB, zC]
    refine tG (some 25) 3 ?vsb3x4 rfl rfl (Or.inl ⟨by rfl, ?hsb3x4⟩) hS0 ?rsb3x4
    case hsb3x4 => (intro w hz; obtain ⟨⟨z0, z1, z2, z3⟩, ⟨y0, y1, y2, y3⟩⟩ := HX2.out w hz; go_simp; try (with_reducible rfl))
    try simp only [Act.put, zA, zB, zC]
    refine tG (some 26) 4 ?vsb4x5 rfl rfl (Or.inl ⟨by rfl, ?hsb4x5⟩) hS0 ?rsb4x5
    case hsb4x5 => (intro w hz; obtain ⟨⟨z0, z1, z2, z3⟩, ⟨y0, y1, y2, y3⟩⟩ := HX2.out w hz; go_simp; try (with_reducible rfl))
    try simp only [Act.put, zA, zB, zC]
    refine rD 5 rfl (fun K hK => ?_)
    go_simp
    refine (CH1.out _ hS0).mono ?_
    rintro e y6 ⟨rfl, hy6⟩
    show K _ _
    have s6 := below_then hS0 hy6
    refine hK.out _ _ s6 (fun _ => ?_)
    clear hK K
    generalize y6 = w3 at *
    have hb3 := s6
    refine wpAnyH_done (by kernel_rfl) ?_ _
    go_wp2_with fail
    go_ret2
    exact HF.out _ hb3
   have hmf : memF M PK KK = false := by unfold memF; rw [HPK.out, HKK.out]; exact decide_eq_false hq
   rw [hmf] at CH1
   clear hmf
   refine wp_region_held_drew (S := Below w2.heap.size w2) (by kernel_rfl) kd (fun hS0 => ?_)
   refine tA (some 22) 0 rfl rfl hS0 ?_
   try simp only [Act.put, zA, zB, zC]
   refine tA (some 23) 1 rfl rfl hS0 ?_
   try simp only [Act.put, zA, zB, zC]
   refine tA (some 24) 2 rfl rfl hS0 ?_
   try simp only [Act.put, zA, zB, zC]
   refine tG (some 25) 3 ?vsc3x4 rfl rfl (Or.inl ⟨by rfl, ?hsc3x4⟩) hS0 ?rsc3x4
   case hsc3x4 => (intro w hz; obtain ⟨⟨z0, z1, z2, z3⟩, ⟨y0, y1, y2, y3⟩⟩ := HX2.out w hz; go_simp; try (with_reducible rfl))
   try simp only [Act.put, zA, zB, zC]
   refine tG (some 26) 4 ?vsc4x5 rfl rfl (Or.inl ⟨by rfl, ?hsc4x5⟩) hS0 ?rsc4x5
   case hsc4x5 => (intro w hz; obtain ⟨⟨z0, z1, z2, z3⟩, ⟨y0, y1, y2, y3⟩⟩ := HX2.out w hz; go_simp; try (with_reducible rfl))
   try simp only [Act.put, zA, zB, zC]
   refine rD 5 rfl (fun K hK => ?_)
   go_simp
   refine (CH1.out _ hS0).mono ?_
   rintro e y6 ⟨rfl, hy6⟩
   show K _ _
   have s6 := below_then hS0 hy6
   refine hK.out _ _ s6 (fun _ => ?_)
   clear hK K
   generalize y6 = w3 at *
   have hb3 := s6
   refine wpAnyH_done (by kernel_rfl) ?_ _
   have Q3 := hid (Q2.out.below hb3)
   have HQN := hid hq
   have HST0 : Hid (SeaStep S Mb T vr vr w w3) := hid (SeaStep.of_below (below_then HW2.out hb3))
   have HKW : Hid (∀ vr2 wx, SeaStep S Mb T vr vr2 w3 wx → KyAt wx g PK KK) := hid (fun vr2 wx hs => by
    have hk := (HX2.out _ hb3).2
    have hg := HGL.out
    have hX := Q.out.x.lt; have hMb := Q.out.m.lt; have hT := Q.out.t.lt
    have hS := Q.out.p.lowS.2.1
    exact hk.block (hs.block g hk.lt (by omega) (by omega) (by omega) (fun e => by have := (Q.out.p.own.2 g e).2; omega)))
   have HNE : Hid (g ≠ Mb) := hid (by have hg := HGL.out; have hMb := Q.out.m.lt; omega)
   have HNW : Hid (∀ vr2 wx, SeaStep S Mb T vr vr2 w3 wx → wx.cell? ⟨B, 0, none⟩ = wx.cell? ⟨B, 0, none⟩) := hid (fun _ _ _ => rfl)
   have nB := HN2.out _ hb3
   obtain ⟨c0, c1, c2, c3⟩ := Q3.out.x
   have q3 := Q3.out
   clear HX2 CH1 kd hq HN2 HNW Q2 hb3
   go_wp2_with fail
   go_loopw [35] (fun iv wr => ∃ (j : Nat) (vr2 : Value) (aF2 sF2 : Nat → Nat), j ≤ h.length ∧ iv = .int .i64 j ∧ Hid ((srchTo (srch h C h.length k) h C r M j).1 = none ∧ Lasts F U (srchTo (srch h C h.length k) h C r M j).2.2) ∧ Hid (Sea w0 N S B b h C X Mb T F vb r vr2 aF2 sF2 (srchTo (srch h C h.length k) h C r M j).2.1 (U + (srchTo (srch h C h.length k) h C r M j).2.2) wr) ∧ Hid (SeaStep S Mb T vr vr2 w3 wr)) (fun iv _ => h.length - (intOf iv).toNat)
   case atStart =>
    refine ⟨0, vr, aF, sF, Nat.zero_le _, rfl, hid ⟨rfl, ?_⟩, hid q3, hid (SeaStep.of_below (Below.refl _ _))⟩
    by_cases e : F = 4611686018427387904
    ·exact .inl e
    ·exact .inr (q3.t.ue e)
   case round =>
    clear q3 c0 c1 c2 c3 nB
    obtain ⟨j, vr2, aF2, sF2, hj, rfl, HA, HQ, HT⟩ := hrel
    obtain ⟨c0, c1, c2, c3⟩ := HQ.out.x
    obtain ⟨hO, ht, hc, h64, hl, hlt64⟩ := HH.out
    by_cases hjn : j < h.length
    ·have hji : (j : Int) < (h.length : Int) := by omega
     have CPL := hid (xplaced_any HQ.out.p)
     have CHJ := hid (fun wx => has_any (plS r) (j : Int) wx (plS_set r))
     rw [has_pl hlt64 (show j < 64 by omega)] at CHJ
     have HSU := hid (srchTo_succ (h := h) (C := C) (srch h C h.length k) r M j)
     by_cases hjr : j ∈ r
     ·rw [decide_eq_true hjr] at CHJ
      have HS1 : Hid (srchTo (srch h C h.length k) h C r M (j + 1) = srchTo (srch h C h.length k) h C r M j) := hid (by rw [HSU.out]; exact step_in HA.out.1 hjr)
      clear hO ht hc hlt64 hjr HB IH
      go_wp2_with fail
      refine CPL.out.mono ?_
      rintro e wq ⟨rfl, rfl⟩
      go_wp2_with fail
      refine (CHJ.out _).mono ?_
      rintro e wq ⟨rfl, rfl⟩
      go_wp2_with fail
      go_roundw
      case rel => exact ⟨j + 1, vr2, aF2, sF2, by omega, by go_num, by rw [HS1.out]; exact HA, by rw [HS1.out]; exact HQ, HT⟩
      case measure => simp [intOf]; omega
     rw [decide_eq_false hjr] at CHJ
     have hinv := inv_spend (.pointer (some ⟨T, 0, none⟩))
     have HCO : Hid ((srchTo (srch h C h.length k) h C r M (j + 1)).2.2 ≤ (srch h C h.length (k + 1) r M).2.2) := hid (srch_cost_le HQN.out (by omega))
     have HKE : Hid ((srchTo (srch h C h.length k) h C r M j).2.1.length ≤ M.length + (srchTo (srch h C h.length k) h C r M j).2.2) := hid (srchTo_keys j)
     have HTW : Hid (SeaStep S Mb T vr vr2 w wr) := hid (HST0.out.trans HT.out)
     have hcs : (srchTo (srch h C h.length k) h C r M j).2.2 + 1 ≤ (srchTo (srch h C h.length k) h C r M (j + 1)).2.2 := by
      rw [HSU.out]
      cases htj : tryP h C r j with
      | false => rw [step_no HA.out.1 hjr htj]; exact Nat.le_refl _
      | true => rw [step_yes HA.out.1 hjr htj]; exact Nat.le_add_right _ _
     by_cases h0 : mleftN F (U + (srchTo (srch h C h.length k) h C r M j).2.2) = 0
     ·have CS := hid (fspend_no T F _ wr HQ.out.t h0)
      have HF : Hid (∀ wx, Below wr.heap.size wr wx → SeaRes w0 N S B b h C X Mb T F vb r vr U w (srch h C h.length (k + 1) r M) (.returned (.tuple #[.bool false, .int .i64 4])) wx) := hid (fun wx hx => by
       obtain ⟨e1, e2⟩ := left_zero h0
       have e3 := HQ.out.t.ue e1
       have hm := HQ.out.t.below hx HQ.out.t.lt
       rw [show U + (srchTo (srch h C h.length k) h C r M j).2.2 = F by omega] at hm
       have hco := HCO.out
       refine ⟨vr2, HTW.out.trans (SeaStep.of_below hx), .inr ⟨fun q => ?_, rfl, hm⟩⟩
       rcases q with q | q
       ·exact e1 q
       ·omega)
      clear hO ht hc hlt64 hjr HB IH hcs h0
      go_wp2_with fail
      refine CPL.out.mono ?_
      rintro e wq ⟨rfl, rfl⟩
      go_wp2_with fail
      refine (CHJ.out _).mono ?_
      rintro e wq ⟨rfl, rfl⟩
      go_wp2_with fail
      refine CS.out.mono ?_
      rintro e w5 ⟨rfl, hb5⟩
      go_wp2_with fail
      go_ret2
      exact HF.out _ hb5
     have CS := hid (fspend_own T F _ wr HQ.out.t h0 (by
      have hco := HCO.out
      by_cases e : F = 4611686018427387904
      ·have := HB.out.2 e; omega
      ·have h1 := HQ.out.t.le
       have h2 := HQ.out.t.ue e
       unfold mleftN at h0
       rw [if_neg e] at h0
       omega))
     have HL : Hid (Lasts F U ((srchTo (srch h C h.length k) h C r M j).2.2 + 1)) := hid (by
      by_cases e : F = 4611686018427387904
      ·exact .inl e
      ·have h2 := HQ.out.t.ue e
       unfold mleftN at h0
       rw [if_neg e] at h0
       exact .inr (by omega))
     clear h0
     have HJR := hid hjr
     have HCS := hid hcs
     have HSP := hid (fun w5 hg hm => HQ.out.spend (w' := w5) hO ht hg hm)
     have HCD := hid hc
     have HLT := hid hl
     clear hO ht hlt64 hjr hcs hc hl
     go_wp2_with fail
     refine CPL.out.mono ?_
     rintro e wq ⟨rfl, rfl⟩
     go_wp2_with fail
     refine (CHJ.out _).mono ?_
     rintro e wq ⟨rfl, rfl⟩
     go_wp2_with fail
     refine CS.out.mono ?_
     rintro e w5 ⟨rfl, hm5, hg5⟩
     have Q5 := hid (HSP.out w5 hg5 hm5)
     have HT5 := hid (HT.out.trans (SeaStep.of_meter hg5))
     clear hm5 hg5 CS CPL CHJ HSP c0 c1 c2 c3 hinv
     obtain ⟨c0, c1, c2, c3⟩ := Q5.out.x
     cases htj : tryP h C r j with
     | false =>
      have CT := hid (xtry_no Q5.out.p HCD.out hC (j : Int) (by unfold tryI; rw [Int.toNat_natCast, htj]; simp))
      have HS1 : Hid (srchTo (srch h C h.length k) h C r M (j + 1) = (none, (srchTo (srch h C h.length k) h C r M j).2.1, (srchTo (srch h C h.length k) h C r M j).2.2 + 1)) := hid (by rw [HSU.out]; exact step_no HA.out.1 HJR.out htj)
      clear htj
      go_wp2_with fail
      refine CT.out.mono ?_
      rintro e w6 ⟨rfl, hb6⟩
      have Q6 := hid (Q5.out.below hb6)
      have HT6 := hid (HT5.out.trans (SeaStep.of_below hb6))
      clear hb6
      go_wp2_with fail
      go_roundw
      case rel => exact ⟨j + 1, vr2, aF2, sF2, by omega, by go_num, by rw [HS1.out]; exact hid ⟨rfl, HL.out⟩, by rw [HS1.out]; exact Q6, HT6⟩
      case measure => simp [intOf]; omega
     | true =>
      have CT := hid (xtry_yes Q5.out.p HCD.out hC j htj)
      have HS1 := hid (HSU.out.trans (step_yes HA.out.1 HJR.out htj))
      clear htj
      go_wp2_with fail
      refine CT.out.mono ?_
      rintro e w6 ⟨rfl, vr3, aF3, sF3, p6, k6⟩
      have Q6 := hid (Q5.out.step p6 k6)
      have HT6 := hid (HT5.out.trans (SeaStep.of_step k6))
      have CI := hid (IH.out (j :: r) vr3 aF3 sF3 (srchTo (srch h C h.length k) h C r M j).2.1 (U + (srchTo (srch h C h.length k) h C r M j).2.2 + 1) w6 Q6.out (by have := HLT.out; simp only [List.length_cons]; omega)
       (by
        have h1 := HCO.out; have h2 := HKE.out; have h3 := HB.out.1
        rw [HS1.out] at h1
        simp only at h1
        omega)
       (fun e => by
        have h1 := HCO.out; have h3 := HB.out.2 e
        rw [HS1.out] at h1
        simp only at h1
        omega))
      clear p6 k6 c0 c1 c2 c3 CT
      obtain ⟨c0, c1, c2, c3⟩ := Q6.out.x
      go_wp2_with fail
      refine CI.out.mono ?_
      rintro e w7 ⟨vr4, hst4, hres⟩
      have HT7 := hid (HT6.out.trans hst4)
      clear hst4 CI c0 c1 c2 c3
      rcases hres with ⟨hla, rfl, aF4, sF4, q7⟩ | ⟨hla, rfl, hm7⟩
      ·have Q7 := hid q7
       have HL7 : Hid (Lasts F U ((srchTo (srch h C h.length k) h C r M j).2.2 + 1 + (srch h C h.length k (j :: r) (srchTo (srch h C h.length k) h C r M j).2.1).2.2)) := hid (hla.imp id (fun q => by omega))
       clear q7 hla
       obtain ⟨c0, c1, c2, c3⟩ := Q7.out.x
       cases hfd : (srch h C h.length k (j :: r) (srchTo (srch h C h.length k) h C r M j).2.1).1 with
       | some x =>
        have HF : Hid (SeaRes w0 N S B b h C X Mb T F vb r vr U w (srch h C h.length (k + 1) r M) (.returned (.tuple #[.bool true, .int .i64 0])) w7) := hid (by
         have e1 : (srchTo (srch h C h.length k) h C r M (j + 1)).1 = some x := by rw [HS1.out]; exact hfd
         rw [srch_found HQN.out (by omega) e1, HS1.out]
         have q7 := Q7.out
         rw [hfd] at q7
         refine ⟨vr4, HST0.out.trans HT7.out, .inl ⟨HL7.out, by rw [hfd]; rfl, aF4, sF4, ?_⟩⟩
         rw [hfd]
         rw [show U + (srchTo (srch h C h.length k) h C r M j).2.2 + 1 + (srch h C h.length k (j :: r) (srchTo (srch h C h.length k) h C r M j).2.1).2.2 = U + ((srchTo (srch h C h.length k) h C r M j).2.2 + 1 + (srch h C h.length k (j :: r) (srchTo (srch h C h.length k) h C r M j).2.1).2.2) by omega] at q7
         exact q7)
        clear hfd Q7
        go_wp2_with fail
        go_ret2
        exact HF.out
       | none =>
        have Q7 := Q7.out
        rw [hfd] at Q7
        have Q7 := hid Q7
        have CU := hid (xundo_cons Q7.out.p h64)
        have HS2 : Hid (srchTo (srch h C h.length k) h C r M (j + 1) = (none, (srch h C h.length k (j :: r) (srchTo (srch h C h.length k) h C r M j).2.1).2.1, (srchTo (srch h C h.length k) h C r M j).2.2 + 1 + (srch h C h.length k (j :: r) (srchTo (srch h C h.length k) h C r M j).2.1).2.2)) := hid (by rw [HS1.out, hfd])
        clear hfd
        go_wp2_with fail
        refine CU.out.mono ?_
        rintro e w8 ⟨rfl, vr5, p8, k8⟩
        have Q8 := Q7.out.step p8 k8
        rw [show U + (srchTo (srch h C h.length k) h C r M j).2.2 + 1 + (srch h C h.length k (j :: r) (srchTo (srch h C h.length k) h C r M j).2.1).2.2 = U + ((srchTo (srch h C h.length k) h C r M j).2.2 + 1 + (srch h C h.length k (j :: r) (srchTo (srch h C h.length k) h C r M j).2.1).2.2) by omega] at Q8
        have Q8 := hid Q8
        have HT8 := hid (HT7.out.trans (SeaStep.of_step k8))
        clear p8 k8
        go_wp2_with fail
        go_roundw
        case rel => exact ⟨j + 1, vr5, aF4, sF4, by omega, by go_num, by rw [HS2.out]; exact hid ⟨rfl, HL7.out⟩, by rw [HS2.out]; exact Q8, HT8⟩
        case measure => simp [intOf]; omega
      ·have HF : Hid (SeaRes w0 N S B b h C X Mb T F vb r vr U w (srch h C h.length (k + 1) r M) (.returned (.tuple #[.bool false, .int .i64 4])) w7) := hid (by
        refine ⟨vr4, HST0.out.trans HT7.out, .inr ⟨fun q => hla (q.imp id fun q => ?_), rfl, hm7⟩⟩
        have h1 := HCO.out
        rw [HS1.out] at h1
        simp only at h1
        omega)
       clear hla hm7
       go_wp2_with fail
       go_ret2
       exact HF.out
    ·have hjn : j = h.length := by omega
     subst hjn
     have HK9 := hid (HKW.out _ _ HT.out)
     have hS9 : SrAt wr.drew X S B Mb T ∧ KyAt wr.drew g PK KK := ⟨HQ.out.x.block rfl, HK9.out.block rfl⟩
     have hpl := plS_lt r
     rw [← HPK.out] at hpl
     have hkl := keyB_len h C r (by omega)
     rw [← HKK.out] at hkl
     have qd := HQ.out.below (w' := wr.drew) ((Below.refl wr.heap.size wr).drew)
     have HTD : Hid (SeaStep S Mb T vr vr2 w wr.drew) := hid ((HST0.out.trans HT.out).trans (SeaStep.of_below ((Below.refl wr.heap.size wr).drew)))
     have HSN := hid (srch_none HQN.out HA.out.1)
     rw [← HPK.out, ← HKK.out] at HSN
     cases hmf : memF (srchTo (srch h C h.length k) h C r M h.length).2.1 PK KK with
     | true =>
      have CA := hid (madd_no qd.m hpl hkl hmf)
      have HSB : Hid (∀ wx, Below wr.drew.heap.size wr.drew wx → SrAt wx X S B Mb T ∧ KyAt wx g PK KK) := hid (fun wx hx => ⟨hS9.1.block (hx.block X hS9.1.lt), hS9.2.below hx⟩)
      have HF : Hid (∀ wx, Below wr.drew.heap.size wr.drew wx → SeaRes w0 N S B b h C X Mb T F vb r vr U w (srch h C h.length (k + 1) r M) (.returned (.tuple #[.bool false, .int .i64 0])) wx) := hid (fun wx hx => by
       rw [HSN.out]
       have q9 := qd.below hx
       have e : memF (srchTo (srch h C h.length k) h C r M h.length).2.1 = memF ((PK, KK) :: (srchTo (srch h C h.length k) h C r M h.length).2.1) := by
        rw [← memF_cons]
        funext q u
        by_cases e : q = PK ∧ u = KK
        ·obtain ⟨rfl, rfl⟩ := e; rw [hmf]; simp
        ·rw [decide_eq_false e, Bool.false_or]
       have hm := q9.m
       rw [e] at hm
       exact ⟨vr2, HTD.out.trans (SeaStep.of_below hx), .inl ⟨HA.out.2, rfl, aF2, sF2, q9.p, q9.x, hm.mono (by simp), q9.t, q9.ap, q9.ne, q9.lo⟩⟩)
      clear HB IH hmf hpl hkl qd HTD HSN HA hO ht hc hlt64 hl
      go_upto_region 18 with fail
      refine wp_region_held_drew (S := (fun wx => SrAt wx X S B Mb T ∧ KyAt wx g PK KK)) (by kernel_rfl) hS9 (fun hS0 => ?_)
      refine tA (some 76) 0 rfl rfl hS0 ?_
      try simp only [Act.put, zA, zB, zC]
      refine tA (some 77) 1 rfl rfl hS0 ?_
      try simp only [Act.put, zA, zB, zC]
      refine tA (some 78) 2 rfl rfl hS0 ?_
      try simp only [Act.put, zA, zB, zC]
      refine tG (some 79) 3 ?vsd3x4 rfl rfl (Or.inl ⟨by rfl, ?hsd3x4⟩) hS0 ?rsd3x4
      case hsd3x4 => (intro w hz; obtain ⟨⟨z0, z1, z2, z3⟩, ⟨y0, y1, y2, y3⟩⟩ := hz; go_simp; try (with_reducible rfl))
      try simp only [Act.put, zA, zB, zC]
      refine tG (some 80) 4 ?vsd4x5 rfl rfl (Or.inl ⟨by rfl, ?hsd4x5⟩) hS0 ?rsd4x5
      case hsd4x5 => (intro w hz; obtain ⟨⟨z0, z1, z2, z3⟩, ⟨y0, y1, y2, y3⟩⟩ := hz; go_simp; try (with_reducible rfl))
      try simp only [Act.put, zA, zB, zC]
      refine rD 5 rfl (fun K hK => ?_)
      go_simp
      refine (CA.out).mono ?_
      rintro e w9 ⟨rfl, hb9⟩
      show K _ _
      refine hK.out _ _ (HSB.out _ hb9) (fun _ => ?_)
      clear hK K
      refine wpAnyH_done (by kernel_rfl) ?_ _
      go_wp2_with fail
      go_ret2
      exact HF.out _ hb9
     | false =>
      have CA := hid (madd_yes qd.m (by have h1 := HB.out.1; rw [HSN.out] at h1; have h2 := srchTo_keys (h := h) (C := C) (n := h.length) (k := k) (r := r) (M := M) h.length; simp only at h1; unfold maxLen; omega) hpl hkl hmf)
      have HSG : Hid (∀ wx, wr.drew.grownBy wx (some Mb) → SrAt wx X S B Mb T ∧ KyAt wx g PK KK) := hid (fun wx hx => ⟨hS9.1.block (hx.block X hS9.1.lt (fun e => qd.ne.1 (by injection e))), hS9.2.block (hx.block g hS9.2.lt (fun e => HNE.out (by injection e)))⟩)
      have HF : Hid (∀ wx, MemM wx Mb ((srchTo (srch h C h.length k) h C r M h.length).2.1.length + 1) (fun q u => decide (q = PK ∧ u = KK) || memF (srchTo (srch h C h.length k) h C r M h.length).2.1 q u) → wr.drew.grownBy wx (some Mb) → SeaRes w0 N S B b h C X Mb T F vb r vr U w (srch h C h.length (k + 1) r M) (.returned (.tuple #[.bool false, .int .i64 0])) wx) := hid (fun wx hm hg => by
       rw [HSN.out]
       rw [memF_cons] at hm
       exact ⟨vr2, HTD.out.trans (SeaStep.of_memo hg), .inl ⟨HA.out.2, rfl, aF2, sF2, qd.add hO ht hg hm⟩⟩)
      clear HB IH hmf hpl hkl qd HTD HSN HA hO ht hc hlt64 hl
      go_upto_region 18 with fail
      refine wp_region_held_drew (S := (fun wx => SrAt wx X S B Mb T ∧ KyAt wx g PK KK)) (by kernel_rfl) hS9 (fun hS0 => ?_)
      refine tA (some 76) 0 rfl rfl hS0 ?_
      try simp only [Act.put, zA, zB, zC]
      refine tA (some 77) 1 rfl rfl hS0 ?_
      try simp only [Act.put, zA, zB, zC]
      refine tA (some 78) 2 rfl rfl hS0 ?_
      try simp only [Act.put, zA, zB, zC]
      refine tG (some 79) 3 ?vse3x4 rfl rfl (Or.inl ⟨by rfl, ?hse3x4⟩) hS0 ?rse3x4
      case hse3x4 => (intro w hz; obtain ⟨⟨z0, z1, z2, z3⟩, ⟨y0, y1, y2, y3⟩⟩ := hz; go_simp; try (with_reducible rfl))
      try simp only [Act.put, zA, zB, zC]
      refine tG (some 80) 4 ?vse4x5 rfl rfl (Or.inl ⟨by rfl, ?hse4x5⟩) hS0 ?rse4x5
      case hse4x5 => (intro w hz; obtain ⟨⟨z0, z1, z2, z3⟩, ⟨y0, y1, y2, y3⟩⟩ := hz; go_simp; try (with_reducible rfl))
      try simp only [Act.put, zA, zB, zC]
      refine rD 5 rfl (fun K hK => ?_)
      go_simp
      refine (CA.out).mono ?_
      rintro e w9 ⟨rfl, hm9, hg9⟩
      show K _ _
      refine hK.out _ _ (HSG.out _ hg9) (fun _ => ?_)
      clear hK K
      refine wpAnyH_done (by kernel_rfl) ?_ _
      go_wp2_with fail
      go_ret2
      exact HF.out _ hm9 hg9
end
end

section
open Go.RowKit
def putM (m : List Pr) (a b : Int) : List Pr := if (mayB a && mayB b) = true then putP m a b else m
theorem rep_add {V : Mat} {m : List Pr} (h : Rep V m) (a b : Int) : Rep (addM V a b) (putM m a b) := by
 unfold putM
 cases hab : (mayB a && mayB b) with
 | false =>
  rw [if_neg (by decide)]
  have e : addM V a b = V := by
   unfold addM
   rw [if_neg]
   rintro ⟨h1, h2⟩
   rw [h1, h2] at hab; cases hab
  rw [e]; exact h
 | true =>
  rw [if_pos rfl]
  rw [Bool.and_eq_true] at hab
  have h1 := (mayB_iff a).1 hab.1
  have h2 := (mayB_iff b).1 hab.2
  refine ⟨putP_nodup h.1, fun c d => ?_⟩
  rw [mem_putP, h.2]
  constructor
  ·rintro (⟨i, j, hi, hj, rfl, rfl, hv⟩ | e)
   ·exact ⟨i, j, hi, hj, rfl, rfl, (addM_iff V a b i j hi hj).2 (.inl hv)⟩
   ·have e1 : c = a := congrArg Prod.fst e
    have e2 : d = b := congrArg Prod.snd e
    subst e1; subst e2
    exact ⟨c.toNat, d.toNat, by omega, by omega, by omega, by omega, (addM_iff V c d _ _ (by omega) (by omega)).2 (.inr ⟨by omega, by omega⟩)⟩
  ·rintro ⟨i, j, hi, hj, rfl, rfl, hv⟩
   rcases (addM_iff V a b i j hi hj).1 hv with hv | ⟨e1, e2⟩
   ·exact .inl ⟨i, j, hi, hj, rfl, rfl, hv⟩
   ·exact .inr (by rw [e1, e2])
theorem rowsA_u64 (V : Mat) {i : Nat} {u : Value} (h : (rowsA V)[i]? = some u) : ∃ n : Int, u = .int .u64 n := by
 have hi : i < 64 := by
  have := (Array.getElem?_eq_some_iff.1 h).1
  rwa [rowsA_size] at this
 rw [rowsA_at V hi] at h
 cases h
 exact ⟨_, rfl⟩
end

section
open Go.RowKit
def Lists (w : World) (v : Value) (LL : List (List Int)) : Prop := ∃ sv : List Value, Row w v LL.length 1 sv ∧ ∀ (k : Nat) (hk : k < LL.length), ∃ u, sv[k]? = some u ∧ Ints w u LL[k]
theorem Lists.below {w w' : World} {v : Value} {LL : List (List Int)} (h : Lists w v LL) (hb : Below w.heap.size w w') : Lists w' v LL := by
 obtain ⟨sv, h1, h2⟩ := h
 exact ⟨sv, h1.below hb, fun k hk => by obtain ⟨u, hu, hi⟩ := h2 k hk; exact ⟨u, hu, hi.below hb⟩⟩
theorem Lists.form {w : World} {v : Value} {LL : List (List Int)} (h : Lists w v LL) : ∃ ao cap, v = .slice ao LL.length cap ∧ LL.length ≤ 9223372036854775807 := by
 obtain ⟨sv, ⟨_, ao, cap, rfl, hm, _, _⟩, _⟩ := h
 exact ⟨ao, cap, rfl, Nat.le_trans hm.1 hm.2⟩
theorem Lists.at {w : World} {ao : Option Addr} {n cap : Nat} {LL : List (List Int)} (h : Lists w (.slice ao n cap) LL) {k : Nat} (hk : k < LL.length) :
  ∃ b off u, ao = some ⟨b, off, none⟩ ∧ w.cell? ⟨b, off + k, none⟩ = some u ∧ Ints w u LL[k] := by
 obtain ⟨sv, ⟨_, ao', cap', he, _, _, hc⟩, h2⟩ := h
 cases he
 obtain ⟨b, off, e, hcell⟩ := hc (by omega)
 obtain ⟨u, hu, hi⟩ := h2 k hk
 exact ⟨b, off, u, e, by rw [hcell k (by omega), hu], hi⟩
def insP (o : List Pr) (i : Int) (l : List Int) : List Pr := l.foldl (fun o a => putP o a i) o
theorem insP_succ (o : List Pr) (i : Int) (l : List Int) (k : Nat) (hk : k < l.length) : insP o i (l.take (k + 1)) = putP (insP o i (l.take k)) l[k] i := by
 unfold insP
 rw [List.take_succ_eq_append_getElem hk, List.foldl_append]; rfl
theorem insP_len (i : Int) : ∀ (l : List Int) (o : List Pr), (insP o i l).length ≤ o.length + l.length
 | [], o => by simp [insP]
 | a :: l, o => by
  have h1 := insP_len i l (putP o a i)
  have h2 := (putP_len o a i).1
  have e : insP o i (a :: l) = insP (putP o a i) i l := rfl
  rw [e, List.length_cons]; omega
theorem mem_insP {i : Int} {p : Pr} : ∀ (l : List Int) (o : List Pr), p ∈ insP o i l ↔ p ∈ o ∨ ∃ a ∈ l, p = (a, i)
 | [], o => by simp [insP]
 | a :: l, o => by
  have e : insP o i (a :: l) = insP (putP o a i) i l := rfl
  rw [e, mem_insP l, mem_putP, or_assoc]
  apply or_congr Iff.rfl
  constructor
  ·rintro (h | ⟨b, hb, h⟩)
   ·exact ⟨a, List.mem_cons_self, h⟩
   ·exact ⟨b, List.mem_cons_of_mem _ hb, h⟩
  ·rintro ⟨b, hb, h⟩
   rcases List.mem_cons.1 hb with rfl | hb
   ·exact .inl h
   ·exact .inr ⟨b, hb, h⟩
def pairsL (LL : List (List Int)) : Nat → List Pr
 | 0 => []
 | k + 1 => insP (pairsL LL k) (k : Int) (LL.getD k [])
theorem mem_pairsL {LL : List (List Int)} {p : Pr} : ∀ k, p ∈ pairsL LL k ↔ ∃ i : Nat, i < k ∧ ∃ a ∈ LL.getD i [], p = (a, (i : Int))
 | 0 => by simp [pairsL]
 | k + 1 => by
  unfold pairsL
  rw [mem_insP, mem_pairsL k]
  constructor
  ·rintro (⟨i, hi, h⟩ | ⟨a, ha, h⟩)
   ·exact ⟨i, by omega, h⟩
   ·exact ⟨k, by omega, a, ha, h⟩
  ·rintro ⟨i, hi, h⟩
   by_cases e : i = k
   ·subst e; exact .inr h
   ·exact .inl ⟨i, by omega, h⟩
def okRow (n : Nat) (l : List Int) : Bool := l.all fun a => decide (0 ≤ a) && decide (a < (n : Int))
def okL (n : Nat) (LL : List (List Int)) : Bool := decide (LL.length = n) && LL.all (okRow n)
theorem rep_none : Rep noR [] := ⟨List.nodup_nil, fun a b => by simp [noR]⟩
theorem rep_put {V : Mat} {m : List Pr} (h : Rep V m) {a b : Int} (ha : 0 ≤ a ∧ a < 64) (hb : 0 ≤ b ∧ b < 64) : Rep (addM V a b) (putP m a b) := by
 have := rep_add h a b
 unfold putM at this
 rwa [(mayB_iff a).2 ha, (mayB_iff b).2 hb, if_pos (by rfl)] at this
theorem Ints.relApart {w w' : World} {v : Value} {l : List Int} {g : Nat} {V : Mat} (h : Ints w v l) (hV : RelAt w g 98 V) (hg : w.grownBy w' (some g)) : Ints w' v l := by
 obtain ⟨hl, ao, cap, rfl, hm, hno, hc⟩ := h
 refine ⟨hl, ao, cap, rfl, hm, hno, fun hn => ?_⟩
 obtain ⟨b, off, rfl, hcell⟩ := hc hn
 refine ⟨b, off, rfl, fun i hi => ?_⟩
 have h2 := hcell i hi
 rw [List.getElem?_eq_getElem (by omega)] at h2 ⊢
 refine hg.cell h2 (fun e => ?_)
 obtain rfl : b = g := by simpa using e
 rw [List.getElem_map, cell_of_row w b (off + i) _ _ _ hV] at h2
 obtain ⟨n, hn2⟩ := rowsA_u64 V h2
 cases hn2
theorem results_rel2 {fn : Func} {p u : Tmp} (h : fn.results = #[.cell p 98, .tmp u]) (tmps : Array Value) (w : World) (g : Nat) (R : Mat)
  (hp : tmps.getD p undef = .pointer (some ⟨g, 0, none⟩)) (hg : RelAt w g 98 R) : (results fn tmps).run Tryz.prog w = .ok (.tuple #[.agg (rowsA R), tmps.getD u undef]) w := by
 have hp' : tmps[p]?.getD undef = .pointer (some ⟨g, 0, none⟩) := by simpa using hp
 simp [results, h, hp', asAddr, run_loadVar_row w g _ 98 (rowsA R) _ _ hg Tryz.underlying98 rfl (infoRel' _)]
theorem arelation_any (n : Nat) (hn : n ≤ 64) (vs : Value) (LL : List (List Int)) (w : World) (hL : Lists w vs LL) :
  Calls Tryz.prog 71 #[.int .i64 n, vs] w fun e w' => (∃ R, e = .returned (.tuple #[.agg (rowsA R), .bool (okL n LL)]) ∧ (okL n LL = true → Rep R (pairsL LL n))) ∧ Below w.heap.size w w' := by
 obtain ⟨ao, cap, rfl, hll⟩ := hL.form
 have HL := hid (fun wx (hx : Below w.heap.size w wx) => hL.below hx)
 have HR : Hid (okL n LL = (decide (LL.length = n) && LL.all (okRow n))) := hid rfl
 clear hL
 go_enter Tryz.func71, Tryz.ntmps71
 by_cases hne : LL.length = n
 rotate_left
 ·have h0 := (zero_block w).alloc (.cells Z64 98)
  have h1 := zero_block (w.alloc (.cells Z64 98))
  have hb := ((Below.refl w.heap.size w).alloc (Nat.le_refl _) (.cells Z64 98)).alloc (by simp) (.cells Z64 98)
  have hsz : (w.alloc (.cells Z64 98)).heap.size = w.heap.size + 1 := by simp
  rw [hsz] at h1
  have hnb : ((LL.length : Int) != (n : Int)) = true := by rw [bne_iff_ne]; omega
  have hnq : ¬ (LL.length : Int) = (n : Int) := by omega
  have HV : Hid (okL n LL = false) := hid (by rw [HR.out, decide_eq_false hne]; rfl)
  clear HR hne
  go_upto_region 2 with fail
  generalize (w.alloc (.cells Z64 98)).alloc (.cells Z64 98) = w1 at *
  clear hsz
  go_wp2_with (first
    | (with_reducible refine wpList_load_rel h1 rfl _ rfl rfl ?_)
    | (with_reducible refine wpList_store_rel h0 noR rfl _ _ rfl rfl rfl ?_))
  have h3 := h0.setRow noR
  exact bodyPost_ret (results_rel2 rfl _ _ _ _ rfl h3) rfl ⟨⟨noR, by rw [HV.out]; rfl, fun h => by rw [HV.out] at h; cases h⟩, below_setRow hb (by omega) _⟩
 have hnb : ((LL.length : Int) != (n : Int)) = false := by rw [bne_eq_false_iff_eq]; omega
 have hnq : (LL.length : Int) = (n : Int) := by omega
 rw [decide_eq_true hne, Bool.true_and] at HR
 have HNE := hid hne
 have HZ0 : Hid (Z64 = rowsA noR) := hid (by rw [rowsA_none]; rfl)
 clear hne
 have h0 := (zero_block w).alloc (.cells Z64 98)
 have h1 := zero_block (w.alloc (.cells Z64 98))
 have hb := ((Below.refl w.heap.size w).alloc (Nat.le_refl _) (.cells Z64 98)).alloc (by simp) (.cells Z64 98)
 have hsz : (w.alloc (.cells Z64 98)).heap.size = w.heap.size + 1 := by simp
 rw [hsz] at h1
 go_wp2_with fail
 generalize (w.alloc (.cells Z64 98)).alloc (.cells Z64 98) = w1 at *
 clear hsz
 go_loopw [18] (fun iv wr => ∃ (i : Nat) (R : Mat), i ≤ n ∧ iv = .int .i64 i ∧ RelAt wr (w.heap.size + 1) 98 R ∧ RelAt wr w.heap.size 98 noR ∧ Hid (Rep R (pairsL LL i)) ∧ Hid ((LL.take i).all (okRow n) = true) ∧ Below w.heap.size w wr) (fun iv _ => n - (intOf iv).toNat)
 case atStart => exact ⟨0, noR, by omega, rfl, h1, h0, hid rep_none, hid rfl, hb⟩
 case round =>
  clear h1 h0 hb
  obtain ⟨i, R, hi, rfl, h1, h0, HP, HA, hb⟩ := hrel
  by_cases hlt : i < n
  ·have hii : (i : Int) < (n : Int) := by omega
   have hil : i < LL.length := by have := HNE.out; omega
   have hli : (i : Int) < (LL.length : Int) := by omega
   obtain ⟨g, o, u, hao, c1, hI⟩ := (HL.out _ hb).at hil
   cases hao
   have HYES := hid (fun hy : okRow n LL[i] = true => show (LL.take (i + 1)).all (okRow n) = true by rw [List.take_succ_eq_append_getElem hil, List.all_append, HA.out]; simp [hy])
   have HNO := hid (fun hy : okRow n LL[i] = false => show okL n LL = false by rw [HR.out, List.all_eq_false]; exact ⟨_, List.getElem_mem hil, by rw [hy]; decide⟩)
   have HPS : Hid (pairsL LL (i + 1) = insP (pairsL LL i) (i : Int) LL[i]) := hid (by
    show insP (pairsL LL i) (i : Int) (LL.getD i []) = _
    rw [List.getD_eq_getElem?_getD, List.getElem?_eq_getElem hil]; rfl)
   clear HA
   generalize LL[i] = l at *
   obtain ⟨ro, rcap, rfl, hlm⟩ := hI.form
   have HI := hid (fun wx (hx : Below wr.heap.size wr wx) => hI.below hx)
   have hbr := Below.refl wr.heap.size wr
   generalize pairsL LL i = P at *
   clear hI
   go_wp2_with fail
   go_loopw [25] (fun kv wx => ∃ (k : Nat) (R : Mat), k ≤ l.length ∧ kv = .int .i64 k ∧ RelAt wx (w.heap.size + 1) 98 R ∧ RelAt wx w.heap.size 98 noR ∧ Hid (Rep R (insP P (i : Int) (l.take k))) ∧ Hid (okRow n (l.take k) = true) ∧ Below w.heap.size w wx ∧ Ints wx (.slice ro l.length rcap) l) (fun kv _ => l.length - (intOf kv).toNat)
   case atStart => exact ⟨0, R, by omega, rfl, h1, h0, HP, hid rfl, hb, HI.out _ hbr⟩
   case round =>
    clear h1 h0 hb HP c1 HI hbr
    obtain ⟨k, R, hk, rfl, h1, h0, HP, HA, hb, hI⟩ := hrel
    by_cases hlk : k < l.length
    ·have hkk : (k : Int) < (l.length : Int) := by omega
     obtain ⟨g2, o2, hao2, e1⟩ := hI.at hlk
     cases hao2
     have HS := hid (fun (h0 : 0 ≤ l[k]) (h1 : l[k] < (n : Int)) => show okRow n (l.take (k + 1)) = true by
      have := HA.out
      unfold okRow at *
      rw [List.take_succ_eq_append_getElem hlk, List.all_append, this]
      simp [h0, h1])
     have HN := hid (fun (hb : ¬ (0 ≤ l[k] ∧ l[k] < (n : Int))) => HNO.out (by
      unfold okRow
      rw [List.all_eq_false]
      refine ⟨_, List.getElem_mem hlk, ?_⟩
      simp only [Bool.and_eq_true, decide_eq_true_eq]
      exact hb))
     have HI2 := hid (insP_succ P (i : Int) l k hlk)
     generalize l[k] = a at *
     have hIg := hid hI
     by_cases ha0 : a < 0
     ·have HV : Hid (okL n LL = false) := hid (HN.out (by omega))
      clear HS HN HI2 HA HP hI hIg
      have hz0 := HZ0.out
      go_wp2_with (first | (with_reducible refine wpList_store_rel h0 noR rfl _ _ rfl rfl rfl ?_))
      have h3 := h0.setRow noR
      exact bodyPost_ret (results_rel2 rfl _ _ _ _ rfl h3) rfl ⟨⟨noR, by rw [HV.out]; rfl, fun h => by rw [HV.out] at h; cases h⟩, below_setRow hb (by omega) _⟩
     by_cases han : (n : Int) ≤ a
     ·have HV : Hid (okL n LL = false) := hid (HN.out (by omega))
      clear HS HN HI2 HA HP hI hIg
      have hz0 := HZ0.out
      go_wp2_with (first | (with_reducible refine wpList_store_rel h0 noR rfl _ _ rfl rfl rfl ?_))
      have h3 := h0.setRow noR
      exact bodyPost_ret (results_rel2 rfl _ _ _ _ rfl h3) rfl ⟨⟨noR, by rw [HV.out]; rfl, fun h => by rw [HV.out] at h; cases h⟩, below_setRow hb (by omega) _⟩
     have HA2 := hid (HS.out (by omega) (by omega))
     have HP2 : Hid (Rep (addM R a (i : Int)) (insP P (i : Int) (l.take (k + 1)))) := hid (by rw [HI2.out]; exact rep_put HP.out (by omega) (by omega))
     have CA := hid (add_any R _ a (i : Int) _ h1)
     have hni : ¬ (n : Int) ≤ a := han
     clear HS HN HI2 HA HP hI
     go_wp2_with fail
     refine (CA.out).mono ?_
     rintro e w7 ⟨rfl, h17, hg7⟩
     have h07 : RelAt w7 w.heap.size 98 noR := by
      have := hg7.block w.heap.size h0.lt (by simp)
      unfold RelAt at *
      rw [this]
      exact h0
     have hb7 : Below w.heap.size w w7 := hb.grown hg7 hb.size (by simp)
     have hI7 : Ints w7 (.slice (some ⟨g2, o2, none⟩) l.length rcap) l := hIg.out.relApart h1 hg7
     clear CA h1 h0 hb hg7 e1 hIg
     go_wp2_with fail
     go_roundw
     case rel => exact ⟨k + 1, _, by omega, by go_num, h17, h07, HP2, HA2, hb7, hI7⟩
     case measure => simp [intOf]; omega
    ·have hkl : k = l.length := by omega
     subst hkl
     have HA2 := hid (HYES.out (by have := HA.out; rwa [List.take_length] at this))
     have HP2 : Hid (Rep R (pairsL LL (i + 1))) := hid (by have := HP.out; rw [List.take_length] at this; rw [HPS.out]; exact this)
     clear HP HA HYES HNO HPS hI
     go_wp2_with fail
     go_roundw
     case rel => exact ⟨i + 1, R, by omega, by go_num, h1, h0, HP2, HA2, hb⟩
     case measure => simp [intOf]; omega
  ·have hin : i = n := by omega
   subst hin
   have HV : Hid (okL i LL = true) := hid (by have := HA.out; rw [← HNE.out, List.take_length] at this; rw [HR.out]; rw [← HNE.out]; exact this)
   have hli : ¬ (i : Int) < (LL.length : Int) := by omega
   clear HA HR
   go_wp2_with (first
    | (with_reducible refine wpList_load_rel h1 rfl _ rfl rfl ?_)
    | (with_reducible refine wpList_store_rel h0 R rfl _ _ rfl rfl rfl ?_))
   have h3 := h0.setRow R
   exact bodyPost_ret (results_rel2 rfl _ _ _ _ rfl h3) rfl ⟨⟨R, by rw [HV.out]; rfl, fun _ => HP.out⟩, below_setRow hb (by omega) _⟩
end

section
open Go.RowKit
def acceptsB (h : List TxnV) (lv : Int) (l : List Int) (LL : List (List Int)) : Bool := okL h.length LL && holdsR h lv l (pairsL LL h.length)
def WitS (p : Nat) (vo vs : Value) (w : World) : Prop := w.cell? ⟨p, 0, none⟩ = some vo ∧ w.cell? ⟨p, 1, none⟩ = some vs
theorem WitS.below {p : Nat} {vo vs : Value} {w w' : World} (h : WitS p vo vs w) (hb : Below w.heap.size w w') : WitS p vo vs w' := ⟨(hb.cell (p := ⟨p, 0, none⟩) (block_lt h.1)).trans h.1, (hb.cell (p := ⟨p, 1, none⟩) (block_lt h.2)).trans h.2⟩
theorem aaccepts_any (lv : Int) (vo vs : Value) (l : List Int) (LL : List (List Int)) (h : List TxnV) (B b : Nat) (w : World) (hO : OrdIs w B b h) (hc : checkI h = 0) (ht : Tab w) (hK : Kinds w) (hl : Ints w vo l) (hL : Lists w vs LL) :
  Calls Tryz.prog 20 #[.pointer (some ⟨B, 0, none⟩), .int .i64 lv, .agg #[vo, vs]] w fun e w' => e = .returned (.bool (acceptsB h lv l LL)) ∧ Below w.heap.size w w' := by
 have hg := ht.pos
 have hn := (check_zero hc).1
 have hbx := box_below w (.cells #[vo, vs] 39)
 have hW0 : WitS w.heap.size vo vs (w.alloc (.cells #[vo, vs] 39)) := by
  refine ⟨?_, ?_⟩ <;> (rw [cell_of_row _ _ _ _ _ _ (heap_alloc_new w _)]; rfl)
 have HW := hid (fun wx (hx : Below w.heap.size w wx) => And.intro (hO.below hx) (And.intro (ht.below hx hg) (And.intro (hK.below hx) (And.intro (hl.below hx) (hL.below hx)))))
 have HC := hid hc
 have HAC : Hid (acceptsB h lv l LL = (okL h.length LL && holdsR h lv l (pairsL LL h.length))) := hid rfl
 obtain ⟨ao, cap, rfl, hal⟩ := hl.form
 obtain ⟨so, scap, rfl, hsl⟩ := hL.form
 clear hO hc ht hK hl hL
 generalize acceptsB h lv l LL = z at *
 go_enter Tryz.func20, Tryz.ntmps20
 go_upto_region 1 with fail
 generalize w.alloc (.cells #[.slice ao l.length cap, .slice so LL.length scap] 39) = w0 at *
 have HB := hid (fun wx (hx : Below w0.heap.size w0 wx) => hbx.trans (hx.mono hbx.size))
 have HS : Hid (∀ wx, Below w0.heap.size w0 wx → OrdB wx B h ∧ WitS w.heap.size (.slice ao l.length cap) (.slice so LL.length scap) wx) := hid (fun wx hx => ⟨(HW.out wx (HB.out _ hx)).1.blk, hW0.below hx⟩)
 have CR := hid (fun wx (hx : Below w0.heap.size w0 wx) => arelation_any h.length hn _ LL wx (HW.out _ (HB.out _ hx)).2.2.2.2)
 have CH := hid (fun V wx (hx : Below w0.heap.size w0 wx) => aholds_any lv _ l V h B b wx (HW.out _ (HB.out _ hx)).1 HC.out (HW.out _ (HB.out _ hx)).2.1 (HW.out _ (HB.out _ hx)).2.2.1 (HW.out _ (HB.out _ hx)).2.2.2.1)
 have HSAME := hid (fun V m (hr : Rep V m) => holds_same HC.out hr lv l)
 have kd := (Below.refl w0.heap.size w0).drew
 generalize okL h.length LL = ok at *
 clear hW0 hbx hn HW
 go_cut [7, 8] from 7 to 18 (fun u7 u8 wx => ∃ (p7 : Nat) (R : Mat), u7 = .pointer (some ⟨p7, 0, none⟩) ∧ u8 = .bool ok ∧ RelAt wx p7 98 R ∧ (ok = true → Rep R (pairsL LL h.length)) ∧ Below w0.heap.size w0 wx)
 case first =>
  refine wp_region_held_drew (S := Below w0.heap.size w0) (by kernel_rfl) kd (fun hS0 => ?_)
  refine tG (some 10) 0 ?vq0 rfl rfl (Or.inl ⟨by rfl, ?hq0⟩) hS0 ?rq0
  case hq0 => (intro w hw; obtain ⟨hO, n0, n1⟩ := HS.out _ hw; have hn := hO.cN; go_simp; try (with_reducible rfl))
  try simp only [Act.put, zA, zB, zC]
  refine tG (some 11) 1 ?vq1 rfl rfl (Or.inl ⟨by rfl, ?hq1⟩) hS0 ?rq1
  case hq1 => (intro w hw; obtain ⟨hO, n0, n1⟩ := HS.out _ hw; have hn := hO.cN; go_simp; try (with_reducible rfl))
  try simp only [Act.put, zA, zB, zC]
  refine tG (some 12) 2 ?vq2 rfl rfl (Or.inl ⟨by rfl, ?hq2⟩) hS0 ?rq2
  case hq2 => (intro w hw; obtain ⟨hO, n0, n1⟩ := HS.out _ hw; have hn := hO.cN; go_simp; try (with_reducible rfl))
  try simp only [Act.put, zA, zB, zC]
  refine tG (some 13) 3 ?vq3 rfl rfl (Or.inl ⟨by rfl, ?hq3⟩) hS0 ?rq3
  case hq3 => (intro w hw; obtain ⟨hO, n0, n1⟩ := HS.out _ hw; have hn := hO.cN; go_simp; try (with_reducible rfl))
  try simp only [Act.put, zA, zB, zC]
  refine tG (some 14) 4 ?vq4 rfl rfl (Or.inl ⟨by rfl, ?hq4⟩) hS0 ?rq4
  case hq4 => (intro w hw; obtain ⟨hO, n0, n1⟩ := HS.out _ hw; have hn := hO.cN; go_simp; try (with_reducible rfl))
  try simp only [Act.put, zA, zB, zC]
  refine tG (some 15) 5 ?vq5 rfl rfl (Or.inl ⟨by rfl, ?hq5⟩) hS0 ?rq5
  case hq5 => (intro w hw; obtain ⟨hO, n0, n1⟩ := HS.out _ hw; have hn := hO.cN; go_simp; try (with_reducible rfl))
  try simp only [Act.put, zA, zB, zC]
  generalize w0.drew = wd at *
  refine wpAnyH_ready (rs := [6, 10]) (by kernel_rfl) (by simp) ?_
  refine AllReadyH.cons rfl (fun K hK => ?_) (AllReadyH.cons rfl (fun K hK => ?_) AllReadyH.nil)
  ·
   go_simp
   refine (CR.out _ hS0).mono ?_
   rintro e q1 ⟨⟨R, rfl, hR⟩, h1⟩
   show K _ _
   have k1 := below_then hS0 h1
   have hR := hid hR
   refine hK.out _ _ k1 (fun _ => ?_)
   clear hK K
   refine tA (some 9) 7 rfl rfl k1 ?_
   try simp only [Act.put, zA, zB, zC]
   refine tA (some 17) 8 rfl rfl k1 ?_
   try simp only [Act.put, zA, zB, zC]
   refine tA (some 18) 9 rfl rfl k1 ?_
   try simp only [Act.put, zA, zB, zC]
   refine rD 10 rfl (fun K hK => ?_)
   go_simp
   have hp2 := k1.size
   have k2 := k1.alloc k1.size (.cells Z64 98)
   have z2 := zero_block q1
   refine hK.out _ _ k2 (fun _ => ?_)
   clear hK K
   generalize q1.alloc (.cells Z64 98) = x2 at *
   refine rD 11 rfl (fun K hK => ?_)
   rw [if_pos (by rfl)]
   refine wp_store_rel z2 R _ _ rfl rfl rfl ?_
   have k3 := below_setRow k2 (g := q1.heap.size) (by omega) (rowsA R)
   have z3 := z2.setRow R
   refine hK.out _ _ k3 (fun _ => ?_)
   clear hK K
   generalize x2.setRow q1.heap.size (rowsA R) = x3 at *
   refine tA (some 8) 12 rfl rfl k3 ?_
   try simp only [Act.put, List.setIfInBounds_toArray]
   refine wpAnyH_done (by kernel_rfl) ?_ _
   go_wp2_with fail
   go_meet
   exact ⟨q1.heap.size, R, rfl, rfl, z3, hR.out, k3⟩
  ·
   go_simp
   have hp1 := hS0.size
   have k1 := hS0.alloc hS0.size (.cells Z64 98)
   have z1 := zero_block wd
   refine hK.out _ _ k1 (fun _ => ?_)
   clear hK K
   generalize wd.alloc (.cells Z64 98) = x1 at *
   refine rD 6 rfl (fun K hK => ?_)
   go_simp
   refine (CR.out _ k1).mono ?_
   rintro e q2 ⟨⟨R, rfl, hR⟩, h2⟩
   show K _ _
   have k2 := below_then k1 h2
   have hR := hid hR
   have z2 := z1.below h2 z1.lt
   refine hK.out _ _ k2 (fun _ => ?_)
   clear hK K
   refine tA (some 9) 7 rfl rfl k2 ?_
   try simp only [Act.put, zA, zB, zC]
   refine tA (some 17) 8 rfl rfl k2 ?_
   try simp only [Act.put, zA, zB, zC]
   refine tA (some 18) 9 rfl rfl k2 ?_
   try simp only [Act.put, zA, zB, zC]
   refine rD 11 rfl (fun K hK => ?_)
   rw [if_pos (by rfl)]
   refine wp_store_rel z2 R _ _ rfl rfl rfl ?_
   have k3 := below_setRow k2 (g := wd.heap.size) (by omega) (rowsA R)
   have z3 := z2.setRow R
   refine hK.out _ _ k3 (fun _ => ?_)
   clear hK K
   generalize q2.setRow wd.heap.size (rowsA R) = x3 at *
   refine tA (some 8) 12 rfl rfl k3 ?_
   try simp only [Act.put, List.setIfInBounds_toArray]
   refine wpAnyH_done (by kernel_rfl) ?_ _
   go_wp2_with fail
   go_meet
   exact ⟨wd.heap.size, R, rfl, rfl, z3, hR.out, k3⟩
 case rest =>
  obtain ⟨p7, R, rfl, rfl, hr, hR, hb⟩ := hcut
  cases ok with
  | false =>
   go_wp2_with fail
   go_ret
   exact ⟨ret_b (by rw [HAC.out]; rfl), HB.out _ hb⟩
  | true =>
   have CQ := hid (CH.out R _ hb)
   rw [HSAME.out R _ (hR rfl)] at CQ
   obtain ⟨_, n0, n1⟩ := HS.out _ hb
   clear hR HSAME CR CH
   generalize holdsR h lv l (pairsL LL h.length) = q at *
   go_wp2_with (with_reducible refine wpList_load_rel_g hr _ rfl (by kernel_rfl) rfl ?_)
   refine (CQ.out).mono ?_
   rintro e w5 ⟨rfl, h5⟩
   have hb5 := below_then hb h5
   clear n0 n1
   go_wp2_with fail
   go_ret
   exact ⟨ret_b (by rw [HAC.out]; rfl), HB.out _ hb5⟩
end

section
open Go.RowKit
theorem nilIn (w : World) : Sem.run Tryz.prog (binOp .eql 36 (.slice none 0 0) (.slice none 0 0)) w = .ok (.bool true) w := by kernel_rfl
theorem someIn (w : World) (a : Addr) (n c : Nat) : Sem.run Tryz.prog (binOp .eql 36 (.slice (some a) n c) (.slice none 0 0)) w = .ok (.bool false) w := by kernel_rfl
theorem clone_ints (va : Value) (l : List Int) (w : World) (ha : Ints w va l) (hl : l.length ≤ 100000) :
  Calls Tryz.prog 131 #[va] w fun e w' => ∃ v, e = .returned v ∧ w'.ownsRow w.heap.size 3 1 v l.length (l.map (Value.int .i64)) ∧ Below w.heap.size w w' := by
 obtain ⟨i0, hi, hz0, hz1, hz2⟩ := info_parts infoInt
 obtain ⟨ao, cap, rfl, hal⟩ := ha.form
 cases ao with
 | none =>
  have h0 : l = [] := by
   obtain ⟨_, ao', cap', e, _, hno, _⟩ := ha
   cases e
   exact List.eq_nil_of_length_eq_zero (hno rfl).1
  subst h0
  have hc0 : cap = 0 := by
   obtain ⟨_, ao', cap', e, _, hno, _⟩ := ha
   cases e
   exact (hno rfl).2
  subst hc0
  have e1 := nilIn
  have e2 := fun w a n c => someIn w a n c
  go_enter Tryz.func131, Tryz.ntmps131
  go_wp2_with fail
  go_ret
  exact ⟨_, rfl, World.ownsRow_nil _ _ _ _, Below.refl _ _⟩
 | some ad =>
  have e1 := nilIn
  have e2 := fun w a n c => someIn w a n c
  go_enter Tryz.func131, Tryz.ntmps131
  go_wp2_with (first | (at_builtin; refine wpList_append_row rfl _ _ 36 rfl w.heap.size 3 i0 (.int .i64 0) 1 8 Tryz.underlying36 hi hz0 hz1 hz2 rfl (by decide) _ 0 [] rfl (World.ownsRow_lit _ _ _ (Nat.le_refl _) (by decide) rfl) _ l.length _ rfl (ha.below ((Below.refl _ _).alloc (Nat.le_refl _) _)) ?d1 ?d2 ?d3 ?d4 ?_) | go_in)
  case d1 => intro u hu; obtain ⟨x, _, rfl⟩ := List.mem_map.1 hu; rfl
  case d2 => unfold maxLen; omega
  case d3 => omega
  case d4 => first | omega | simp
  intro v5 w5 hown5 hg5
  have hO5 : w5.ownsRow w.heap.size 3 1 v5 l.length (l.map (Value.int .i64)) := by simpa using hown5
  have hb5 := ((Below.refl w.heap.size w).alloc (Nat.le_refl _) (.cells #[] 3)).grown hg5 (by simp) (by intro k hk; simp [Value.ownBlock] at hk; omega)
  clear hown5 hg5
  go_wp2_with fail
  go_ret
  exact ⟨_, rfl, hO5, hb5⟩
theorem infoIntsL : (Tryz.prog.info? 36).map (fun i => (i.zero, i.size, i.bytes)) = some (some (.slice none 0 0), 1, 24) := by kernel_rfl
def seesL (V : Mat) (n : Nat) : List (List Int) := (List.range n).map fun (i : Nat) => (lst (seeTo V (i : Int) 64)).map Int.ofNat
theorem seesL_succ (V : Mat) (n : Nat) : seesL V (n + 1) = seesL V n ++ [(lst (seeTo V (n : Int) 64)).map Int.ofNat] := by
 unfold seesL; rw [List.range_succ, List.map_append]; rfl
structure OwnK (b : Nat) (w : World) (v : Value) (K : List KRow) : Prop where
 kr : w.ownsRow b 36 1 v K.length (K.map (·.1))
 ke : ∀ p ∈ K, w.ownsRow b 3 1 p.1 p.2.length (p.2.map (Value.int .i64))
theorem OwnK.nil (b : Nat) (w : World) : OwnK b w (.slice none 0 0) [] := ⟨World.ownsRow_nil _ _ _ _, fun p hp => (by cases hp)⟩
theorem OwnK.below {b : Nat} {w w' : World} {v : Value} {K : List KRow} (h : OwnK b w v K) (hb : Below w.heap.size w w') : OwnK b w' v K := ⟨owns_below h.kr hb, fun p hp => owns_below (h.ke p hp) hb⟩
theorem OwnK.add {b : Nat} {w w2 : World} {o : Obj} {v v' u : Value} {K : List KRow} {l : List Int} (h : OwnK b w v K) (hv : w.ownsRow b 3 1 u l.length (l.map (Value.int .i64))) (hown : w2.ownsRow b 36 1 v' (K.length + 1) (K.map (·.1) ++ [u]))
  (hg : (w.alloc o).grownBy w2 v.ownBlock) : OwnK b w2 v' (K ++ [(u, l)]) := by
 refine ⟨by simpa using hown, fun p hp => ?_⟩
 rcases List.mem_append.1 hp with hp | hp
 ·exact ((h.ke p hp).alloc o).kept hg (owns_apart (h.ke p hp) h.kr (by decide))
 ·obtain rfl := List.mem_singleton.1 hp
  exact (hv.alloc o).kept hg (owns_apart hv h.kr (by decide))
theorem OwnK.lists {b : Nat} {w : World} {v : Value} {K : List KRow} (h : OwnK b w v K) : Lists w v (K.map (·.2)) := by
 refine ⟨K.map (·.1), by have := Row.of_owns h.kr; rwa [List.length_map], fun k hk => ?_⟩
 rw [List.length_map] at hk
 refine ⟨K[k].1, by rw [List.getElem?_map, List.getElem?_eq_getElem hk]; rfl, ?_⟩
 rw [List.getElem_map]
 exact Ints.of_owns (h.ke _ (List.getElem_mem hk))
theorem own_far {w : World} {b e size n p : Nat} {v : Value} {xs : List Value} {cs : Array Value} {t : TypeId} {fr : Nat × Nat} (h : w.ownsRow b e size v n xs) (hp : w.heap[p]? = some (.cells cs t fr)) (hne : e ≠ t) : some p ≠ v.ownBlock := by
 obtain ⟨_, h⟩ := h
 rcases h with ⟨rfl, _⟩ | ⟨g, c, cur, rfl, _, hh, _⟩
 ·simp [Value.ownBlock]
 ·intro e2
  simp [Value.ownBlock] at e2
  subst e2
  rw [hp] at hh
  injection hh with hh
  injection hh with h1 h2 h3
  exact hne h2.symm
structure WI (b p5 : Nat) (V : Mat) (vo : Value) (l : List Int) (vs : Value) (K : List KRow) (w0 w : World) : Prop where
 rel : RelAt w b 98 V
 res : At w (b + 1) (.cells #[.slice none 0 0, .slice none 0 0] 39)
 box : At w p5 (.cells #[vo, vs] 39)
 own : OwnK b w vs K
 ord : w.ownsRow b 3 1 vo l.length (l.map (Value.int .i64))
 bel : Below b w0 w
theorem grown_setW (w : World) (a : Addr) (u : Value) : w.grownBy (w.setCell a u) (some a.block) :=
 ⟨rfl, rfl, rfl, by simp, fun k _ hk => Below.heap_setCell w a u k (fun e => hk (by rw [e]))⟩
theorem lit_newS (w : World) (x : Value) (t : TypeId) : ∀ j u, [x][j]? = some u → (w.alloc (.cells #[x] t)).cell? ((⟨w.heap.size, 0, none⟩ : Addr).add j) = some u := fun j u hu => by
 match j, hu with
 | 0, hu =>
  simp at hu; subst hu
  rw [Addr.add_lit, Nat.add_zero, cell_of_row _ _ _ _ _ _ (heap_alloc_new w _)]; rfl
 | j + 1, hu => simp at hu
theorem own_none {w : World} {b e size n p : Nat} {v : Value} {xs : List Value} {cs : Array Value} {t : TypeId} {fr : Nat × Nat} (h : w.ownsRow b e size v n xs) (hp : w.heap[p]? = some (.cells cs t fr)) (hne : e ≠ t) : v.ownBlock = none ∨ v.ownBlock ≠ some p := .inr (fun e2 => own_far h hp hne e2.symm)
theorem WI.below {b p5 : Nat} {V : Mat} {vo : Value} {l : List Int} {vs : Value} {K : List KRow} {w0 w w' : World} (h : WI b p5 V vo l vs K w0 w) (hb : Below w.heap.size w w') : WI b p5 V vo l vs K w0 w' :=
 ⟨h.rel.below hb h.rel.lt, h.res.below hb, h.box.below hb, h.own.below hb, owns_below h.ord hb, h.bel.trans (hb.mono (Nat.le_of_lt h.rel.lt))⟩
theorem WI.add {b p5 : Nat} {V : Mat} {vo : Value} {l : List Int} {vs v' u : Value} {K : List KRow} {s : List Int} {w0 W w5 : World} {o : Obj} (hp : b + 2 ≤ p5) (h : WI b p5 V vo l vs K w0 W) (hv : W.ownsRow b 3 1 u s.length (s.map (Value.int .i64)))
  (hown : w5.ownsRow b 36 1 v' (K.length + 1) (K.map (·.1) ++ [u])) (hg : (W.alloc o).grownBy w5 vs.ownBlock) :
  RelAt w5 b 98 V ∧ w5.cell? ⟨p5, 1, none⟩ = some vs ∧ w5.frozen? ⟨p5, 1, none⟩ = false ∧ RelAt (w5.setCell ⟨p5, 1, none⟩ v') b 98 V ∧ WI b p5 V vo l v' (K ++ [(u, s)]) w0 (w5.setCell ⟨p5, 1, none⟩ v') := by
 have kr := h.own.kr.alloc o
 have r1 : At w5 b (.cells (rowsA V) 98) := At.grown (h.rel.alloc o) hg (own_far kr (h.rel.alloc o) (by decide))
 have r2 := At.grown (h.res.alloc o) hg (own_far kr (h.res.alloc o) (by decide))
 have r3 := At.grown (h.box.alloc o) hg (own_far kr (h.box.alloc o) (by decide))
 have r4 := h.own.add hv hown hg
 have r5 := (h.ord.alloc o).kept hg (owns_apart h.ord h.own.kr (by decide))
 have d5 := (h.bel.alloc (Nat.le_of_lt h.rel.lt) o).grown hg (by have := h.rel.lt; simp; omega) (fun k hk => (kr.lt k hk).1)
 have gs := grown_setW w5 ⟨p5, 1, none⟩ v'
 have hc : w5.cell? ⟨p5, 1, none⟩ = some vs := by unfold At at r3; simp [World.cell?, r3]
 have q1 := At.grown r1 gs (by simp; omega)
 refine ⟨r1, hc, frozen_of_row w5 p5 1 _ _ r3, q1, q1, At.grown r2 gs (by simp; omega), ?_, ⟨r4.kr.kept gs (own_none r4.kr r3 (by decide)), fun p hp => (r4.ke p hp).kept gs (own_none (r4.ke p hp) r3 (by decide))⟩, r5.kept gs (own_none r5 r3 (by decide)), d5.setCell (p := ⟨p5, 1, none⟩) (by show b ≤ p5; omega) v'⟩
 unfold At at r3 ⊢
 simp [World.setCell, Array.getElem?_modify, r3]
theorem At.second {w : World} {p : Nat} {x y : Value} {t : TypeId} (h : At w p (.cells #[x, y] t)) (z : Value) : At (w.setCell ⟨p, 1, none⟩ z) p (.cells #[x, z] t) := by
 unfold At at h ⊢
 simp [World.setCell, Array.getElem?_modify, h]
theorem WI.done {b p5 : Nat} {V : Mat} {vo : Value} {l : List Int} {vs : Value} {K : List KRow} {w0 w : World} (h : WI b p5 V vo l vs K w0 w) :
  At ((w.setCell ⟨b + 1, 0, none⟩ vo).setCell ⟨b + 1, 1, none⟩ vs) (b + 1) (.cells #[vo, vs] 39) ∧ ((w.setCell ⟨b + 1, 0, none⟩ vo).setCell ⟨b + 1, 1, none⟩ vs).ownsRow b 3 1 vo l.length (l.map (Value.int .i64)) ∧ OwnK b ((w.setCell ⟨b + 1, 0, none⟩ vo).setCell ⟨b + 1, 1, none⟩ vs) vs K ∧ Below b w0 ((w.setCell ⟨b + 1, 0, none⟩ vo).setCell ⟨b + 1, 1, none⟩ vs) := by
 have g1 := grown_setW w ⟨b + 1, 0, none⟩ vo
 have a1 : At (w.setCell ⟨b + 1, 0, none⟩ vo) (b + 1) (.cells #[vo, .slice none 0 0] 39) := by
  have := h.res
  unfold At at this ⊢
  simp [World.setCell, Array.getElem?_modify, this]
 have g2 := grown_setW (w.setCell ⟨b + 1, 0, none⟩ vo) ⟨b + 1, 1, none⟩ vs
 have o1 := h.ord.kept g1 (own_none h.ord h.res (by decide))
 have o2 := o1.kept g2 (own_none o1 a1 (by decide))
 have k1 := h.own.kr.kept g1 (own_none h.own.kr h.res (by decide))
 have k2 := k1.kept g2 (own_none k1 a1 (by decide))
 have hk : OwnK b ((w.setCell ⟨b + 1, 0, none⟩ vo).setCell ⟨b + 1, 1, none⟩ vs) vs K := ⟨k2, fun p hp => by
  have q1 := (h.own.ke p hp).kept g1 (own_none (h.own.ke p hp) h.res (by decide))
  exact q1.kept g2 (own_none q1 a1 (by decide))⟩
 refine ⟨?_, o2, hk, (h.bel.setCell (p := ⟨b + 1, 0, none⟩) (by show b ≤ b + 1; omega) vo).setCell (p := ⟨b + 1, 1, none⟩) (by show b ≤ b + 1; omega) vs⟩
 exact a1.second vs
theorem awitness_own (va : Value) (l : List Int) (V : Mat) (w : World) (ht : Tab w) (hI : Ints w va l) (hl : l.length ≤ 64) :
  Calls Tryz.prog 82 #[va, .agg (rowsA V)] w fun e w' => (∃ vo vs K, e = .returned (.agg #[vo, vs]) ∧ w'.ownsRow w.heap.size 3 1 vo l.length (l.map (Value.int .i64)) ∧ OwnK w.heap.size w' vs K ∧ K.map (fun p : KRow => p.2) = seesL V l.length) ∧ Below w.heap.size w w' := by
 have hg := ht.pos
 obtain ⟨i0, hi, hz0, hz1, hz2⟩ := info_parts infoIntsL
 have HT : Hid (∀ wx, Below w.heap.size w wx → Tab wx) := hid (fun wx hb => ht.below hb hg)
 have HI := hid (fun wx (hx : Below w.heap.size w wx) => hI.below hx)
 obtain ⟨ao, cap, rfl, hal⟩ := hI.form
 have r0 : RelAt (w.alloc (.cells (rowsA V) 98)) w.heap.size 98 V := RelAt.made w _ _ rfl rfl
 have hb0 := box_below w (.cells (rowsA V) 98)
 clear ht hI
 go_enter Tryz.func82, Tryz.ntmps82
 go_upto_region 1 with fail
 generalize hw0 : w.alloc (.cells (rowsA V) 98) = w0 at *
 have hs0 : w0.heap.size = w.heap.size + 1 := by rw [← hw0]; simp
 clear hw0
 have a4 := At.new w0 (.cells #[.slice none 0 0, .slice none 0 0] 39)
 rw [hs0] at a4
 have r0 := r0.alloc (.cells #[.slice none 0 0, .slice none 0 0] 39)
 have hb1 := hb0.alloc (by omega) (.cells #[.slice none 0 0, .slice none 0 0] 39)
 have hs1 : (w0.alloc (.cells #[.slice none 0 0, .slice none 0 0] 39)).heap.size = w.heap.size + 2 := by simp [hs0]
 generalize w0.alloc (.cells #[.slice none 0 0, .slice none 0 0] 39) = w1 at *
 have CC := hid (clone_ints _ l w1 (HI.out _ hb1) (by omega))
 clear hb0 hs0
 go_wp2_with fail
 refine (CC.out).mono ?_
 rintro e w2 ⟨vo, rfl, hO2, h2⟩
 have r2 := r0.below h2 r0.lt
 have a4 := a4.below h2
 have hb2 := below_then hb1 h2
 have hp5 : w.heap.size + 2 ≤ w2.heap.size := by have := h2.size; omega
 obtain ⟨oo, oc, rfl⟩ := owns_form hO2
 go_upto_region 2 with fail
 have hWI : WI w.heap.size w2.heap.size V (.slice oo l.length oc) l (.slice none 0 0) [] w (w2.alloc (.cells #[.slice oo l.length oc, .slice none 0 0] 39)) :=
  ⟨r2.alloc _, a4.alloc _, At.new w2 _, OwnK.nil _ _, own_base' (hO2.alloc _) (by omega), hb2.alloc hb2.size _⟩
 generalize w2.alloc (.cells #[.slice oo l.length oc, .slice none 0 0] 39) = w3 at *
 generalize w2.heap.size = p5 at *
 clear r0 r2 a4 hb1 hb2 hO2 h2 hs1 CC
 go_wp2_with fail
 go_loopw [12] (fun iv wr => ∃ (k : Nat) (vs : Value) (K : List KRow), k ≤ l.length ∧ iv = .int .i64 k ∧ K.map (fun p : KRow => p.2) = seesL V k ∧ WI w.heap.size p5 V (.slice oo l.length oc) l vs K w wr) (fun iv _ => l.length - (intOf iv).toNat)
 case atStart => exact ⟨0, .slice none 0 0, [], by omega, rfl, rfl, hWI⟩
 case round =>
  clear hWI
  obtain ⟨k, vs, K, hk, rfl, hK, hW⟩ := hrel
  by_cases hlt : k < l.length
  ·have hki : (k : Int) < (l.length : Int) := by omega
   have hKl : K.length = k := by have := congrArg List.length hK; simpa [seesL] using this
   obtain ⟨vsa, vsc, rfl⟩ := owns_form hW.own.kr
   have HNX : Hid (∀ u, (K ++ [(u, (lst (seeTo V (k : Int) 64)).map Int.ofNat)]).map (fun p : KRow => p.2) = seesL V (k + 1)) := hid (fun u => by rw [List.map_append, hK, seesL_succ]; rfl)
   have CS := hid (fun wx => asees_any V (k : Int) wx)
   have CL : Hid (∀ wx, Below wr.heap.size wr wx → Calls Tryz.prog 133 #[.int .u64 ((seeTo V (k : Int) 64 : Nat) : Int)] wx fun e w' => ∃ v, e = .returned v ∧ w'.ownsRow w.heap.size 3 1 v ((lst (seeTo V (k : Int) 64)).map Int.ofNat).length (((lst (seeTo V (k : Int) 64)).map Int.ofNat).map (Value.int .i64)) ∧ Below wx.heap.size wx w') := hid (fun wx hx => (list_any (seeTo V (k : Int) 64) wx (seeTo_set V _ 64) (HT.out _ (hW.bel.trans (hx.mono (Nat.le_of_lt hW.rel.lt))))).mono (by
    rintro e w' ⟨v, he, ho, hb⟩
    refine ⟨v, he, own_base' ?_ (show w.heap.size ≤ wx.heap.size by have h1 := hx.size; have h2 := hW.rel.lt; omega), hb⟩
    rw [List.length_map, List.map_map]
    exact ho))
   have HW := hid (fun wx (hx : Below wr.heap.size wr wx) => hW.below hx)
   have HSR : Hid (∀ wx, Below wr.heap.size wr wx → RelAt wx w.heap.size 98 V) := hid (fun wx hx => (hW.below hx).rel)
   have HCL : Hid (∀ wx, Below wr.heap.size wr wx → wx.cell? ⟨p5, 1, none⟩ = some (.slice vsa K.length vsc)) := hid (fun wx hx => by have r3 := (hW.below hx).box; unfold At at r3; simp [World.cell?, r3])
   have HSZ : Hid (∀ wx (o : Obj), Below wr.heap.size wr wx → w.heap.size ≤ (wx.alloc o).heap.size) := hid (fun wx o hx => by have h1 := hx.size; have h2 := hW.rel.lt; simp; omega)
   have n3 : Hid (K.length + 1 ≤ maxLen) := hid (by unfold maxLen; omega)
   have n4 : Hid ((K.length + 1) * 24 ≤ 140737488355328) := hid (by omega)
   generalize hLs : (lst (seeTo V (k : Int) 64)).map Int.ofNat = ls at *
   clear hLs
   have kd := (Below.refl wr.heap.size wr).drew
   clear hW hK hKl
   go_upto_region 5 with fail
   refine wp_region_held_drew (S := fun wx => RelAt wx w.heap.size 98 V) (by kernel_rfl) (HSR.out _ kd) (fun hS0 => ?_)
   refine tA (some 15) 0 rfl rfl hS0 ?_
   try simp only [Act.put, zA, zB, zC]
   refine tA (some 18) 3 rfl rfl hS0 ?_
   try simp only [Act.put, zA, zB, zC]
   refine tG (some 17) 2 _ rfl rfl (yields_rel (by rfl) _ rfl rfl (fun w hw => hw)) hS0 ?_
   try simp only [Act.put, zA, zB, zC]
   generalize wr.drew = wd at *
   refine wpAnyH_ready (rs := [1, 4]) (by kernel_rfl) (by simp) ?_
   refine AllReadyH.cons rfl (fun K' hK' => ?_) (AllReadyH.cons rfl (fun K' hK' => ?_) AllReadyH.nil)
   ·
    have hc1 := HCL.out _ kd
    go_simp
    refine hK'.out _ _ hS0 (fun _ => ?_)
    clear hK' K' hc1
    refine wpAnyH_ready (rs := [4]) (by kernel_rfl) (by simp) ?_
    refine AllReadyH.cons rfl (fun K' hK' => ?_) AllReadyH.nil
    go_simp
    refine (CS.out _).mono ?_
    rintro e q2 ⟨rfl, j2⟩
    show K' _ _
    have k2 := below_then kd j2
    have s2 := HSR.out _ k2
    refine hK'.out _ _ s2 (fun _ => ?_)
    clear hK' K'
    refine wpAnyH_ready (rs := [5]) (by kernel_rfl) (by simp) ?_
    refine AllReadyH.cons rfl (fun K' hK' => ?_) AllReadyH.nil
    go_simp
    refine (CL.out _ k2).mono ?_
    rintro e q3 ⟨vx, rfl, hox, j3⟩
    obtain ⟨ax, cx, hvx⟩ := owns_form hox
    subst hvx
    show K' _ _
    have k3 := below_then k2 j3
    have s3 := HSR.out _ k3
    refine hK'.out _ _ s3 (fun _ => ?_)
    clear hK' K'
    refine wpAnyH_ready (rs := [6]) (by kernel_rfl) (by simp) ?_
    refine AllReadyH.cons rfl (fun K' hK' => ?_) AllReadyH.nil
    go_simp
    have s4 := s3.alloc (.cells #[.slice ax ls.length cx] 36)
    have HCA4 := HCL.out _ (k3.alloc k3.size (.cells #[.slice ax ls.length cx] 36))
    refine hK'.out _ _ s4 (fun _ => ?_)
    clear hK' K'
    refine wpAnyH_ready (rs := [7]) (by kernel_rfl) (by simp) ?_
    refine AllReadyH.cons rfl (fun K' hK' => ?_) AllReadyH.nil
    refine step_app _ rfl (.tmp 16) (.tmp 21) 37 rfl w.heap.size 36 i0 (.slice none 0 0) 1 24 Tryz.underlying37 hi hz0 hz1 hz2 rfl (by decide) (.slice vsa K.length vsc) K.length (K.map (·.1)) (by simp [Act.eval]) ((HW.out _ k3).own.kr.alloc _) ⟨q3.heap.size, 0, none⟩ 1 1 [.slice ax ls.length cx] (by simp [Act.eval]) rfl ?c1x5 ?c2x5 ?c3x5 ?c4x5 ?c5x5 ?c6x5
    case c1x5 => exact lit_newS _ _ _
    case c2x5 => intro u hu; simp at hu; subst hu; rfl
    case c3x5 => exact n3.out
    case c4x5 => exact n4.out
    case c5x5 => exact HSZ.out _ _ k3
    case c6x5 =>
     intro v5 w5 hown5 hg5
     obtain ⟨a5, c5, hv5⟩ := owns_form hown5
     subst hv5
     obtain ⟨hS5, hcz, hfz, hS6, hF5⟩ := WI.add hp5 (HW.out _ k3) hox hown5 hg5
     show K' _ _
     refine hK'.out _ _ hS5 (fun _ => ?_)
     clear hK' K'
     refine tA (some 23) 8 rfl rfl hS5 ?_
     try simp only [Act.put, List.setIfInBounds_toArray]
     refine wpAnyH_ready (rs := [9]) (by kernel_rfl) (by simp) ?_
     refine AllReadyH.cons rfl (fun K' hK' => ?_) AllReadyH.nil
     go_simp
     refine hK'.out _ _ hS6 (fun _ => ?_)
     clear hK' K'
     refine wpAnyH_done (by kernel_rfl) ?_ _
     go_wp2_with fail
     go_roundw
     case rel => exact ⟨k + 1, _, _, by omega, by go_num, HNX.out _, hF5⟩
     case measure => simp [intOf]; omega
   ·
    go_simp
    refine (CS.out _).mono ?_
    rintro e q7 ⟨rfl, j7⟩
    show K' _ _
    have k7 := below_then kd j7
    have s7 := HSR.out _ k7
    refine hK'.out _ _ s7 (fun _ => ?_)
    clear hK' K'
    refine wpAnyH_ready (rs := [1, 5]) (by kernel_rfl) (by simp) ?_
    refine AllReadyH.cons rfl (fun K' hK' => ?_) (AllReadyH.cons rfl (fun K' hK' => ?_) AllReadyH.nil)
    ·
     have hc8 := HCL.out _ k7
     go_simp
     refine hK'.out _ _ s7 (fun _ => ?_)
     clear hK' K' hc8
     refine wpAnyH_ready (rs := [5]) (by kernel_rfl) (by simp) ?_
     refine AllReadyH.cons rfl (fun K' hK' => ?_) AllReadyH.nil
     go_simp
     refine (CL.out _ k7).mono ?_
     rintro e q9 ⟨vx, rfl, hox, j9⟩
     obtain ⟨ax, cx, hvx⟩ := owns_form hox
     subst hvx
     show K' _ _
     have k9 := below_then k7 j9
     have s9 := HSR.out _ k9
     refine hK'.out _ _ s9 (fun _ => ?_)
     clear hK' K'
     refine wpAnyH_ready (rs := [6]) (by kernel_rfl) (by simp) ?_
     refine AllReadyH.cons rfl (fun K' hK' => ?_) AllReadyH.nil
     go_simp
     have s10 := s9.alloc (.cells #[.slice ax ls.length cx] 36)
     have HCA10 := HCL.out _ (k9.alloc k9.size (.cells #[.slice ax ls.length cx] 36))
     refine hK'.out _ _ s10 (fun _ => ?_)
     clear hK' K'
     refine wpAnyH_ready (rs := [7]) (by kernel_rfl) (by simp) ?_
     refine AllReadyH.cons rfl (fun K' hK' => ?_) AllReadyH.nil
     refine step_app _ rfl (.tmp 16) (.tmp 21) 37 rfl w.heap.size 36 i0 (.slice none 0 0) 1 24 Tryz.underlying37 hi hz0 hz1 hz2 rfl (by decide) (.slice vsa K.length vsc) K.length (K.map (·.1)) (by simp [Act.eval]) ((HW.out _ k9).own.kr.alloc _) ⟨q9.heap.size, 0, none⟩ 1 1 [.slice ax ls.length cx] (by simp [Act.eval]) rfl ?c1x11 ?c2x11 ?c3x11 ?c4x11 ?c5x11 ?c6x11
     case c1x11 => exact lit_newS _ _ _
     case c2x11 => intro u hu; simp at hu; subst hu; rfl
     case c3x11 => exact n3.out
     case c4x11 => exact n4.out
     case c5x11 => exact HSZ.out _ _ k9
     case c6x11 =>
      intro v5 w5 hown5 hg5
      obtain ⟨a5, c5, hv5⟩ := owns_form hown5
      subst hv5
      obtain ⟨hS5, hcz, hfz, hS6, hF5⟩ := WI.add hp5 (HW.out _ k9) hox hown5 hg5
      show K' _ _
      refine hK'.out _ _ hS5 (fun _ => ?_)
      clear hK' K'
      refine tA (some 23) 8 rfl rfl hS5 ?_
      try simp only [Act.put, List.setIfInBounds_toArray]
      refine wpAnyH_ready (rs := [9]) (by kernel_rfl) (by simp) ?_
      refine AllReadyH.cons rfl (fun K' hK' => ?_) AllReadyH.nil
      go_simp
      refine hK'.out _ _ hS6 (fun _ => ?_)
      clear hK' K'
      refine wpAnyH_done (by kernel_rfl) ?_ _
      go_wp2_with fail
      go_roundw
      case rel => exact ⟨k + 1, _, _, by omega, by go_num, HNX.out _, hF5⟩
      case measure => simp [intOf]; omega
    ·
     go_simp
     refine (CL.out _ k7).mono ?_
     rintro e q13 ⟨vx, rfl, hox, j13⟩
     obtain ⟨ax, cx, hvx⟩ := owns_form hox
     subst hvx
     show K' _ _
     have k13 := below_then k7 j13
     have s13 := HSR.out _ k13
     refine hK'.out _ _ s13 (fun _ => ?_)
     clear hK' K'
     refine wpAnyH_ready (rs := [1, 6]) (by kernel_rfl) (by simp) ?_
     refine AllReadyH.cons rfl (fun K' hK' => ?_) (AllReadyH.cons rfl (fun K' hK' => ?_) AllReadyH.nil)
     ·
      have hc14 := HCL.out _ k13
      go_simp
      refine hK'.out _ _ s13 (fun _ => ?_)
      clear hK' K' hc14
      refine wpAnyH_ready (rs := [6]) (by kernel_rfl) (by simp) ?_
      refine AllReadyH.cons rfl (fun K' hK' => ?_) AllReadyH.nil
      go_simp
      have s15 := s13.alloc (.cells #[.slice ax ls.length cx] 36)
      have HCA15 := HCL.out _ (k13.alloc k13.size (.cells #[.slice ax ls.length cx] 36))
      refine hK'.out _ _ s15 (fun _ => ?_)
      clear hK' K'
      refine wpAnyH_ready (rs := [7]) (by kernel_rfl) (by simp) ?_
      refine AllReadyH.cons rfl (fun K' hK' => ?_) AllReadyH.nil
      refine step_app _ rfl (.tmp 16) (.tmp 21) 37 rfl w.heap.size 36 i0 (.slice none 0 0) 1 24 Tryz.underlying37 hi hz0 hz1 hz2 rfl (by decide) (.slice vsa K.length vsc) K.length (K.map (·.1)) (by simp [Act.eval]) ((HW.out _ k13).own.kr.alloc _) ⟨q13.heap.size, 0, none⟩ 1 1 [.slice ax ls.length cx] (by simp [Act.eval]) rfl ?c1x16 ?c2x16 ?c3x16 ?c4x16 ?c5x16 ?c6x16
      case c1x16 => exact lit_newS _ _ _
      case c2x16 => intro u hu; simp at hu; subst hu; rfl
      case c3x16 => exact n3.out
      case c4x16 => exact n4.out
      case c5x16 => exact HSZ.out _ _ k13
      case c6x16 =>
       intro v5 w5 hown5 hg5
       obtain ⟨a5, c5, hv5⟩ := owns_form hown5
       subst hv5
       obtain ⟨hS5, hcz, hfz, hS6, hF5⟩ := WI.add hp5 (HW.out _ k13) hox hown5 hg5
       show K' _ _
       refine hK'.out _ _ hS5 (fun _ => ?_)
       clear hK' K'
       refine tA (some 23) 8 rfl rfl hS5 ?_
       try simp only [Act.put, List.setIfInBounds_toArray]
       refine wpAnyH_ready (rs := [9]) (by kernel_rfl) (by simp) ?_
       refine AllReadyH.cons rfl (fun K' hK' => ?_) AllReadyH.nil
       go_simp
       refine hK'.out _ _ hS6 (fun _ => ?_)
       clear hK' K'
       refine wpAnyH_done (by kernel_rfl) ?_ _
       go_wp2_with fail
       go_roundw
       case rel => exact ⟨k + 1, _, _, by omega, by go_num, HNX.out _, hF5⟩
       case measure => simp [intOf]; omega
     ·
      go_simp
      have s18 := s13.alloc (.cells #[.slice ax ls.length cx] 36)
      have HCA18 := HCL.out _ (k13.alloc k13.size (.cells #[.slice ax ls.length cx] 36))
      refine hK'.out _ _ s18 (fun _ => ?_)
      clear hK' K'
      refine wpAnyH_ready (rs := [1]) (by kernel_rfl) (by simp) ?_
      refine AllReadyH.cons rfl (fun K' hK' => ?_) AllReadyH.nil
      have hc19 := HCA18
      go_simp
      refine hK'.out _ _ s18 (fun _ => ?_)
      clear hK' K' hc19
      refine wpAnyH_ready (rs := [7]) (by kernel_rfl) (by simp) ?_
      refine AllReadyH.cons rfl (fun K' hK' => ?_) AllReadyH.nil
      refine step_app _ rfl (.tmp 16) (.tmp 21) 37 rfl w.heap.size 36 i0 (.slice none 0 0) 1 24 Tryz.underlying37 hi hz0 hz1 hz2 rfl (by decide) (.slice vsa K.length vsc) K.length (K.map (·.1)) (by simp [Act.eval]) ((HW.out _ k13).own.kr.alloc _) ⟨q13.heap.size, 0, none⟩ 1 1 [.slice ax ls.length cx] (by simp [Act.eval]) rfl ?c1x20 ?c2x20 ?c3x20 ?c4x20 ?c5x20 ?c6x20
      case c1x20 => exact lit_newS _ _ _
      case c2x20 => intro u hu; simp at hu; subst hu; rfl
      case c3x20 => exact n3.out
      case c4x20 => exact n4.out
      case c5x20 => exact HSZ.out _ _ k13
      case c6x20 =>
       intro v5 w5 hown5 hg5
       obtain ⟨a5, c5, hv5⟩ := owns_form hown5
       subst hv5
       obtain ⟨hS5, hcz, hfz, hS6, hF5⟩ := WI.add hp5 (HW.out _ k13) hox hown5 hg5
       show K' _ _
       refine hK'.out _ _ hS5 (fun _ => ?_)
       clear hK' K'
       refine tA (some 23) 8 rfl rfl hS5 ?_
       try simp only [Act.put, List.setIfInBounds_toArray]
       refine wpAnyH_ready (rs := [9]) (by kernel_rfl) (by simp) ?_
       refine AllReadyH.cons rfl (fun K' hK' => ?_) AllReadyH.nil
       go_simp
       refine hK'.out _ _ hS6 (fun _ => ?_)
       clear hK' K'
       refine wpAnyH_done (by kernel_rfl) ?_ _
       go_wp2_with fail
       go_roundw
       case rel => exact ⟨k + 1, _, _, by omega, by go_num, HNX.out _, hF5⟩
       case measure => simp [intOf]; omega
  ·have hkn : k = l.length := by omega
   have hnk : ¬ (k : Int) < (l.length : Int) := by omega
   rw [hkn] at hK
   have HL := hid hK
   clear hK
   have b1 := hW.box
   have b2 := hW.res
   obtain ⟨vsa, vsc, rfl⟩ := owns_form hW.own.kr
   have c0 : wr.cell? ⟨p5, 0, none⟩ = some (.slice oo l.length oc) := by unfold At at b1; simp [World.cell?, b1]
   have c1 : wr.cell? ⟨p5, 1, none⟩ = some (.slice vsa K.length vsc) := by unfold At at b1; simp [World.cell?, b1]
   have c2 : wr.cell? ⟨w.heap.size + 1, 0, none⟩ = some (.slice none 0 0) := by unfold At at b2; simp [World.cell?, b2]
   have c3 : wr.cell? ⟨w.heap.size + 1, 1, none⟩ = some (.slice none 0 0) := by unfold At at b2; simp [World.cell?, b2]
   have f2 := frozen_of_row wr (w.heap.size + 1) 0 _ _ b2
   have f3 := frozen_of_row wr (w.heap.size + 1) 1 _ _ b2
   have HW := hid hW
   clear hW b1 b2
   go_wp2_with fail
   obtain ⟨e1, e2, e3, e4⟩ := WI.done HW.out
   generalize (wr.setCell ⟨w.heap.size + 1, 0, none⟩ (.slice oo l.length oc)).setCell ⟨w.heap.size + 1, 1, none⟩ (.slice vsa K.length vsc) = w7 at *
   have d0 : w7.cell? ⟨w.heap.size + 1, 0, none⟩ = some (.slice oo l.length oc) := by unfold At at e1; simp [World.cell?, e1]
   have d1 : w7.cell? ⟨w.heap.size + 1, 1, none⟩ = some (.slice vsa K.length vsc) := by unfold At at e1; simp [World.cell?, e1]
   clear c0 c1 c2 c3 f2 f3
   refine bodyPost_ret (v := .agg #[.slice oo l.length oc, .slice vsa K.length vsc]) ?_ rfl ⟨⟨_, _, rfl, e2, K, e3, HL.out⟩, e4⟩
   simp [results, Tryz.results82, go_sem, d0, d1]
end

section
open Go.RowKit
structure KeepsHi (D : Nat) (W W' : World) : Prop where
 size : W.heap.size ≤ W'.heap.size
 same : ∀ k, D ≤ k → k < W.heap.size → W'.heap[k]? = W.heap[k]?
theorem KeepsHi.refl (D : Nat) (W : World) : KeepsHi D W W := ⟨Nat.le_refl _, fun _ _ _ => rfl⟩
theorem KeepsHi.trans {D : Nat} {A B C : World} (h : KeepsHi D A B) (k : KeepsHi D B C) : KeepsHi D A C :=
 ⟨Nat.le_trans h.size k.size, fun i h1 h2 => (k.same i h1 (Nat.lt_of_lt_of_le h2 h.size)).trans (h.same i h1 h2)⟩
theorem KeepsHi.mono {D E : Nat} {A B : World} (h : KeepsHi D A B) (hE : D ≤ E) : KeepsHi E A B := ⟨h.size, fun i h1 h2 => h.same i (Nat.le_trans hE h1) h2⟩
theorem KeepsHi.of_below {D : Nat} {A B : World} (h : Below A.heap.size A B) : KeepsHi D A B := ⟨h.size, fun i _ h2 => h.block i h2⟩
theorem KeepsHi.putObj {D l : Nat} (W : World) (o : Obj) (hl : l < D) : KeepsHi D W (W.putObj l o) :=
 ⟨Nat.le_of_eq World.putObj_size.symm, fun k h1 _ => World.putObj_heap_other (by omega)⟩
theorem KeepsHi.setCell {D : Nat} (W : World) (a : Addr) (u : Value) (hl : a.block < D) : KeepsHi D W (W.setCell a u) :=
 ⟨by simp [World.setCell], fun k h1 _ => Below.heap_setCell W a u k (by omega)⟩
def RowHi (D : Nat) (W : World) (v : Value) (r : List Nat) : Prop := Ints W v (r.map Int.ofNat) ∧ ∀ g, v.ownBlock = some g → D ≤ g
theorem RowHi.kept {D : Nat} {W W' : World} {v : Value} {r : List Nat} (h : RowHi D W v r) (hk : KeepsHi D W W') : RowHi D W' v r := by
 obtain ⟨⟨q1, ao, cap, e, q2, q3, q4⟩, q5⟩ := h
 refine ⟨⟨q1, ao, cap, e, q2, q3, fun hn => ?_⟩, q5⟩
 obtain ⟨g, off, e2, hc⟩ := q4 hn
 refine ⟨g, off, e2, fun i hi => ?_⟩
 rw [← hc i hi]
 have h1 := hc i hi
 have hlt : g < W.heap.size := by
  have h0 := hc 0 (by omega)
  cases hx : ((List.map Int.ofNat r).map (Value.int .i64))[0]? with
  | none => rw [List.getElem?_eq_none_iff] at hx; simp only [List.length_map] at hx hn; omega
  | some x => rw [hx] at h0; exact block_lt h0
 have := hk.same g (q5 g (by rw [e, e2]; rfl)) hlt
 simp only [World.cell?]
 rw [this]
theorem roomy {F : Fence} (hd : F.depth = none) (k : Nat) : F.room k := fun d h => by rw [hd] at h; cases h
theorem round_depth {F : Fence} (hd : F.depth = none) {m m' : Nat} {P : Program} {l : Nat} {f : FuncId} {tmps : Array Value} {assign body : Code} {w : World} {R : Ending → World → Prop}
  (h : RoundIn F m P l f tmps assign body w R) : RoundIn F m' P l f tmps assign body w R := ⟨h.1, fun c cs _ => h.2 c cs (roomy hd _)⟩
theorem yield_depth {F : Fence} (hd : F.depth = none) {m : Nat} (m' : Nat) {P : Program} {l : Nat} {args : Array Value} {W : World} {R : Ending → World → Prop} (h : YieldAt F m P l args W R) : YieldAt F m' P l args W R := by
 obtain ⟨fn, tmps, assign, body, hy, hR⟩ := h
 exact ⟨fn, tmps, assign, body, hy, round_depth hd hR⟩
theorem Row.cells {W W' : World} {v : Value} {n size : Nat} {cs : List Value} (h : Row W v n size cs) (hk : ∀ a u, W.cell? a = some u → W'.cell? a = some u) : Row W' v n size cs := by
 obtain ⟨hl, ao, cap, rfl, hm, hno, hc⟩ := h
 refine ⟨hl, ao, cap, rfl, hm, hno, fun hn => ?_⟩
 obtain ⟨b, off, rfl, hcell⟩ := hc hn
 refine ⟨b, off, rfl, fun i hi => ?_⟩
 have h1 := hcell i hi
 have h2 : cs[i]? = some cs[i] := List.getElem?_eq_getElem (by omega)
 rw [h2] at h1 ⊢
 exact hk _ _ h1
theorem Ints.cells {W W' : World} {v : Value} {xs : List Int} (h : Ints W v xs) (hk : ∀ a u, W.cell? a = some u → W'.cell? a = some u) : Ints W' v xs := Row.cells h hk
theorem put_cells {W : World} {k : Nat} {o o' : Obj} (h : W.heap[k]? = some o') (ho : o'.isCells = false) : ∀ a u, W.cell? a = some u → (W.putObj k o).cell? a = some u := by
 intro a u hu
 unfold World.cell? at hu ⊢
 by_cases e : a.block = k
 ·rw [e, h] at hu
  cases o' with
  | cells c t f => cases ho
  | _ => cases hu
 ·rw [World.putObj_heap_other e]; exact hu
def Stays (D : Nat) (J : List (List Nat) → World → Prop) : Prop := ∀ pre A B, J pre A → Below D A B → J pre B
def SeqRows (F : Fence) (n : Nat) (P : Program) (g : Nat) (lb : Array Value) (L : List (List Nat)) (w : World) : Prop :=
 ∀ (l : Nat) (J Jx : List (List Nat) → World → Prop) (W : World), Below w.heap.size w W → Stays W.heap.size J →
  (∀ pre v r A, J pre A → RowHi W.heap.size A v r → (pre ++ [r]) <+: L → YieldAt F (n - 1) P l #[v] A fun e B =>
   (e = .returned (.bool true) ∧ J (pre ++ [r]) B ∧ KeepsHi W.heap.size A B) ∨ (e = .returned (.bool false) ∧ Jx (pre ++ [r]) B)) →
  J [] W →
  CallsIn F n P g (#[.func (.yield l) #[] #[]] ++ lb) W fun e B => (∃ v, e = .returned v) ∧ (J L B ∨ ∃ pre, pre <+: L ∧ Jx pre B)
def roundEnd (D : Nat) (I Ix : List (List Nat) → World → Prop) (xs : List (List Nat)) (W : World) : Exit → Act → World → Prop
 | .normal, _, B => KeepsHi D W B ∧ I xs B
 | .ret, _, B => KeepsHi D W B ∧ Ix xs B
 | _, _, _ => False
theorem range_rows {F : Fence} {n : Nat} {P : Program} {g : Operand} {ps : Array Tmp} {assign body : Code} {Q : Exit → Act → World → Prop} {a : Act} {w w0 : World} {gf : Nat} {lb : Array Value} {L : List (List Nat)}
  (hro : F.round = none) (h1 : 1 ≤ n) (hg : a.eval g = .func (.func gf) #[] lb) (hFg : F.fn gf) (eg : ∀ args w, (callFunc gf args).run P w = .ok (.enter gf args) w)
  (hseq : SeqRows F (n - 1) P gf lb L w0) (hb0 : Below w0.heap.size w0 w) (hps : ps.size = 1)
  (I Ix : List (List Nat) → World → Prop) (hI : Stays w.heap.size I) (hIx : ∀ pre W (r : Loop) o, Ix pre W → W.heap[w.heap.size + 1]? = some (.loop r) → Ix pre (W.putObj (w.heap.size + 1) o)) (h0 : I [] w) (a1 : Value → Act)
  (hassign : ∀ (l : Nat) (v : Value) (W : World) (K : Act → World → Prop), K (a1 v) W →
   assign.wpIn (F.inRound l) (n - 1 - 1) P (Exit.then K (fun _ _ _ => False)) { tmps := (ps.zip #[v]).foldl (fun t (p, v) => t.setIfInBounds p v) a.tmps, defers := [] } W)
  (hbody : ∀ (l : Nat) (pre : List (List Nat)) (v : Value) (r : List Nat) (W : World), I pre W → RowHi (w.heap.size + 2) W v r → (pre ++ [r]) <+: L → w.heap.size + 2 ≤ W.heap.size →
   body.wpIn (F.inRound l) (n - 1 - 1) P (roundEnd w.heap.size I Ix (pre ++ [r]) W) (a1 v) W)
  (hdone : ∀ W, I L W → W.heap[w.heap.size]? = some (.deferred (some [])) → Q .normal { a with defers := { target := .collected w.heap.size, args := #[] } :: a.defers } W)
  (hstop : ∀ pre W, pre <+: L → Ix pre W → W.heap[w.heap.size]? = some (.deferred (some [])) → Code.ret.wpIn F n P Q { a with defers := { target := .collected w.heap.size, args := #[] } :: a.defers } W) :
  (Code.rangeFunc g ps assign body).wpIn F n P Q a w := by
 refine wpIn_rangeFunc fun fn hfn => ?_
 rw [hro]
 generalize hD : w.heap.size = D at *
 obtain ⟨rec, hrec⟩ : ∃ rec : LoopState → Option Code → Loop, rec = fun st pe => { state := st, pending := pe, fn, tmps := a.tmps, params := ps, assign, body, defers := D } := ⟨_, rfl⟩
 have hrun : (Instr.enterLoop fn a.tmps ps assign body none).run P w = .ok (D + 1, [{ target := .collected D, args := #[] }]) ((w.alloc (.deferred (some []))).alloc (.loop (rec .ready none))) := by
  rw [hrec, ← hD]; exact run_enterLoop_outer _ _ _ _ _
 have hbel : Below w.heap.size w ((w.alloc (.deferred (some []))).alloc (.loop (rec .ready none))) := ((Below.refl _ w).alloc (Nat.le_refl _) _).alloc (by simp) _
 have hsz : ((w.alloc (.deferred (some []))).alloc (.loop (rec .ready none))).heap.size = D + 2 := by simp [hD]
 have hl1 : ((w.alloc (.deferred (some []))).alloc (.loop (rec .ready none))).heap[D + 1]? = some (.loop (rec .ready none)) := by
  have := World.alloc_heap_new (w.alloc (.deferred (some []))) (.loop (rec .ready none))
  rwa [World.size_alloc, hD] at this
 have hd1 : ((w.alloc (.deferred (some []))).alloc (.loop (rec .ready none))).heap[D]? = some (.deferred (some [])) := by
  rw [Below.heap_alloc _ _ _ (by simp [hD])]
  have := World.alloc_heap_new w (.deferred (some []))
  rwa [hD] at this
 generalize (w.alloc (.deferred (some []))).alloc (.loop (rec .ready none)) = W1 at *
 rw [hD] at hbel
 have hput : ∀ (W : World) (o : Obj), D + 1 < W.heap.size → Below D W (W.putObj (D + 1) o) := fun W o h =>
  (Below.refl D W).grown (grownBy_putObj' W (D + 1) o) (by omega) (fun k e => by cases e; omega)
 refine ⟨D + 1, _, W1, { target := .fn (.func gf) lb, args := #[.func (.yield (D + 1)) #[] #[]] }, W1, gf, #[.func (.yield (D + 1)) #[] #[]] ++ lb, W1, hrun, ?_, ?_, ?_, fun _ => h1, ?_⟩
 ·simp only [resolve, hg]; simp [go_sem]
 ·intro f' hf'; simp [Target.leads] at hf'; subst hf'; exact hFg
 ·simp [invoke, go_sem, eg]
 have hat : ∀ {A B : World} {k : Nat} {o : Obj}, Below W1.heap.size A B → k < D + 2 → A.heap[k]? = some o → B.heap[k]? = some o := fun h hk e => (h.block _ (by omega)).trans e
 refine (hseq (D + 1) (fun pre W => I pre W ∧ W.heap[D + 1]? = some (.loop (rec .ready none)) ∧ W.heap[D]? = some (.deferred (some [])))
  (fun pre W => Ix pre W ∧ W.heap[D + 1]? = some (.loop (rec .done (some .ret))) ∧ W.heap[D]? = some (.deferred (some []))) W1
  (hb0.trans (hbel.mono (by rw [← hD]; exact hb0.size)))
  (fun pre A B h hb => ⟨hI _ _ _ h.1 (hb.mono (by omega)), hat hb (by omega) h.2.1, hat hb (by omega) h.2.2⟩)
  ?_ ⟨hI _ _ _ h0 hbel, hl1, hd1⟩).mono ?_
 ·rintro pre v r A ⟨hi, hl, hk⟩ hr hpre
  rw [hsz] at hr ⊢
  have hlt : D + 1 < A.heap.size := (Array.getElem?_eq_some_iff.1 hl).1
  have hy := run_yield (P := P) (args := #[v]) hl (by rw [hrec]; exact hps.symm)
  rw [hrec] at hy
  refine ⟨fn, _, assign, body, hy, roundIn_of_wpIn hfn (hassign _ v A _ ⟨_, run_beginRound hl (by rw [hrec]), ?_⟩)⟩
  have hl2 : (A.putObj (D + 1) (.loop { rec .ready none with state := .busy })).heap[D + 1]? = some (.loop { rec .ready none with state := .busy }) := World.putObj_heap_same hlt
  have hk2 : (A.putObj (D + 1) (.loop { rec .ready none with state := .busy })).heap[D]? = some (.deferred (some [])) := (World.putObj_heap_other (by omega)).trans hk
  have hK2 := KeepsHi.putObj (D := D + 2) A (.loop { rec .ready none with state := .busy }) (l := D + 1) (by omega)
  refine wpIn_mono (hbody _ pre v r _ (hI _ _ _ hi (hput _ _ hlt)) (hr.kept hK2) hpre (by simp; omega)) ?_
  rintro e a3 W3 hp
  have fin : ∀ (jump : Option Code), KeepsHi D (A.putObj (D + 1) (.loop { rec .ready none with state := .busy })) W3 →
    ∃ B, (Instr.endRound (D + 1) jump).run P W3 = .ok (.bool jump.isNone) B ∧ (∃ (r : Loop) (o : Obj), W3.heap[D + 1]? = some (.loop r) ∧ B = W3.putObj (D + 1) o) ∧ Below D W3 B ∧ KeepsHi (D + 2) A B ∧ B.heap[D + 1]? = some (.loop (rec (if jump.isNone then .ready else .done) jump)) ∧ B.heap[D]? = some (.deferred (some [])) := fun jump hk3 => by
   have hl3 := (hk3.same (D + 1) (by omega) (by simp; omega)).trans hl2
   have hd3 := (hk3.same D (Nat.le_refl _) (by simp; omega)).trans hk2
   have hlt3 := (Array.getElem?_eq_some_iff.1 hl3).1
   refine ⟨_, run_endRound (P := P) jump hl3, ⟨_, _, hl3, rfl⟩, hput _ _ hlt3, (hK2.trans (hk3.mono (by omega))).trans (KeepsHi.putObj _ _ (by omega)), ?_, (World.putObj_heap_other (by omega)).trans hd3⟩
   rw [World.putObj_heap_same hlt3, hrec]
  cases e with
  | normal =>
   obtain ⟨hk3, hi3⟩ := hp
   obtain ⟨B, hr, _, hb, hkb, hl4, hd4⟩ := fin none hk3
   exact ⟨_, B, hr, .inl ⟨rfl, ⟨hI _ _ _ hi3 hb, hl4, hd4⟩, hkb⟩⟩
  | ret =>
   obtain ⟨hk3, hi3⟩ := hp
   obtain ⟨B, hr, ⟨lr, lo, hl3, hB⟩, _, _, hl4, hd4⟩ := fin (some .ret) hk3
   exact ⟨_, B, hr, .inr ⟨rfl, by rw [hB]; exact hIx _ _ lr lo hi3 hl3, hl4, hd4⟩⟩
  | exit id => exact hp.elim
  | goto t => exact hp.elim
  | panic ch => exact hp.elim
  | outgrown => exact hp.elim
 ·rintro e W2 ⟨⟨v, rfl⟩, (⟨hi, hl, hk⟩ | ⟨pre, hpre, hi, hl, hk⟩)⟩
  ·have hlt := (Array.getElem?_eq_some_iff.1 hl).1
   refine ⟨none, _, by have := run_endLoop (P := P) hl (by rw [hrec]; simp); rw [hrec] at this; exact this, ?_⟩
   exact hdone _ (hI _ _ _ hi (hput _ _ hlt)) ((World.putObj_heap_other (by omega)).trans hk)
  ·refine ⟨some .ret, _, by have := run_endLoop (P := P) hl (by rw [hrec]; simp); rw [hrec] at this; exact this, ?_⟩
   exact hstop pre _ hpre (hIx _ _ _ _ hi hl) ((World.putObj_heap_other (by omega)).trans hk)
end

section
open Go.RowKit Go.Shelf
theorem contains_any (v : Value) (l : List Int) (n : Int) (w : World) (hv : Ints w v l) :
  Calls Tryz.prog 160 #[v, .int .i64 n] w fun e w' => e = .returned (.bool (decide (n ∈ l))) ∧ w = w' := by
 have C := hid (index_any v l n w hv)
 obtain ⟨ao, cap, rfl, hlen⟩ := hv.form
 go_enter Tryz.func160, Tryz.ntmps160
 go_wp2_with fail
 refine C.out.mono ?_
 rintro e w' ⟨⟨k, hk, he, rfl⟩ | ⟨hn, rfl⟩, rfl⟩
 ·have HV : Hid (true = decide (n ∈ l)) := hid (by symm; rw [decide_eq_true_eq, ← he]; exact List.getElem_mem hk)
  clear he C
  have h0 : (0 : Int) ≤ (k : Int) := by omega
  go_wp2_with fail
  go_ret
  exact ⟨ret_b HV.out, rfl⟩
 ·have HV : Hid (false = decide (n ∈ l)) := hid (by symm; rw [decide_eq_false_iff_not]; exact hn)
  clear hn C
  go_wp2_with fail
  go_ret
  exact ⟨ret_b HV.out, rfl⟩
theorem infoIntC : (Tryz.prog.info? 3).map (fun i => (i.zero, i.size, i.bytes)) = some (some (.int .i64 0), 1, 8) := by kernel_rfl
theorem run_append_full {w : World} (ty : TypeId) {ao : Option Addr} {l : List Nat} (hr : Ints w (.slice ao l.length l.length) (l.map Int.ofNat)) (ad : Addr) (c k : Nat) (hnew : w.cell? ad = some (.int .i64 (k : Int))) (hl : l.length ≤ 1000) :
  ∃ v' w', Sem.run Tryz.prog (Builtin.append_ #[36, 36] ty #[.slice ao l.length l.length, .slice (some ad) 1 c]) w = .ok v' w' ∧ RowHi w.heap.size w' v' (l ++ [k]) ∧ Below w.heap.size w w' := by
 obtain ⟨i0, hi0, hz0, hz1, hz2⟩ := info_parts infoIntC
 have hnews : ∀ j u, [Value.int .i64 (k : Int)][j]? = some u → w.cell? (ad.add j) = some u := fun j u hu => by
  cases j with
  | zero => simp at hu; subst hu; simpa [Addr.add] using hnew
  | succ j => simp at hu
 have hfin : ∀ v' (w' : World), w'.ownsRow w.heap.size 3 1 v' (l.length + 1) ((l.map fun i : Nat => .int .i64 (i : Int)) ++ [.int .i64 (k : Int)]) → RowHi w.heap.size w' v' (l ++ [k]) := fun v' w' ho => by
  refine ⟨?_, fun g hg => (ho.lt g hg).1⟩
  have h1 := Row.of_owns ho
  unfold Ints
  have e1 : ((l ++ [k]).map Int.ofNat).length = l.length + 1 := by simp
  have e2 : ((l ++ [k]).map Int.ofNat).map (Value.int .i64) = (l.map fun i : Nat => .int .i64 (i : Int)) ++ [.int .i64 (k : Int)] := by simp [Function.comp_def]
  rw [e1, e2]; exact h1
 obtain ⟨hcl, ao', cap', e, hm, hno, hc⟩ := hr
 have hlen : (l.map Int.ofNat).length = l.length := by simp
 rw [hlen] at hm hno hc
 obtain ⟨rfl, _⟩ : ao = ao' ∧ l.length = cap' := by simpa using e
 cases ao with
 | none =>
  have h0 := (hno rfl).1
  have hl0 : l = [] := List.length_eq_zero_iff.1 h0
  subst hl0
  obtain ⟨g, cap, w', hr, h2, h3, h4, h5⟩ := run_append_lies (P := Tryz.prog) w 36 ty w.heap.size 3 i0 (.int .i64 0) 1 8 Tryz.underlying36 hi0 hz0 hz1 hz2 rfl (by decide) (.slice none 0 0) 0 [] (World.ownsRow_nil _ _ _ _) ad 1 c _ rfl hnews (by intro u hu; simp at hu; subst hu; rfl) (by decide) (by unfold maxLen; omega) (by omega) (Nat.le_refl _) _ rfl
  exact ⟨_, w', hr, hfin _ _ h2, (Below.refl _ _).grown h3 (Nat.le_refl _) (fun j hj => by cases hj)⟩
 | some b =>
  have holds : ∀ j u, (l.map fun i : Nat => Value.int .i64 (i : Int))[j]? = some u → w.cell? (b.add j) = some u := fun j u hu => by
   have hj : j < l.length := by
    have := (List.getElem?_eq_some_iff.1 hu).1
    simpa using this
   obtain ⟨g, off, e2, hcell⟩ := hc (by omega)
   obtain rfl : b = ⟨g, off, none⟩ := by injection e2
   rw [Addr.add_lit]
   rw [hcell j (by omega), ← hu, List.map_map]; rfl
  obtain ⟨v', w', hr, h2, h3⟩ := run_append_arg_grows (P := Tryz.prog) w 36 ty 3 i0 (.int .i64 0) 1 8 Tryz.underlying36 hi0 hz0 hz1 hz2 rfl (by decide) b l.length l.length _ (by simp) holds ad 1 c _ rfl hnews (by omega) (by unfold maxLen; omega) (by omega)
  exact ⟨v', w', hr, hfin _ _ h2, (Below.refl _ _).grown h3 (Nat.le_refl _) (fun j hj => by cases hj)⟩
theorem RowHi.form {D : Nat} {W : World} {v : Value} {r : List Nat} (h : RowHi D W v r) : ∃ ao cap, v = .slice ao r.length cap := by
 obtain ⟨ao, cap, e, _⟩ := h.1.form
 rw [List.length_map] at e
 exact ⟨ao, cap, e⟩
theorem RowHi.full {D : Nat} {W : World} {ao : Option Addr} {n cap : Nat} {r : List Nat} (h : RowHi D W (.slice ao n cap) r) : Ints W (.slice ao r.length r.length) (r.map Int.ofNat) := by
 obtain ⟨⟨_, ao', cap', e, hm, hno, hc⟩, _⟩ := h
 obtain ⟨rfl, _, _⟩ : ao = ao' ∧ n = _ ∧ cap = cap' := by simpa using e
 rw [List.length_map] at hm hno hc
 unfold Ints
 rw [List.length_map]
 exact ⟨by simp, ao, r.length, rfl, ⟨Nat.le_refl _, by omega⟩, fun e => by have := (hno e).1; omega, hc⟩
end

section
open Go.RowKit Go.Shelf
attribute [local go_sem] Oper.semAt_some
def Handed (D : Nat) (J Jx : List (List Nat) → World → Prop) (pre E : List (List Nat)) (W : World) (e : Ending) (B : World) : Prop :=
 (e = .returned (.bool true) ∧ J (pre ++ E) B ∧ KeepsHi D W B) ∨ (e = .returned (.bool false) ∧ ∃ q, q <+: E ∧ Jx (pre ++ q) B)
theorem wpList_append_full (w : World) {ops : Array Oper} {rest : List Oper} {o : Oper} {a : Act} {Q : Exit → Act → World → Prop} (s x : Operand)
  (ho : o.op = .call { callee := .builtin .append, args := #[s, x], argTypes := #[36, 36] }) (hw : Region.wanted o (yielded ops a.tmps) = true) {vs vx v' : Value} {w' : World} (hs : a.eval s = vs) (hx : a.eval x = vx)
  (hrun : Sem.run Tryz.prog (Builtin.append_ #[36, 36] o.type #[vs, vx]) w = .ok v' w') (h : wpList Tryz.prog ops Q rest (a.put o.dst v') w') : wpList Tryz.prog ops Q (o :: rest) a w := by
 refine wpList_step fun K hK => ?_
 rw [if_pos hw]
 unfold Oper.wp execOp
 simp only [ho, resolve, invoke, builtin, Sem.run_bind, Sem.run_pure, Result.andThen_ok, List.map_toArray, List.map_cons, List.map_nil, hs, hx, hrun]
 exact hK _ _ h
theorem mem_ints {r : List Nat} {j : Nat} (h : j ∈ r) : decide ((j : Int) ∈ r.map Int.ofNat) = true := by rw [decide_eq_true_eq]; exact List.mem_map.2 ⟨j, h, rfl⟩
theorem not_mem_ints {r : List Nat} {j : Nat} (h : j ∉ r) : decide ((j : Int) ∈ r.map Int.ofNat) = false := by
 rw [decide_eq_false_iff_not, List.mem_map]
 rintro ⟨x, hx, e⟩
 obtain rfl : x = j := Int.ofNat.inj e
 exact h hx
theorem further_any (l D many : Nat) (L : List (List Nat)) (J Jx : List (List Nat) → World → Prop) (hJ : Stays D J) (hm : many ≤ 64)
  (hY : ∀ (m : Nat) pre v r A, J pre A → RowHi D A v r → (pre ++ [r]) <+: L → YieldAt Fence.wide m Tryz.prog l #[v] A fun e B =>
   (e = .returned (.bool true) ∧ J (pre ++ [r]) B ∧ KeepsHi D A B) ∨ (e = .returned (.bool false) ∧ Jx (pre ++ [r]) B)) :
  ∀ (k : Nat) (v : Value) (r : List Nat) (pre : List (List Nat)) (W : World), RowHi D W v r → r.length + k = many → (pre ++ exts many k r) <+: L → D ≤ W.heap.size → J pre W →
   Calls Tryz.prog 128 #[.int .i64 (many : Int), v, .func (.yield l) #[] #[]] W fun e B => Handed D J Jx pre (exts many k r) W e B
 | 0, v, r, pre, W, hr, hlen, hL, hD, hj => by
  have hy := hY 1 pre v r W hj hr hL
  obtain ⟨fn, tmps, assign, body, hy, hR⟩ := hy
  obtain ⟨ao, cap, rfl⟩ := hr.form
  obtain rfl : r.length = many := by omega
  clear hlen hm hD hY
  refine (callsIn_wide (n := 2)).1 ?_
  refine callsIn_of_wp Tryz.func128 rfl trivial ?_ rfl
  simp only [Tryz.ntmps128, List.size_toArray, List.length_cons, List.length_nil, Nat.reduceAdd, Nat.reduceSub, Array.replicate_succ, Array.replicate_zero, List.push_toArray, List.append_toArray, List.nil_append, List.cons_append]
  gi_wp2_with (first
   | (refine ⟨fun h => (by cases h), ?_⟩; refine hR.mono ?_; rintro e B (⟨rfl, hj2, hk2⟩ | ⟨rfl, hx2⟩))
   | (refine hR.mono ?_; rintro e B (⟨rfl, hj2, hk2⟩ | ⟨rfl, hx2⟩)))
  ·go_ret
   exact .inl ⟨rfl, hj2, hk2⟩
  ·go_ret
   exact .inr ⟨rfl, [r], List.prefix_rfl, hx2⟩
 | k + 1, v, r, pre, W, hr, hlen, hL, hD, hj => by
  have IH := hid (fun v r pre W a b c d e => further_any l D many L J Jx hJ hm hY k v r pre W a b c d e)
  have HR := hid hr
  have HL := hid hL
  obtain ⟨ao, cap, rfl⟩ := hr.form
  have hb1 : ((r.length : Int) == (many : Int)) = false := by rw [beq_eq_false_iff_ne]; omega
  have HG := hid hlen
  have HF := hid (fun wx (hx : KeepsHi D W wx) => (hr.kept hx).full)
  have hcap : r.length ≤ cap := by
   obtain ⟨⟨_, ao', cap', e, hm', _⟩, _⟩ := hr
   rw [List.length_map] at e hm'
   obtain ⟨_, _, rfl⟩ : ao = ao' ∧ r.length = r.length ∧ cap = cap' := by simpa using e
   exact hm'.1
  clear hlen hL hr hY
  go_enter Tryz.func128, Tryz.ntmps128
  go_wp2_with fail
  go_loopw [16] (fun i wr => ∃ j : Nat, j ≤ many ∧ i = .int .i64 (j : Int) ∧ Hid (J (pre ++ extsTo many k r j) wr) ∧ Hid (KeepsHi D W wr)) (fun i _ => many - (intOf i).toNat)
  case atStart => exact ⟨0, by omega, rfl, hid (by rw [extsTo_zero, List.append_nil]; exact hj), hid (KeepsHi.refl _ _)⟩
  case round =>
   clear hj
   obtain ⟨j, hjm, rfl, HJ, HK⟩ := hrel
   by_cases hlt : (j : Int) < (many : Int)
   ·have CC := hid (contains_any (.slice ao r.length cap) (r.map Int.ofNat) (j : Int) wr (HR.out.kept HK.out).1)
    by_cases hin : j ∈ r
    ·have HS : Hid (extsTo many k r (j + 1) = extsTo many k r j) := hid (by rw [extsTo_succ, if_pos hin, List.append_nil])
     rw [mem_ints hin] at CC
     clear hin
     go_wp2_with fail
     refine CC.out.mono ?_
     rintro e wq ⟨rfl, rfl⟩
     go_wp2_with fail
     go_roundw
     case rel => exact ⟨j + 1, by omega, rfl, hid (by rw [HS.out]; exact HJ.out), HK⟩
     case measure => simp only [intOf]; omega
    ·have HS : Hid (extsTo many k r (j + 1) = extsTo many k r j ++ exts many k (r ++ [j])) := hid (by rw [extsTo_succ, if_neg hin])
     rw [not_mem_ints hin] at CC
     clear hin
     have hDw : D ≤ wr.heap.size := Nat.le_trans hD HK.out.size
     have hcell : (wr.alloc (.cells #[.int .i64 (j : Int)] 3)).cell? ⟨wr.heap.size, 0, none⟩ = some (.int .i64 (j : Int)) := by
      rw [cell_of_row _ _ _ _ _ _ (heap_alloc_new wr _)]; rfl
     have hbw : Below wr.heap.size wr (wr.alloc (.cells #[.int .i64 (j : Int)] 3)) := (Below.refl _ _).alloc (Nat.le_refl _) _
     obtain ⟨v2, w2, hap, hr2, hb2⟩ := run_append_full 36 (w := wr.alloc (.cells #[.int .i64 (j : Int)] 3)) (ao := ao) (l := r) ((HF.out wr HK.out).below hbw) ⟨wr.heap.size, 0, none⟩ 1 j hcell (by have := HG.out; omega)
     have hb3 : Below wr.heap.size wr w2 := hbw.trans (hb2.mono hbw.size)
     have HI := hid (IH.out v2 (r ++ [j]) (pre ++ extsTo many k r j) w2 ⟨hr2.1, fun g hg => Nat.le_trans hDw (Nat.le_trans hbw.size (hr2.2 g hg))⟩ (by have := HG.out; simp; omega)
      (by have h1 := HL.out; rw [List.append_assoc, ← HS.out]; exact ((List.prefix_append_right_inj pre).2 (by rw [exts_all]; exact extsTo_prefix many k r (by omega))).trans h1) (Nat.le_trans hDw hb3.size) (hJ _ _ _ HJ.out (hb3.mono hDw)))
     have HK2 : Hid (KeepsHi D W w2) := hid (HK.out.trans (KeepsHi.of_below hb3))
     have HP : Hid (∀ q, q <+: exts many k (r ++ [j]) → extsTo many k r j ++ q <+: exts many (k + 1) r) := hid (fun q hq => ((List.prefix_append_right_inj _).2 hq).trans (by rw [← HS.out, exts_all]; exact extsTo_prefix many k r (by omega)))
     obtain ⟨ao2, cap2, rfl⟩ := hr2.form
     rw [List.length_append, List.length_singleton] at HI hap
     have HA := hid hap
     clear hcell hbw hr2 hb2 hb3 IH hap
     cases ao with
     | none =>
      go_wp2_with fail
      refine CC.out.mono ?_
      rintro e wq ⟨rfl, rfl⟩
      go_wp2_with (first
       | (at_builtin; refine wpList_append_full _ _ _ rfl (by kernel_rfl) rfl rfl HA.out ?_)
       | (go_at_call 128; refine HI.out.mono ?_; rintro e B (⟨rfl, hj2, hk2⟩ | ⟨rfl, q, hq, hx2⟩)))
      ·go_roundw
       case rel => exact ⟨j + 1, by omega, rfl, hid (by rw [HS.out, ← List.append_assoc]; exact hj2), hid (HK2.out.trans hk2)⟩
       case measure => simp only [intOf]; omega
      ·go_ret
       exact .inr ⟨rfl, _, HP.out q hq, by rw [← List.append_assoc]; exact hx2⟩
     | some ad =>
      go_wp2_with fail
      refine CC.out.mono ?_
      rintro e wq ⟨rfl, rfl⟩
      go_wp2_with (first
       | (at_builtin; refine wpList_append_full _ _ _ rfl (by kernel_rfl) rfl rfl HA.out ?_)
       | (go_at_call 128; refine HI.out.mono ?_; rintro e B (⟨rfl, hj2, hk2⟩ | ⟨rfl, q, hq, hx2⟩)))
      ·go_roundw
       case rel => exact ⟨j + 1, by omega, rfl, hid (by rw [HS.out, ← List.append_assoc]; exact hj2), hid (HK2.out.trans hk2)⟩
       case measure => simp only [intOf]; omega
      ·go_ret
       exact .inr ⟨rfl, _, HP.out q hq, by rw [← List.append_assoc]; exact hx2⟩
   ·have HV : Hid (exts many (k + 1) r = extsTo many k r j) := hid (by rw [exts_all, show j = many by omega])
    go_wp2_with fail
    go_ret
    exact .inl ⟨rfl, by rw [HV.out]; exact HJ.out, HK.out⟩
end

end Go.Proofs.YtmcicfdnmfbimaaGreatDoor
