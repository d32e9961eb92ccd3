/- Walks and plain facts that the proof of the statement WholeSerial uses, joined: AxiB AxiC AxiD LevC LevE AxiE LeaB RelU OrdAA LeaH TblA AxiF PlaA. Conditions: each theorem's own. -/
import Derived.Great.BuildSlice
import Derived.KernelRfl
import Derived.Laws.Tables
import Derived.Laws.CopyOwn
import Derived.Deep.QuietTactic
import Derived.BigQuiet
import Derived.Test.YtadihdkpoeibhaaGreatDoorPWholeSerial0
import Derived.Test.YtadihdkpoeibhaaGreatDoorPWholeSerial2
import Derived.Test.YtadihdkpoeibhaaGreatDoorPWholeSerial3
namespace Go.Proofs.YtadihdkpoeibhaaGreatDoor
set_option maxHeartbeats 32000000
set_option maxRecDepth 100000
open Lib (hid)
section
open Go.RowKit
def wrtN (h : List TxnV) (y : Int) : Nat := mkS fun j => decide (j < h.length) && decide (y ∈ keysOf (opsAt h j))
theorem wrtN_set (h : List TxnV) (y : Int) : IsSet (wrtN h y) := isSet_mkS _
theorem wrt_eq {h : List TxnV} {K : List KRow} (hc : checkI h = 0) (hK : K.map (·.2) = keysTo h h.length) (hA : AllSet (wrsTo K K.length)) (y : Int) : (wrsTo K K.length y).getD 0 = wrtN h y := by
 have hl := keys_len hK
 have h64 := (check_zero hc).1
 refine mkS_eq (hA y) fun j hj => ?_
 rw [wrsTo_bit K j y K.length (by omega) (Nat.le_refl _), hl]
 by_cases hjn : j < h.length
 ·rw [keys_at hK hjn]
 ·simp [hjn]
theorem reads_key {h : List TxnV} (hc : checkI h = 0) {i : Nat} (hi : i < h.length) {r : Int × Int} (hr : r ∈ readsOf h i) : 0 ≤ r.1 ∧ r.1 < 64 := by
 obtain ⟨_, _, _, hks⟩ := check_zero hc
 unfold readsOf rdFr at hr
 obtain ⟨o, ho, rfl⟩ := List.mem_map.1 hr
 have h1 := (refReads_in (List.mem_filter.1 ho).1).1
 rw [opsAt_eq hi] at h1
 exact hks _ (List.getElem_mem hi) o h1
def readOk (h : List TxnV) (l : List Int) (V : Mat) (i : Nat) (r : Int × Int) : Bool := decide (lastI l (seeTo V (i : Int) 64 &&& wrtN h r.1) = r.2)
def readsOk (h : List TxnV) (l : List Int) (V : Mat) (i k : Nat) : Bool := ((readsOf h i).take k).all (readOk h l V i)
def rightTo (h : List TxnV) (l : List Int) (V : Mat) (k : Nat) : Bool := (List.range k).all fun i => (readsOf h i).all (readOk h l V i)
def rightM (h : List TxnV) (l : List Int) (V : Mat) : Bool := rowOkA (h.length : Int) l && (inM V (chainR l) && rightTo h l V h.length)
theorem readsOk_no {h : List TxnV} {l : List Int} {V : Mat} {i k : Nat} (hi : i < h.length) (hk : k < (readsOf h i).length) (hn : readOk h l V i (readsOf h i)[k] = false) : rightTo h l V h.length = false := by
 unfold rightTo
 rw [List.all_eq_false]
 refine ⟨i, List.mem_range.2 hi, ?_⟩
 rw [Bool.not_eq_true, List.all_eq_false]
 exact ⟨_, List.getElem_mem hk, by rw [hn]; simp⟩
theorem readsOk_succ {h : List TxnV} {l : List Int} {V : Mat} {i k : Nat} (hk : k < (readsOf h i).length) (hy : readOk h l V i (readsOf h i)[k] = true) (hp : readsOk h l V i k = true) : readsOk h l V i (k + 1) = true := by
 unfold readsOk at *
 rw [List.take_succ_eq_append_getElem hk, List.all_append, hp]
 simp [hy]
theorem rightTo_succ {h : List TxnV} {l : List Int} {V : Mat} {k : Nat} (hp : rightTo h l V k = true) (hy : readsOk h l V k (readsOf h k).length = true) : rightTo h l V (k + 1) = true := by
 unfold rightTo readsOk at *
 rw [List.take_length] at hy
 rw [List.range_succ, List.all_append, hp]
 simpa using hy
def RdS (B bm q : Nat) (rk rf : Int) (x : Nat) (w : World) : Prop := w.cell? ⟨B, 193, none⟩ = some (.map (some bm)) ∧ w.cell? ⟨q, 0, none⟩ = some (.int .i64 rk) ∧ w.cell? ⟨q, 1, none⟩ = some (.int .i64 rf) ∧
 Sem.run Tryz.prog (Instr.lookup 118 (.map (some bm)) (.int .i64 rk) false) w = .ok (.int .u64 (x : Int)) w
theorem aright_any (va : Value) (l : List Int) (V : Mat) (h : List TxnV) (B b : Nat) (w : World) (hO : OrdIs w B b h) (hc : checkI h = 0) (hl : Ints w va l) :
  Calls Tryz.prog 178 #[.pointer (some ⟨B, 0, none⟩), va, .agg (rowsA V)] w fun e w' => e = .returned (.bool (rightM h l V)) ∧ Below w.heap.size w w' := by
 have HR : Hid (rightM h l V = (rowOkA (h.length : Int) l && (inM V (chainR l) && rightTo h l V h.length))) := hid rfl
 have HC := hid hc
 obtain ⟨ao, cap, rfl, hal⟩ := hl.form
 have r0 : RelAt (w.alloc (.cells (rowsA V) 117)) w.heap.size 117 V := RelAt.made w _ _ rfl rfl
 have hb0 := box_below w (.cells (rowsA V) 117)
 have HO := hid (fun wx (hx : Below w.heap.size w wx) => hO.below hx)
 have HL := hid (fun wx (hx : Below w.heap.size w wx) => hl.below hx)
 clear hO hc hl
 go_enter Tryz.func178, Tryz.ntmps178
 go_upto_region 1 with fail
 generalize w.alloc (.cells (rowsA V) 117) = w0 at *
 have HB := hid (fun wx (hx : Below w0.heap.size w0 wx) => hb0.trans (hx.mono hb0.size))
 have HS : Hid (∀ wx, Below w0.heap.size w0 wx → OrdB wx B h ∧ RelAt wx w.heap.size 117 V) := hid (fun wx hx => ⟨(HO.out wx (hb0.trans (hx.mono hb0.size))).blk, r0.below hx r0.lt⟩)
 have CR := hid (fun wx (hx : Below w0.heap.size w0 wx) => arow_any (h.length : Int) _ l wx (HL.out wx (hb0.trans (hx.mono hb0.size))))
 have CC := hid (fun wx (hx : Below w0.heap.size w0 wx) => chain_any _ l wx (HL.out wx (hb0.trans (hx.mono hb0.size))))
 have CW := hid (fun wx => withinR_any V (chainR l) wx)
 have kd := (Below.refl w0.heap.size w0).drew
 clear r0 hb0
 cases hrow : rowOkA (h.length : Int) l with
 | false =>
  have HV : Hid (false = rightM h l V) := hid (by rw [HR.out, hrow]; rfl)
  rw [hrow] at CR
  clear hrow HR
  refine wp_region_held_drew (S := fun wx => OrdB wx B h ∧ RelAt wx w.heap.size 117 V) (by kernel_rfl) (HS.out _ kd) (fun hS0 => ?_)
  refine tG (some 12) 0 ?ve0 rfl rfl (Or.inl ⟨by rfl, ?he0⟩) hS0 ?re0
  case he0 => (intro w hw; have hn := hw.1.cN; go_simp; try (with_reducible rfl))
  try simp only [Act.put, zA, zB, zC]
  refine tG (some 13) 1 ?ve1 rfl rfl (Or.inl ⟨by rfl, ?he1⟩) hS0 ?re1
  case he1 => (intro w hw; have hn := hw.1.cN; go_simp; try (with_reducible rfl))
  try simp only [Act.put, zA, zB, zC]
  refine tG (some 14) 2 ?ve2 rfl rfl (Or.inl ⟨by rfl, ?he2⟩) hS0 ?re2
  case he2 => (intro w hw; have hn := hw.1.cN; go_simp; try (with_reducible rfl))
  try simp only [Act.put, zA, zB, zC]
  refine tG (some 15) 3 ?ve3 rfl rfl (Or.inl ⟨by rfl, ?he3⟩) hS0 ?re3
  case he3 => (intro w hw; have hn := hw.1.cN; go_simp; try (with_reducible rfl))
  try simp only [Act.put, zA, zB, zC]
  refine tG (some 16) 4 ?ve4 rfl rfl (Or.inl ⟨by rfl, ?he4⟩) hS0 ?re4
  case he4 => (intro w hw; have hn := hw.1.cN; go_simp; try (with_reducible rfl))
  try simp only [Act.put, zA, zB, zC]
  refine rD 5 rfl (fun K hK => ?_)
  go_simp
  refine (CR.out _ kd).mono ?_
  rintro e q1 ⟨rfl, rfl⟩
  show K _ _
  refine hK.out _ _ hS0 (fun _ => ?_)
  clear hK K
  refine tA (some 18) 6 rfl rfl hS0 ?_
  try simp only [Act.put, zA, zB, zC]
  refine tA (some 19) 7 rfl rfl hS0 ?_
  try simp only [Act.put, zA, zB, zC]
  refine tG (some 20) 8 undef rfl rfl (Or.inr ⟨by rfl, rfl⟩) hS0 ?_
  try simp only [Act.put, zA, zB, zC]
  refine tG (some 21) 9 undef rfl rfl (Or.inr ⟨by rfl, rfl⟩) hS0 ?_
  try simp only [Act.put, zA, zB, zC]
  refine tG (some 22) 10 undef rfl rfl (Or.inr ⟨by rfl, rfl⟩) hS0 ?_
  try simp only [Act.put, zA, zB, zC]
  refine tG (some 23) 11 undef rfl rfl (Or.inr ⟨by rfl, rfl⟩) hS0 ?_
  try simp only [Act.put, zA, zB, zC]
  refine tG (some 24) 12 undef rfl rfl (Or.inr ⟨by rfl, rfl⟩) hS0 ?_
  try simp only [Act.put, zA, zB, zC]
  refine tA (some 25) 13 rfl rfl hS0 ?_
  try simp only [Act.put, zA, zB, zC]
  refine wpAnyH_done (by kernel_rfl) ?_ _
  go_wp2_with fail
  go_ret
  exact ⟨ret_b HV.out, HB.out _ kd⟩
 | true =>
  rw [hrow] at CR
  cases hin : inM V (chainR l) with
  | false =>
   have HV : Hid (false = rightM h l V) := hid (by rw [HR.out, hrow, hin]; rfl)
   rw [hin] at CW
   clear hrow hin HR
   refine wp_region_held_drew (S := fun wx => OrdB wx B h ∧ RelAt wx w.heap.size 117 V) (by kernel_rfl) (HS.out _ kd) (fun hS0 => ?_)
   refine tG (some 12) 0 ?vf0 rfl rfl (Or.inl ⟨by rfl, ?hf0⟩) hS0 ?rf0
   case hf0 => (intro w hw; have hn := hw.1.cN; go_simp; try (with_reducible rfl))
   try simp only [Act.put, zA, zB, zC]
   refine tG (some 13) 1 ?vf1 rfl rfl (Or.inl ⟨by rfl, ?hf1⟩) hS0 ?rf1
   case hf1 => (intro w hw; have hn := hw.1.cN; go_simp; try (with_reducible rfl))
   try simp only [Act.put, zA, zB, zC]
   refine tG (some 14) 2 ?vf2 rfl rfl (Or.inl ⟨by rfl, ?hf2⟩) hS0 ?rf2
   case hf2 => (intro w hw; have hn := hw.1.cN; go_simp; try (with_reducible rfl))
   try simp only [Act.put, zA, zB, zC]
   refine tG (some 15) 3 ?vf3 rfl rfl (Or.inl ⟨by rfl, ?hf3⟩) hS0 ?rf3
   case hf3 => (intro w hw; have hn := hw.1.cN; go_simp; try (with_reducible rfl))
   try simp only [Act.put, zA, zB, zC]
   refine tG (some 16) 4 ?vf4 rfl rfl (Or.inl ⟨by rfl, ?hf4⟩) hS0 ?rf4
   case hf4 => (intro w hw; have hn := hw.1.cN; go_simp; try (with_reducible rfl))
   try simp only [Act.put, zA, zB, zC]
   refine rD 5 rfl (fun K hK => ?_)
   go_simp
   refine (CR.out _ kd).mono ?_
   rintro e q1 ⟨rfl, rfl⟩
   show K _ _
   refine hK.out _ _ hS0 (fun _ => ?_)
   clear hK K
   refine tA (some 18) 6 rfl rfl hS0 ?_
   try simp only [Act.put, zA, zB, zC]
   refine tA (some 19) 7 rfl rfl hS0 ?_
   try simp only [Act.put, zA, zB, zC]
   refine tG (some 20) 8 _ rfl rfl (yields_rel (by rfl) _ rfl rfl (fun wx hx => hx.2)) hS0 ?_
   try simp only [Act.put, zA, zB, zC]
   refine tA (some 21) 9 rfl rfl hS0 ?_
   try simp only [Act.put, zA, zB, zC]
   refine rD 10 rfl (fun K hK => ?_)
   go_simp
   refine (CC.out _ kd).mono ?_
   rintro e q2 ⟨rfl, hq2⟩
   show K _ _
   have k2 := below_then kd hq2
   have s2 := HS.out _ k2
   refine hK.out _ _ s2 (fun _ => ?_)
   clear hK K
   refine rD 11 rfl (fun K hK => ?_)
   go_simp
   refine (CW.out q2).mono ?_
   rintro e q3 ⟨rfl, hq3⟩
   show K _ _
   have k3 := below_then k2 hq3
   have s3 := HS.out _ k3
   refine hK.out _ _ s3 (fun _ => ?_)
   clear hK K
   refine tA (some 24) 12 rfl rfl s3 ?_
   try simp only [Act.put, zA, zB, zC]
   refine tA (some 25) 13 rfl rfl s3 ?_
   try simp only [Act.put, zA, zB, zC]
   refine wpAnyH_done (by kernel_rfl) ?_ _
   go_wp2_with fail
   go_ret
   exact ⟨ret_b HV.out, HB.out _ k3⟩
  | true =>
  have HV : Hid (rightM h l V = rightTo h l V h.length) := hid (by rw [HR.out, hrow, hin]; rfl)
  rw [hin] at CW
  clear hrow hin HR
  refine wp_region_held_drew (S := fun wx => OrdB wx B h ∧ RelAt wx w.heap.size 117 V) (by kernel_rfl) (HS.out _ kd) (fun hS0 => ?_)
  refine tG (some 12) 0 ?vg0 rfl rfl (Or.inl ⟨by rfl, ?hg0⟩) hS0 ?rg0
  case hg0 => (intro w hw; have hn := hw.1.cN; go_simp; try (with_reducible rfl))
  try simp only [Act.put, zA, zB, zC]
  refine tG (some 13) 1 ?vg1 rfl rfl (Or.inl ⟨by rfl, ?hg1⟩) hS0 ?rg1
  case hg1 => (intro w hw; have hn := hw.1.cN; go_simp; try (with_reducible rfl))
  try simp only [Act.put, zA, zB, zC]
  refine tG (some 14) 2 ?vg2 rfl rfl (Or.inl ⟨by rfl, ?hg2⟩) hS0 ?rg2
  case hg2 => (intro w hw; have hn := hw.1.cN; go_simp; try (with_reducible rfl))
  try simp only [Act.put, zA, zB, zC]
  refine tG (some 15) 3 ?vg3 rfl rfl (Or.inl ⟨by rfl, ?hg3⟩) hS0 ?rg3
  case hg3 => (intro w hw; have hn := hw.1.cN; go_simp; try (with_reducible rfl))
  try simp only [Act.put, zA, zB, zC]
  refine tG (some 16) 4 ?vg4 rfl rfl (Or.inl ⟨by rfl, ?hg4⟩) hS0 ?rg4
  case hg4 => (intro w hw; have hn := hw.1.cN; go_simp; try (with_reducible rfl))
  try simp only [Act.put, zA, zB, zC]
  refine rD 5 rfl (fun K hK => ?_)
  go_simp
  refine (CR.out _ kd).mono ?_
  rintro e q1 ⟨rfl, rfl⟩
  show K _ _
  refine hK.out _ _ hS0 (fun _ => ?_)
  clear hK K
  refine tA (some 18) 6 rfl rfl hS0 ?_
  try simp only [Act.put, zA, zB, zC]
  refine tA (some 19) 7 rfl rfl hS0 ?_
  try simp only [Act.put, zA, zB, zC]
  refine tG (some 20) 8 _ rfl rfl (yields_rel (by rfl) _ rfl rfl (fun wx hx => hx.2)) hS0 ?_
  try simp only [Act.put, zA, zB, zC]
  refine tA (some 21) 9 rfl rfl hS0 ?_
  try simp only [Act.put, zA, zB, zC]
  refine rD 10 rfl (fun K hK => ?_)
  go_simp
  refine (CC.out _ kd).mono ?_
  rintro e q2 ⟨rfl, hq2⟩
  show K _ _
  have k2 := below_then kd hq2
  have s2 := HS.out _ k2
  refine hK.out _ _ s2 (fun _ => ?_)
  clear hK K
  refine rD 11 rfl (fun K hK => ?_)
  go_simp
  refine (CW.out q2).mono ?_
  rintro e q3 ⟨rfl, hq3⟩
  show K _ _
  have k3 := below_then k2 hq3
  have s3 := HS.out _ k3
  refine hK.out _ _ s3 (fun _ => ?_)
  clear hK K
  refine tA (some 24) 12 rfl rfl s3 ?_
  try simp only [Act.put, zA, zB, zC]
  refine tA (some 25) 13 rfl rfl s3 ?_
  try simp only [Act.put, zA, zB, zC]
  refine wpAnyH_done (by kernel_rfl) ?_ _
  have hO3 := HO.out _ (HB.out _ k3)
  have hRV := s3.2
  have hb3 := HB.out _ k3
  clear kd hS0 k2 s2 s3 k3 CR CC CW HS HB hq2 hq3
  obtain ⟨bm, mm, mc, vk, vr, KK, RR, h1, h2, h3, h4, h5, h6⟩ := hO3
  have hlR : RR.length = h.length := by have := congrArg List.length h6; simpa [readsTo] using this
  have HLR := hid hlR
  have HAT : Hid (∀ i (hi : i < RR.length), RR[i].2 = readsOf h i) := hid (fun i hi => by
   have := congrArg (·[i]?) h6
   simp only [List.getElem?_map, List.getElem?_eq_getElem hi, readsTo, List.getElem?_range (show i < h.length by omega), Option.map_some] at this
   exact Option.some.inj this)
  obtain ⟨ar, cr, rfl⟩ := h4.frws.form
  have hF := h4.frws
  have HFR := hid (fun wx (hx : Below q3.heap.size q3 wx) => hF.below hx)
  have HM := hid (fun wx (hx : Below q3.heap.size q3 wx) => h2.below hx)
  have HOA := hid (fun wx (hx : Below q3.heap.size q3 wx) => h1.below hx h1.lt)
  have HRV := hid (fun wx (hx : Below q3.heap.size q3 wx) => hRV.below hx hRV.lt)
  have HL3 := hid (fun wx (hx : Below q3.heap.size q3 wx) => HL.out wx (hb3.trans (hx.mono hb3.size)))
  have HB3 := hid (fun wx (hx : Below q3.heap.size q3 wx) => hb3.trans (hx.mono hb3.size))
  have HWR : Hid (∀ y, (wrsTo KK KK.length y).getD 0 = wrtN h y) := hid (wrt_eq HC.out h5 h3)
  have c3 := h1.cR
  clear h1 h2 h3 h4 h5 h6 hF hRV hb3 hlR HO HL
  go_wp2_with fail
  clear c3
  go_loopw [31] (fun i wr => ∃ k : Nat, k ≤ RR.length ∧ i = .int .i64 k ∧ rightTo h l V k = true ∧ Below q3.heap.size q3 wr) (fun i _ => RR.length - (intOf i).toNat)
  case atStart => exact ⟨0, by omega, rfl, rfl, Below.refl _ _⟩
  case round =>
   obtain ⟨i, hi, rfl, hrt, hb⟩ := hrel
   have HRT := hid hrt
   clear hrt
   by_cases hlt : i < RR.length
   ·have hki : (i : Int) < (RR.length : Int) := by omega
    have hih : i < h.length := by have := HLR.out; omega
    have hi64 : (i : Int) < 64 := by have := (check_zero HC.out).1; omega
    obtain ⟨g, o, hao, c0, hfr⟩ := (HFR.out _ hb).at hlt
    cases hao
    rw [HAT.out i hlt] at hfr
    have HFI := hid (fun wx (hx : Below wr.heap.size wr wx) => hfr.below hx)
    obtain ⟨ai, ci, hvi, hri⟩ := hfr.form
    rw [hvi] at c0 HFI
    clear hvi hfr
    have y0 := HRV.out _ hb
    go_wp2_with (with_reducible refine wpList_load_rel y0 rfl _ rfl rfl ?_)
    refine (asees_any V (i : Int) _).mono ?_
    rintro e w1 ⟨rfl, hb1⟩
    have hbi := below_then hb hb1
    have HF1 := hid (fun wx (hx : Below w1.heap.size w1 wx) => HFI.out wx (below_then hb1 hx))
    have hset := seeTo_set V (i : Int) 64
    clear y0 c0 HFI hb1
    have HSN : Hid (∃ sn, sn = seeTo V (i : Int) 64) := hid ⟨_, rfl⟩
    obtain ⟨sn, hsn⟩ := HSN.out
    rw [← hsn] at hset ⊢
    have HSN := hid hsn
    clear hsn
    have hb1 := Below.refl w1.heap.size w1
    go_wp2_with fail
    go_loopw [41] (fun j wx => ∃ k : Nat, k ≤ (readsOf h i).length ∧ j = .int .i64 k ∧ readsOk h l V i k = true ∧ Below w1.heap.size w1 wx) (fun j _ => (readsOf h i).length - (intOf j).toNat)
    case atStart => exact ⟨0, by omega, rfl, rfl, hb1⟩
    case round =>
     obtain ⟨k, hk, rfl, hro, hbk⟩ := hrel
     have HRO := hid hro
     clear hro hb1
     by_cases hlk : k < (readsOf h i).length
     ·have hkk : (k : Int) < ((readsOf h i).length : Int) := by omega
      obtain ⟨gk, ok, hao, e0, e1⟩ := (HF1.out _ hbk).at hlk
      cases hao
      have hkey := reads_key HC.out hih (List.getElem_mem hlk)
      have HRD : Hid (readOk h l V i (readsOf h i)[k] = decide (lastI l (sn &&& wrtN h (readsOf h i)[k].1) = (readsOf h i)[k].2)) := hid (by rw [HSN.out]; rfl)
      have HNO := hid (fun hn => readsOk_no (l := l) (V := V) hih hlk hn)
      have HYE := hid (fun hy => readsOk_succ (l := l) (V := V) hlk hy HRO.out)
      generalize readOk h l V i (readsOf h i)[k] = rb at *
      generalize (readsOf h i)[k] = rr at *
      obtain ⟨rk, rf⟩ := rr
      simp only at e0 e1 hkey HRD
      have hkI : InI rk := inI_of (by unfold IntOk; omega)
      have hbq := hbk.alloc hbk.size (.cells #[.int .i64 rk, .int .i64 rf] 133)
      have hbq3 := below_then hbi hbk
      have hbq4 := hbq3.alloc hbq3.size (.cells #[.int .i64 rk, .int .i64 rf] 133)
      obtain ⟨d0, d1⟩ : (wr.alloc (.cells #[.int .i64 rk, .int .i64 rf] 133)).cell? ⟨wr.heap.size, 0, none⟩ = some (.int .i64 rk) ∧ (wr.alloc (.cells #[.int .i64 rk, .int .i64 rf] 133)).cell? ⟨wr.heap.size, 1, none⟩ = some (.int .i64 rf) := by
       constructor <;> (rw [cell_of_row _ _ _ _ _ _ (heap_alloc_new wr _)]; rfl)
      go_upto_region 10 with fail
      clear e0 e1 hbk hbq3
      generalize wr.alloc (.cells #[.int .i64 rk, .int .i64 rf] 133) = w5 at *
      generalize wr.heap.size = q at *
      have kd := (Below.refl w5.heap.size w5).drew
      have hx : Hid (∃ x, x = wrtN h rk) := hid ⟨_, rfl⟩
      obtain ⟨x, hx⟩ := hx.out
      have hxs : IsSet x := by rw [hx]; exact wrtN_set h rk
      have HX := hid hx
      rw [← hx] at HRD
      clear hx
      have HS2 : Hid (∀ wx, Below w5.heap.size w5 wx → RdS B bm q rk rf x wx) := hid (fun wx hx => by
       have hbw := below_then hbq4 hx
       refine ⟨(HOA.out wx hbw).cM, (hx.cell (p := ⟨q, 0, none⟩) (block_lt d0)).trans d0, (hx.cell (p := ⟨q, 1, none⟩) (block_lt d1)).trans d1, ?_⟩
       have hK := lookI_run (t := 118) (el := 115) (w := wx) false keyI mapIS 0 (zeroS _) (HM.out wx hbw) hkI
       rw [HWR.out rk, ← HX.out] at hK
       simpa only [Bool.false_eq_true, if_false, eS] using hK)
      have HAND := hid (Go.bits_and_u64_nat sn x hset hxs)
      have hand := HAND.out
      have CL := hid (fun wx (hx : Below w5.heap.size w5 wx) => alast_any _ l (sn &&& x) wx (isSet_and hset) (HL3.out wx (below_then hbq4 hx)))
      generalize sn &&& x = sx at *
      generalize lastI l sx = lv at *
      have HBK := hid (fun wx (hx : Below w5.heap.size w5 wx) => And.intro (below_then hbq hx) (HB3.out wx (below_then hbq4 hx)))
      clear d0 d1 hbq hbq4 HX HRO
      cases rb with
      | true =>
       have hlv : lv = rf := of_decide_eq_true HRD.out.symm
       rw [hlv] at CL
       clear hlv
       have HY := hid (HYE.out rfl)
       clear HRD HNO HYE
       ·skip
        refine wp_region_held_drew (S := RdS B bm q rk rf x) (by kernel_rfl) (HS2.out _ kd) (fun hS0 => ?_)
        refine tG (some 45) 0 ?vb00 rfl rfl (Or.inl ⟨by rfl, ?hb00⟩) hS0 ?rb00
        case hb00 => (intro w hw; obtain ⟨n0, n1, n2, n3⟩ := hw; go_simp; try (with_reducible rfl))
        try simp only [Act.put, zA, zB, zC]
        refine tG (some 46) 1 ?vb01 rfl rfl (Or.inl ⟨by rfl, ?hb01⟩) hS0 ?rb01
        case hb01 => (intro w hw; obtain ⟨n0, n1, n2, n3⟩ := hw; go_simp; try (with_reducible rfl))
        try simp only [Act.put, zA, zB, zC]
        refine tG (some 47) 2 ?vb02 rfl rfl (Or.inl ⟨by rfl, ?hb02⟩) hS0 ?rb02
        case hb02 => (intro w hw; obtain ⟨n0, n1, n2, n3⟩ := hw; go_simp; try (with_reducible rfl))
        try simp only [Act.put, zA, zB, zC]
        refine tG (some 48) 3 ?vb03 rfl rfl (Or.inl ⟨by rfl, ?hb03⟩) hS0 ?rb03
        case hb03 => (intro w hw; obtain ⟨n0, n1, n2, n3⟩ := hw; go_simp; try (with_reducible rfl))
        try simp only [Act.put, zA, zB, zC]
        refine tG (some 49) 4 ?vb04 rfl rfl (Or.inl ⟨by rfl, ?hb04⟩) hS0 ?rb04
        case hb04 => (intro w hw; obtain ⟨n0, n1, n2, n3⟩ := hw; go_simp; try (with_reducible rfl))
        try simp only [Act.put, zA, zB, zC]
        refine tG (some 50) 5 ?vb05 rfl rfl (Or.inl ⟨by rfl, ?hb05⟩) hS0 ?rb05
        case hb05 => (intro w hw; obtain ⟨n0, n1, n2, n3⟩ := hw; go_simp; try (with_reducible rfl))
        try simp only [Act.put, zA, zB, zC]
        refine tG (some 51) 6 ?vb06 rfl rfl (Or.inl ⟨by rfl, ?hb06⟩) hS0 ?rb06
        case hb06 => (intro w hw; obtain ⟨n0, n1, n2, n3⟩ := hw; go_simp; try (with_reducible rfl))
        try simp only [Act.put, zA, zB, zC]
        refine tG (some 52) 7 ?vb07 rfl rfl (Or.inl ⟨by rfl, ?hb07⟩) hS0 ?rb07
        case hb07 => (intro w hw; obtain ⟨n0, n1, n2, n3⟩ := hw; go_simp; try (with_reducible rfl))
        try simp only [Act.put, zA, zB, zC]
        refine tG (some 53) 8 ?vb08 rfl rfl (Or.inl ⟨by rfl, ?hb08⟩) hS0 ?rb08
        case hb08 => (intro w hw; obtain ⟨n0, n1, n2, n3⟩ := hw; go_simp; try (with_reducible rfl))
        try simp only [Act.put, zA, zB, zC]
        refine tG (some 54) 9 ?vb09 rfl rfl (Or.inl ⟨by rfl, ?hb09⟩) hS0 ?rb09
        case hb09 => (intro w hw; obtain ⟨n0, n1, n2, n3⟩ := hw; go_simp; try (with_reducible rfl))
        try simp only [Act.put, zA, zB, zC]
        refine tG (some 56) 11 ?vb011 rfl rfl (Or.inl ⟨by rfl, ?hb011⟩) hS0 ?rb011
        case hb011 => (intro w hw; obtain ⟨n0, n1, n2, n3⟩ := hw; go_simp; try (with_reducible rfl))
        try simp only [Act.put, zA, zB, zC]
        refine tG (some 57) 12 ?vb012 rfl rfl (Or.inl ⟨by rfl, ?hb012⟩) hS0 ?rb012
        case hb012 => (intro w hw; obtain ⟨n0, n1, n2, n3⟩ := hw; go_simp; try (with_reducible rfl))
        try simp only [Act.put, zA, zB, zC]
        refine rD 10 rfl (fun K hK => ?_)
        go_simp
        refine (CL.out _ kd).mono ?_
        rintro e q2 ⟨rfl, hq2⟩
        show K _ _
        have k2 := below_then kd hq2
        have s2 := HS2.out _ k2
        refine hK.out _ _ s2 (fun _ => ?_)
        clear hK K
        refine tA (some 58) 13 rfl rfl s2 ?_
        try simp only [Act.put, zA, zB, zC]
        refine wpAnyH_done (by kernel_rfl) ?_ _
        obtain ⟨hz1, _⟩ := HBK.out _ k2
        clear HBK CL HS2 s2 k2 kd hS0 hand HAND
        go_wp2_with fail
        go_roundw
        case rel => exact ⟨k + 1, by omega, by go_num, HY.out, hz1⟩
        case measure => simp [intOf]; omega
      | false =>
       have hlv : ¬ lv = rf := of_decide_eq_false HRD.out.symm
       have HY := hid (HNO.out rfl)
       clear HRD HNO HYE
       ·skip
        refine wp_region_held_drew (S := RdS B bm q rk rf x) (by kernel_rfl) (HS2.out _ kd) (fun hS0 => ?_)
        refine tG (some 45) 0 ?vc00 rfl rfl (Or.inl ⟨by rfl, ?hc00⟩) hS0 ?rc00
        case hc00 => (intro w hw; obtain ⟨n0, n1, n2, n3⟩ := hw; go_simp; try (with_reducible rfl))
        try simp only [Act.put, zA, zB, zC]
        refine tG (some 46) 1 ?vc01 rfl rfl (Or.inl ⟨by rfl, ?hc01⟩) hS0 ?rc01
        case hc01 => (intro w hw; obtain ⟨n0, n1, n2, n3⟩ := hw; go_simp; try (with_reducible rfl))
        try simp only [Act.put, zA, zB, zC]
        refine tG (some 47) 2 ?vc02 rfl rfl (Or.inl ⟨by rfl, ?hc02⟩) hS0 ?rc02
        case hc02 => (intro w hw; obtain ⟨n0, n1, n2, n3⟩ := hw; go_simp; try (with_reducible rfl))
        try simp only [Act.put, zA, zB, zC]
        refine tG (some 48) 3 ?vc03 rfl rfl (Or.inl ⟨by rfl, ?hc03⟩) hS0 ?rc03
        case hc03 => (intro w hw; obtain ⟨n0, n1, n2, n3⟩ := hw; go_simp; try (with_reducible rfl))
        try simp only [Act.put, zA, zB, zC]
        refine tG (some 49) 4 ?vc04 rfl rfl (Or.inl ⟨by rfl, ?hc04⟩) hS0 ?rc04
        case hc04 => (intro w hw; obtain ⟨n0, n1, n2, n3⟩ := hw; go_simp; try (with_reducible rfl))
        try simp only [Act.put, zA, zB, zC]
        refine tG (some 50) 5 ?vc05 rfl rfl (Or.inl ⟨by rfl, ?hc05⟩) hS0 ?rc05
        case hc05 => (intro w hw; obtain ⟨n0, n1, n2, n3⟩ := hw; go_simp; try (with_reducible rfl))
        try simp only [Act.put, zA, zB, zC]
        refine tG (some 51) 6 ?vc06 rfl rfl (Or.inl ⟨by rfl, ?hc06⟩) hS0 ?rc06
        case hc06 => (intro w hw; obtain ⟨n0, n1, n2, n3⟩ := hw; go_simp; try (with_reducible rfl))
        try simp only [Act.put, zA, zB, zC]
        refine tG (some 52) 7 ?vc07 rfl rfl (Or.inl ⟨by rfl, ?hc07⟩) hS0 ?rc07
        case hc07 => (intro w hw; obtain ⟨n0, n1, n2, n3⟩ := hw; go_simp; try (with_reducible rfl))
        try simp only [Act.put, zA, zB, zC]
        refine tG (some 53) 8 ?vc08 rfl rfl (Or.inl ⟨by rfl, ?hc08⟩) hS0 ?rc08
        case hc08 => (intro w hw; obtain ⟨n0, n1, n2, n3⟩ := hw; go_simp; try (with_reducible rfl))
        try simp only [Act.put, zA, zB, zC]
        refine tG (some 54) 9 ?vc09 rfl rfl (Or.inl ⟨by rfl, ?hc09⟩) hS0 ?rc09
        case hc09 => (intro w hw; obtain ⟨n0, n1, n2, n3⟩ := hw; go_simp; try (with_reducible rfl))
        try simp only [Act.put, zA, zB, zC]
        refine tG (some 56) 11 ?vc011 rfl rfl (Or.inl ⟨by rfl, ?hc011⟩) hS0 ?rc011
        case hc011 => (intro w hw; obtain ⟨n0, n1, n2, n3⟩ := hw; go_simp; try (with_reducible rfl))
        try simp only [Act.put, zA, zB, zC]
        refine tG (some 57) 12 ?vc012 rfl rfl (Or.inl ⟨by rfl, ?hc012⟩) hS0 ?rc012
        case hc012 => (intro w hw; obtain ⟨n0, n1, n2, n3⟩ := hw; go_simp; try (with_reducible rfl))
        try simp only [Act.put, zA, zB, zC]
        refine rD 10 rfl (fun K hK => ?_)
        go_simp
        refine (CL.out _ kd).mono ?_
        rintro e q2 ⟨rfl, hq2⟩
        show K _ _
        have k2 := below_then kd hq2
        have s2 := HS2.out _ k2
        refine hK.out _ _ s2 (fun _ => ?_)
        clear hK K
        refine tA (some 58) 13 rfl rfl s2 ?_
        try simp only [Act.put, zA, zB, zC]
        refine wpAnyH_done (by kernel_rfl) ?_ _
        obtain ⟨_, hz2⟩ := HBK.out _ k2
        clear HBK CL HS2 s2 k2 kd hS0 hand HAND
        have HVV : Hid (false = rightM h l V) := hid (by rw [HV.out, HY.out])
        go_wp2_with fail
        go_ret
        exact ⟨ret_b HVV.out, hz2⟩
     ·have hk2 : k = (readsOf h i).length := by omega
      subst hk2
      have HY := hid (rightTo_succ HRT.out HRO.out)
      have hbb := below_then hbi hbk
      go_wp2_with fail
      go_roundw
      case rel => exact ⟨i + 1, by omega, by go_num, HY.out, hbb⟩
      case measure => simp [intOf]; omega
   ·have hi2 : i = RR.length := by omega
    subst hi2
    have HVV : Hid (true = rightM h l V) := hid (by rw [HV.out, ← HLR.out, HRT.out])
    have hbz := HB3.out _ hb
    go_wp2_with fail
    go_ret
    exact ⟨ret_b HVV.out, hbz⟩
end

section
open Go.RowKit
def askC (k : Int) (M : Mat) : Array Value := ((Value.int .i64 k) :: (rowsA M).toList).toArray
theorem built_ask (k : Int) (M : Mat) : Tryz.prog.built 284 [(0, .int .i64 k), (1, .agg (rowsA M))] = some (askC k M) := by kernel_rfl
theorem askC_size (k : Int) (M : Mat) : (askC k M).size = 65 := by
 unfold askC; simp [rowsA_size]
theorem infoAsk : (Tryz.prog.info? 284).map (fun i => (i.zero, i.size, i.bytes)) = some (some (.agg ((Value.int .i64 0 :: List.replicate 64 (Value.int .u64 0)).toArray)), 65, 520) := by kernel_rfl
def asksA (M1 M2 M3 M4 M5 M6 : Mat) : Array Value := ((askC 1 M1).toList ++ ((askC 2 M2).toList ++ ((askC 4 M3).toList ++ ((askC 8 M4).toList ++ ((askC 16 M5).toList ++ (askC 32 M6).toList))))).toArray
theorem fill_asks (M1 M2 M3 M4 M5 M6 : Mat) :
  Instr.fill (fun i => some (i * 65, 65)) ((Array.range (6 * 65)).map ((Value.agg ((Value.int .i64 0 :: List.replicate 64 (Value.int .u64 0)).toArray)).cells[· % (Value.agg ((Value.int .i64 0 :: List.replicate 64 (Value.int .u64 0)).toArray)).cells.size]!)) [(0, .agg (askC 1 M1)), (1, .agg (askC 2 M2)), (2, .agg (askC 4 M3)), (3, .agg (askC 8 M4)), (4, .agg (askC 16 M5)), (5, .agg (askC 32 M6))] = some (asksA M1 M2 M3 M4 M5 M6) := by
 kernel_rfl
def bitA (k : Nat) : Nat := [1, 2, 4, 8, 16, 32].getD k 0
theorem ask_at0 (M : Nat → Mat) : ((asksA (M 0) (M 1) (M 2) (M 3) (M 4) (M 5)).extract (0 * 65) (0 * 65 + 65)).toList = (askC ((bitA 0 : Nat) : Int) (M 0)).toList := by kernel_rfl
theorem ask_at1 (M : Nat → Mat) : ((asksA (M 0) (M 1) (M 2) (M 3) (M 4) (M 5)).extract (1 * 65) (1 * 65 + 65)).toList = (askC ((bitA 1 : Nat) : Int) (M 1)).toList := by kernel_rfl
theorem ask_at2 (M : Nat → Mat) : ((asksA (M 0) (M 1) (M 2) (M 3) (M 4) (M 5)).extract (2 * 65) (2 * 65 + 65)).toList = (askC ((bitA 2 : Nat) : Int) (M 2)).toList := by kernel_rfl
theorem ask_at3 (M : Nat → Mat) : ((asksA (M 0) (M 1) (M 2) (M 3) (M 4) (M 5)).extract (3 * 65) (3 * 65 + 65)).toList = (askC ((bitA 3 : Nat) : Int) (M 3)).toList := by kernel_rfl
theorem ask_at4 (M : Nat → Mat) : ((asksA (M 0) (M 1) (M 2) (M 3) (M 4) (M 5)).extract (4 * 65) (4 * 65 + 65)).toList = (askC ((bitA 4 : Nat) : Int) (M 4)).toList := by kernel_rfl
theorem ask_at5 (M : Nat → Mat) : ((asksA (M 0) (M 1) (M 2) (M 3) (M 4) (M 5)).extract (5 * 65) (5 * 65 + 65)).toList = (askC ((bitA 5 : Nat) : Int) (M 5)).toList := by kernel_rfl
theorem ask_at (M : Nat → Mat) : ∀ (k : Nat) (_ : k < 6), ((asksA (M 0) (M 1) (M 2) (M 3) (M 4) (M 5)).extract (k * 65) (k * 65 + 65)).toList = (askC ((bitA k : Nat) : Int) (M k)).toList
 | 0, _ => ask_at0 M
 | 1, _ => ask_at1 M
 | 2, _ => ask_at2 M
 | 3, _ => ask_at3 M
 | 4, _ => ask_at4 M
 | 5, _ => ask_at5 M
 | k + 6, h => absurd h (by omega)
theorem ask_must (k : Int) (M : Mat) : ((askC k M).extract 1 (1 + 64)).toList = (rowsA M).toList := by kernel_rfl
theorem ask_one (k : Int) (M : Mat) : (askC k M).all (·.oneCell') = true := by
 rw [Array.all_eq_true_iff_forall_mem]
 intro v hv
 have : v ∈ (askC k M).toList := by simpa using hv
 unfold askC at this
 rw [List.toList_toArray] at this
 rcases List.mem_cons.1 this with rfl | h
 ·rfl
 ·have := rows_one M
  rw [Array.all_eq_true_iff_forall_mem] at this
  exact this v (by simpa using h)
theorem yields_ask {ops : Array Oper} {S : World → Prop} {o : Oper} {a : Act} {k : Int} {M : Mat} (hw : Region.wanted o (yielded ops a.tmps) = true) (x : Operand) (ho : o.op = .build 284 #[(0, .const (.int .i64 k)), (1, x)])
  (hx : a.eval x = .agg (rowsA M)) : YieldsIf Tryz.prog ops S o (.agg (askC k M)) a :=
 .inl ⟨hw, fun w _ => by
  have h := run_build w 284 #[(0, .int .i64 k), (1, .agg (rowsA M))] _ (built_ask k M)
  unfold execOp
  simp only [ho, Sem.run_bind]
  have e : (#[(0, Operand.const (Value.int .i64 k)), (1, x)].map fun (p : Nat × Operand) => (p.1, a.eval p.2)) = #[(0, Value.int .i64 k), (1, Value.agg (rowsA M))] := by
   rw [List.map_toArray, List.map_cons, List.map_cons, List.map_nil, hx]; rfl
  first | (rw [e, h]; rfl) | (simp only [e, h, Result.andThen_ok]; rfl)⟩
end

section
open Go.RowKit
theorem wp_buildSliceD {P : Program} {o : Oper} {a : Act} {w : World} {K : Act → World → Prop} {Q : Exit → Act → World → Prop} (d : Option Tmp) (hd : o.dst = d) (t e : TypeId) (len : Nat) (parts : Array (Nat × Operand)) (ho : o.op = .buildSlice t len parts)
  (cells : Array Value) (ie : TypeInfo) (z : Value)
  (hu : P.underlying t = some (.slice e)) (hie : P.info? e = some ie) (hz : ie.zero = some z) (hsmall : ¬ len * ie.size > 2 ^ 24) (hpos : ¬ len * ie.size = 0)
  (hf : Instr.fill (fun i => some (i * ie.size, ie.size)) ((Array.range (len * ie.size)).map (z.cells[· % z.cells.size]!)) (parts.map fun (i, x) => (i, a.eval x)).toList = some cells)
  (h : K (a.put d (.slice (some ⟨w.heap.size, 0, none⟩) len len)) (w.alloc (.cells cells e))) : o.wp P a w K Q := by
 subst hd; exact wp_buildSlice t e len parts ho cells ie z hu hie hz hsmall hpos hf h
theorem map6 {f : Nat × Operand → Nat × Value} (a0 a1 a2 a3 a4 a5 : Nat × Operand) : (Array.map f #[a0, a1, a2, a3, a4, a5]).toList = [f a0, f a1, f a2, f a3, f a4, f a5] := by simp
def keptM (h : List TxnV) (A V : Mat) (k : Nat) : Mat := match k with
 | 0 => sesM h
 | 1 => thenR V V
 | 2 => thenR A V
 | 3 => rivM h A
 | 4 => A
 | _ => timM h
def keptTo (M : Nat → Mat) (V : Mat) (k : Nat) : Nat := (List.range k).foldl (fun (s : Nat) (i : Nat) => if inM (M i) V then s ||| bitA i else s) 0
theorem keptTo_succ (M : Nat → Mat) (V : Mat) (k : Nat) : keptTo M V (k + 1) = if inM (M k) V then keptTo M V k ||| bitA k else keptTo M V k := by
 unfold keptTo; rw [List.range_succ, List.foldl_append]; rfl
theorem bitA_lt (k : Nat) : bitA k < 64 := by
 by_cases hk : k < 6
 ·have h : k = 0 ∨ k = 1 ∨ k = 2 ∨ k = 3 ∨ k = 4 ∨ k = 5 := by omega
  rcases h with rfl | rfl | rfl | rfl | rfl | rfl <;> decide
 ·unfold bitA; rw [List.getD_eq_getElem?_getD, List.getElem?_eq_none (by simp; omega)]; decide
theorem keptTo_lt (M : Nat → Mat) (V : Mat) : ∀ k, keptTo M V k < 64
 | 0 => by unfold keptTo; simp
 | k + 1 => by
  rw [keptTo_succ]
  split
  ·exact Nat.or_lt_two_pow (n := 6) (keptTo_lt M V k) (bitA_lt k)
  ·exact keptTo_lt M V k
theorem infoAsk' (k : Int) (M : Mat) : (Tryz.prog.info? 284).map (·.size) = some (askC k M).size := by
 obtain ⟨i, hi, _, h1, _⟩ := info_parts infoAsk
 rw [hi, askC_size]; simp [h1]
theorem wpList_load_ask {ops : Array Oper} {rest : List Oper} {o : Oper} {a : Act} {w : World} {Q : Exit → Act → World → Prop} {g p : Nat} {k : Int} {M : Mat} (h : w.rangeAt g p (askC k M).toList) (hgd : o.guard = none) (x : Operand) (ho : o.op = .load 284 x)
  (hx : a.eval x = .pointer (some ⟨g, p, none⟩)) (hn : wpList Tryz.prog ops Q rest (a.put o.dst (.agg (askC k M))) w) : wpList Tryz.prog ops Q (o :: rest) a w := by
 refine wpList_load_mid hgd 284 x ho g p hx (askC k M).toList _ h Tryz.underlying284 rfl (by rw [Array.length_toList]; exact infoAsk' k M) ?_
 rw [Array.toArray_toList]
 exact hn
theorem ask_block (w : World) : (w.alloc (.cells Tryz.zeroCells284 284)).heap[w.heap.size]? = some (.cells Tryz.zeroCells284 284 (0, 0)) := heap_alloc_new w _
theorem wpList_store_ask {ops : Array Oper} {rest : List Oper} {o : Oper} {a : Act} {w : World} {Q : Exit → Act → World → Prop} {g : Nat} {k : Int} {M : Mat} (h : w.heap[g]? = some (.cells Tryz.zeroCells284 284 (0, 0))) (hgd : o.guard = none) (x y : Operand) (ho : o.op = .store 284 x y)
  (hx : a.eval x = .pointer (some ⟨g, 0, none⟩)) (hy : a.eval y = .agg (askC k M)) (hn : wpList Tryz.prog ops Q rest (a.put o.dst undef) (w.setRow g (askC k M))) : wpList Tryz.prog ops Q (o :: rest) a w :=
 wpList_store_row hgd 284 x y ho g (askC k M) hx hy _ _ h (infoAsk' k M) (by rw [askC_size]; kernel_rfl) (ask_one k M) hn
def keptN (h : List TxnV) (l : List Int) (V : Mat) : Nat := keptTo (keptM h (chainR l) V) V 6
theorem akept_any (va : Value) (l : List Int) (V : Mat) (h : List TxnV) (B b : Nat) (w : World) (hO : OrdIs w B b h) (hc : checkI h = 0) (ht : Tab w) (hl : Ints w va l) :
  Calls Tryz.prog 179 #[.pointer (some ⟨B, 0, none⟩), va, .agg (rowsA V)] w fun e w' => e = .returned (.int .i64 (keptN h l V)) ∧ Below w.heap.size w w' := by
 have hg := ht.pos
 have HT : Hid (∀ wx, Below w.heap.size w wx → Tab wx) := hid (fun wx hb => ht.below hb hg)
 have HO := hid (fun wx (hx : Below w.heap.size w wx) => hO.below hx)
 have HC := hid hc
 obtain ⟨ie, hie, hz0, hz1, hz2⟩ := info_parts infoAsk
 have r0 : RelAt (w.alloc (.cells (rowsA V) 117)) w.heap.size 117 V := RelAt.made w _ _ rfl rfl
 have hb0 := box_below w (.cells (rowsA V) 117)
 have CH := hid (chain_any va l _ (hl.below hb0))
 obtain ⟨ao, cap, rfl, hal⟩ := hl.form
 have HQ : Hid (keptN h l V = keptTo (keptM h (chainR l) V) V 6) := hid rfl
 generalize chainR l = A at *
 clear hO hc ht hl
 go_enter Tryz.func179, Tryz.ntmps179
 go_wp2_with fail
 refine (CH.out).mono ?_
 rintro e w1 ⟨rfl, hb1⟩
 have r0 := r0.below hb1 r0.lt
 have hb2 := below_then hb0 hb1
 clear hb1 hb0 CH
 have hs1 := hb2.size
 have hl0 := r0.lt
 have z7 := zero_block w1
 have r0 := (r0.alloc (.cells #[.int .u64 0, .int .u64 0, .int .u64 0, .int .u64 0, .int .u64 0, .int .u64 0, .int .u64 0, .int .u64 0, .int .u64 0, .int .u64 0, .int .u64 0, .int .u64 0, .int .u64 0, .int .u64 0, .int .u64 0, .int .u64 0, .int .u64 0, .int .u64 0, .int .u64 0, .int .u64 0, .int .u64 0, .int .u64 0, .int .u64 0, .int .u64 0, .int .u64 0, .int .u64 0, .int .u64 0, .int .u64 0, .int .u64 0, .int .u64 0, .int .u64 0, .int .u64 0, .int .u64 0, .int .u64 0, .int .u64 0, .int .u64 0, .int .u64 0, .int .u64 0, .int .u64 0, .int .u64 0, .int .u64 0, .int .u64 0, .int .u64 0, .int .u64 0, .int .u64 0, .int .u64 0, .int .u64 0, .int .u64 0, .int .u64 0, .int .u64 0, .int .u64 0, .int .u64 0, .int .u64 0, .int .u64 0, .int .u64 0, .int .u64 0, .int .u64 0, .int .u64 0, .int .u64 0, .int .u64 0, .int .u64 0, .int .u64 0, .int .u64 0, .int .u64 0] 117)).far (g' := w1.heap.size) (by omega) (rowsA A)
 have hb3 := below_setRow (hb2.alloc hb2.size (.cells #[.int .u64 0, .int .u64 0, .int .u64 0, .int .u64 0, .int .u64 0, .int .u64 0, .int .u64 0, .int .u64 0, .int .u64 0, .int .u64 0, .int .u64 0, .int .u64 0, .int .u64 0, .int .u64 0, .int .u64 0, .int .u64 0, .int .u64 0, .int .u64 0, .int .u64 0, .int .u64 0, .int .u64 0, .int .u64 0, .int .u64 0, .int .u64 0, .int .u64 0, .int .u64 0, .int .u64 0, .int .u64 0, .int .u64 0, .int .u64 0, .int .u64 0, .int .u64 0, .int .u64 0, .int .u64 0, .int .u64 0, .int .u64 0, .int .u64 0, .int .u64 0, .int .u64 0, .int .u64 0, .int .u64 0, .int .u64 0, .int .u64 0, .int .u64 0, .int .u64 0, .int .u64 0, .int .u64 0, .int .u64 0, .int .u64 0, .int .u64 0, .int .u64 0, .int .u64 0, .int .u64 0, .int .u64 0, .int .u64 0, .int .u64 0, .int .u64 0, .int .u64 0, .int .u64 0, .int .u64 0, .int .u64 0, .int .u64 0, .int .u64 0, .int .u64 0] 117)) (g := w1.heap.size) (by omega) (rowsA A)
 clear hb2
 go_upto_region 3 with (with_reducible refine wpList_store_rel z7 A rfl _ _ rfl rfl rfl ?_)
 have z7 := z7.setRow A
 generalize (w1.alloc (.cells #[.int .u64 0, .int .u64 0, .int .u64 0, .int .u64 0, .int .u64 0, .int .u64 0, .int .u64 0, .int .u64 0, .int .u64 0, .int .u64 0, .int .u64 0, .int .u64 0, .int .u64 0, .int .u64 0, .int .u64 0, .int .u64 0, .int .u64 0, .int .u64 0, .int .u64 0, .int .u64 0, .int .u64 0, .int .u64 0, .int .u64 0, .int .u64 0, .int .u64 0, .int .u64 0, .int .u64 0, .int .u64 0, .int .u64 0, .int .u64 0, .int .u64 0, .int .u64 0, .int .u64 0, .int .u64 0, .int .u64 0, .int .u64 0, .int .u64 0, .int .u64 0, .int .u64 0, .int .u64 0, .int .u64 0, .int .u64 0, .int .u64 0, .int .u64 0, .int .u64 0, .int .u64 0, .int .u64 0, .int .u64 0, .int .u64 0, .int .u64 0, .int .u64 0, .int .u64 0, .int .u64 0, .int .u64 0, .int .u64 0, .int .u64 0, .int .u64 0, .int .u64 0, .int .u64 0, .int .u64 0, .int .u64 0, .int .u64 0, .int .u64 0, .int .u64 0] 117)).setRow w1.heap.size (rowsA A) = w3 at *
 generalize hp7 : w1.heap.size = p7 at *
 clear hp7
 have HS : Hid (∀ wx, Below w3.heap.size w3 wx → OrdB wx B h ∧ RelAt wx w.heap.size 117 V ∧ RelAt wx p7 117 A) := hid (fun wx hx => ⟨(HO.out wx (hb3.trans (hx.mono hb3.size))).blk, r0.below hx r0.lt, z7.below hx z7.lt⟩)
 have CT1 := hid (fun wx (hx : Below w3.heap.size w3 wx) => then_any V V wx (HT.out _ (hb3.trans (hx.mono hb3.size))))
 have CT2 := hid (fun wx (hx : Below w3.heap.size w3 wx) => then_any A V wx (HT.out _ (hb3.trans (hx.mono hb3.size))))
 have CR := hid (fun wx (hx : Below w3.heap.size w3 wx) => arivals_any A h B b wx (HO.out wx (hb3.trans (hx.mono hb3.size))) HC.out)
 have HB := hid (fun wx (hx : Below w3.heap.size w3 wx) => hb3.trans (hx.mono hb3.size))
 have kd := (Below.refl w3.heap.size w3).drew
 clear r0 z7 hb3
 refine wp_region_held_drew (S := fun wx => OrdB wx B h ∧ RelAt wx w.heap.size 117 V ∧ RelAt wx p7 117 A) (by kernel_rfl) (HS.out _ kd) (fun hS0 => ?_)
 refine tG (some 13) 0 ?vk0 rfl rfl (Or.inl ⟨by rfl, ?hk0⟩) hS0 ?rk0
 case hk0 => (intro w hw; have hn := hw.1.cN; go_simp; try (with_reducible rfl))
 try simp only [Act.put, zA, zB, zC]
 refine tG (some 14) 1 ?vk1 rfl rfl (Or.inl ⟨by rfl, ?hk1⟩) hS0 ?rk1
 case hk1 => (intro w hw; have hn := hw.1.cN; go_simp; try (with_reducible rfl))
 try simp only [Act.put, zA, zB, zC]
 refine tG (some 15) 2 ?vk2 rfl rfl (Or.inl ⟨by rfl, ?hk2⟩) hS0 ?rk2
 case hk2 => (intro w hw; have hn := hw.1.cN; go_simp; try (with_reducible rfl))
 try simp only [Act.put, zA, zB, zC]
 refine tA (some 39) 26 rfl rfl hS0 ?_
 try simp only [Act.put, zA, zB, zC]
 refine tG (some 16) 3 _ rfl rfl (yields_load_part (by rfl) _ rfl rfl (fun wx hx => hx.1.rS)) hS0 ?_
 try simp only [Act.put, zA, zB, zC]
 refine tG (some 17) 4 _ rfl rfl (yields_ask (k := 1) (by rfl) _ rfl rfl) hS0 ?_
 try simp only [Act.put, zA, zB, zC]
 refine tG (some 18) 5 _ rfl rfl (yields_rel (by rfl) _ rfl rfl (fun wx hx => hx.2.1)) hS0 ?_
 try simp only [Act.put, zA, zB, zC]
 refine tG (some 19) 6 _ rfl rfl (yields_rel (by rfl) _ rfl rfl (fun wx hx => hx.2.1)) hS0 ?_
 try simp only [Act.put, zA, zB, zC]
 refine tG (some 22) 9 _ rfl rfl (yields_rel (by rfl) _ rfl rfl (fun wx hx => hx.2.2)) hS0 ?_
 try simp only [Act.put, zA, zB, zC]
 refine tG (some 23) 10 _ rfl rfl (yields_rel (by rfl) _ rfl rfl (fun wx hx => hx.2.1)) hS0 ?_
 try simp only [Act.put, zA, zB, zC]
 refine tG (some 26) 13 ?vk13 rfl rfl (Or.inl ⟨by rfl, ?hk13⟩) hS0 ?rk13
 case hk13 => (intro w hw; have hn := hw.1.cN; go_simp; try (with_reducible rfl))
 try simp only [Act.put, zA, zB, zC]
 refine tG (some 27) 14 _ rfl rfl (yields_rel (by rfl) _ rfl rfl (fun wx hx => hx.2.2)) hS0 ?_
 try simp only [Act.put, zA, zB, zC]
 refine tG (some 30) 17 _ rfl rfl (yields_rel (by rfl) _ rfl rfl (fun wx hx => hx.2.2)) hS0 ?_
 try simp only [Act.put, zA, zB, zC]
 refine tG (some 31) 18 _ rfl rfl (yields_ask (k := 16) (by rfl) _ rfl rfl) hS0 ?_
 try simp only [Act.put, zA, zB, zC]
 refine tG (some 32) 19 ?vk19 rfl rfl (Or.inl ⟨by rfl, ?hk19⟩) hS0 ?rk19
 case hk19 => (intro w hw; have hn := hw.1.cN; go_simp; try (with_reducible rfl))
 try simp only [Act.put, zA, zB, zC]
 refine tG (some 33) 20 ?vk20 rfl rfl (Or.inl ⟨by rfl, ?hk20⟩) hS0 ?rk20
 case hk20 => (intro w hw; have hn := hw.1.cN; go_simp; try (with_reducible rfl))
 try simp only [Act.put, zA, zB, zC]
 refine tG (some 34) 21 ?vk21 rfl rfl (Or.inl ⟨by rfl, ?hk21⟩) hS0 ?rk21
 case hk21 => (intro w hw; have hn := hw.1.cN; go_simp; try (with_reducible rfl))
 try simp only [Act.put, zA, zB, zC]
 refine tG (some 35) 22 _ rfl rfl (yields_load_part (by rfl) _ rfl rfl (fun wx hx => hx.1.rT)) hS0 ?_
 try simp only [Act.put, zA, zB, zC]
 refine tG (some 36) 23 _ rfl rfl (yields_ask (k := 32) (by rfl) _ rfl rfl) hS0 ?_
 try simp only [Act.put, zA, zB, zC]
 refine rD 7 rfl (fun K hK => ?_)
 go_simp
 refine (CT1.out _ kd).mono ?_
 rintro e q1 ⟨rfl, hq1⟩
 show K _ _
 have k1 := below_then kd hq1
 have s1 := HS.out _ k1
 refine hK.out _ _ s1 (fun _ => ?_)
 clear hK K
 refine tG (some 21) 8 _ rfl rfl (yields_ask (k := 2) (by rfl) _ rfl rfl) s1 ?_
 try simp only [Act.put, zA, zB, zC]
 refine rD 11 rfl (fun K hK => ?_)
 go_simp
 refine (CT2.out _ k1).mono ?_
 rintro e q2 ⟨rfl, hq2⟩
 show K _ _
 have k2 := below_then k1 hq2
 have s2 := HS.out _ k2
 refine hK.out _ _ s2 (fun _ => ?_)
 clear hK K
 refine tG (some 25) 12 _ rfl rfl (yields_ask (k := 4) (by rfl) _ rfl rfl) s2 ?_
 try simp only [Act.put, zA, zB, zC]
 refine rD 15 rfl (fun K hK => ?_)
 go_simp
 refine (CR.out _ k2).mono ?_
 rintro e q3 ⟨rfl, hq3⟩
 show K _ _
 have k3 := below_then k2 hq3
 have s3 := HS.out _ k3
 refine hK.out _ _ s3 (fun _ => ?_)
 clear hK K
 refine tG (some 29) 16 _ rfl rfl (yields_ask (k := 8) (by rfl) _ rfl rfl) s3 ?_
 try simp only [Act.put, zA, zB, zC]
 refine rD 24 rfl (fun K hK => ?_)
 rw [if_pos (by rfl)]
 refine wp_buildSliceD (some 37) rfl 285 284 6 _ rfl (asksA (sesM h) (thenR V V) (thenR A V) (rivM h A) A (timM h)) ie (.agg ((Value.int .i64 0 :: List.replicate 64 (Value.int .u64 0)).toArray)) Tryz.underlying285 hie hz0 (by rw [hz1]; omega) (by rw [hz1]; omega) (by rw [hz1, map6]; exact fill_asks (sesM h) (thenR V V) (thenR A V) (rivM h A) A (timM h)) ?_
 have k4 := k3.alloc k3.size (.cells (asksA (sesM h) (thenR V V) (thenR A V) (rivM h A) A (timM h)) 284)
 have s4 := HS.out _ k4
 refine hK.out _ _ s4 (fun _ => ?_)
 clear hK K
 try simp only [Act.put, zA, zB, zC]
 refine tA (some 38) 25 rfl rfl s4 ?_
 try simp only [Act.put, zA, zB, zC]
 refine wpAnyH_done (by kernel_rfl) ?_ _
 have hbk := heap_alloc_new q3 (.cells (asksA (sesM h) (thenR V V) (thenR A V) (rivM h A) A (timM h)) 284)
 have hb5 := HB.out _ k4
 have hV5 := s4.2.1
 clear kd hS0 k1 s1 k2 s2 k3 s3 k4 s4 HS CT1 CT2 CR HB hq1 hq2 hq3
 generalize q3.alloc (.cells (asksA (sesM h) (thenR V V) (thenR A V) (rivM h A) A (timM h)) 284) = w5 at *
 generalize q3.heap.size = g at *
 have HBK : Hid (∀ wx, Below w5.heap.size w5 wx → ∀ k, k < 6 → wx.rangeAt g (k * 65) (askC ((bitA k : Nat) : Int) (keptM h A V k)).toList) := hid (fun wx hx k hk => by
  have hlt : g < w5.heap.size := by
   by_cases h0 : g < w5.heap.size
   ·exact h0
   ·rw [Array.getElem?_eq_none (Nat.le_of_not_lt h0)] at hbk; cases hbk
  have h1 := (hx.block g hlt).trans hbk
  have h2 := World.rangeAt_of_block h1 (k * 65) 65
  rw [show asksA (sesM h) (thenR V V) (thenR A V) (rivM h A) A (timM h) = asksA (keptM h A V 0) (keptM h A V 1) (keptM h A V 2) (keptM h A V 3) (keptM h A V 4) (keptM h A V 5) from rfl, ask_at (keptM h A V) k hk] at h2
  exact h2)
 have HV5 := hid (fun wx (hx : Below w5.heap.size w5 wx) => hV5.below hx hV5.lt)
 have HB5 := hid (fun wx (hx : Below w5.heap.size w5 wx) => hb5.trans (hx.mono hb5.size))
 have HQ2 : Hid (keptN h l V = keptTo (keptM h A V) V 6) := hid HQ.out
 clear hbk hV5 hb5 HQ
 generalize keptM h A V = M at *
 go_wp2_with fail
 go_loopw [8, 39] (fun s i wr => ∃ k : Nat, k ≤ 6 ∧ i = .int .i64 k ∧ s = .int .i64 ((keptTo M V k : Nat) : Int) ∧ Below w5.heap.size w5 wr) (fun _ i _ => 6 - (intOf i).toNat)
 case atStart => exact ⟨0, by omega, rfl, rfl, Below.refl _ _⟩
 case round =>
  obtain ⟨k, hk, rfl, rfl, hb⟩ := hrel
  by_cases hlt : k < 6
  ·have hki : (k : Int) < 6 := by omega
   have hrg := HBK.out _ hb k hlt
   have hkl := keptTo_lt M V k
   have hbl := bitA_lt k
   have HS := hid (keptTo_succ M V k)
   have hor := i64_or_nat (keptTo M V k) (bitA k) (by omega) (by omega)
   have HOR := hid hor
   have CW := hid (fun wx => withinR_any (M k) V wx)
   have hz := ask_block wr
   have hbz := box_below wr (.cells Tryz.zeroCells284 284)
   have hgr := setRow_heap _ _ _ (askC ((bitA k : Nat) : Int) (M k)) _ _ hz
   have hbg := below_setRow hbz (Nat.le_refl _) (askC ((bitA k : Nat) : Int) (M k))
   have HBF := hid (fun wx (hx : Below ((wr.alloc (.cells Tryz.zeroCells284 284)).setRow wr.heap.size (askC ((bitA k : Nat) : Int) (M k))).heap.size ((wr.alloc (.cells Tryz.zeroCells284 284)).setRow wr.heap.size (askC ((bitA k : Nat) : Int) (M k))) wx) => below_then (below_then hb hbg) hx)
   clear hor hbz hbg
   generalize bitA k = bt1 at *
   generalize M k = Mk at *
   generalize keptTo M V k = kp at *
   go_upto_region 6 with (first | (with_reducible refine wpList_load_ask hrg rfl _ rfl rfl ?_) | (with_reducible refine wpList_store_ask hz rfl _ _ rfl rfl rfl ?_))
   clear hz hrg
   generalize (wr.alloc (.cells Tryz.zeroCells284 284)).setRow wr.heap.size (askC (bt1 : Int) Mk) = w6 at *
   have hrm := World.rangeAt_of_block hgr 1 64
   rw [ask_must] at hrm
   have hc0 : w6.cell? ⟨wr.heap.size, 0, none⟩ = some (.int .i64 bt1) := by rw [cell_of_row _ _ _ _ _ _ hgr]; rfl
   have k0 := Below.refl w6.heap.size w6
   have y5 := HV5.out _ (HBF.out _ k0)
   clear hgr hb
   simp only [Act.put]
   go_wp2_with (first | (with_reducible refine wpList_load_part hrm _ rfl (by kernel_rfl) rfl ?_) | (with_reducible refine wpList_load_rel y5 rfl _ rfl rfl ?_))
   refine (CW.out _).mono ?_
   rintro e w7 ⟨rfl, hb7⟩
   have hc0 := (hb7.cell (p := ⟨wr.heap.size, 0, none⟩) (block_lt hc0)).trans hc0
   have hb8 := HBF.out _ hb7
   clear hrm y5 HBF hb7 k0 CW
   cases hin : inM Mk V with
   | true =>
    have HV := hid (show keptTo M V (k + 1) = kp ||| bt1 by rw [HS.out, hin]; rfl)
    have hor := HOR.out
    clear hin HS HOR
    go_wp2_with fail
    go_roundw
    case rel => exact ⟨k + 1, by omega, by go_num, by rw [HV.out], hb8⟩
    case measure => simp [intOf]; omega
   | false =>
    have HV := hid (show keptTo M V (k + 1) = kp by rw [HS.out, hin]; rfl)
    clear hin HS HOR
    go_wp2_with fail
    go_roundw
    case rel => exact ⟨k + 1, by omega, by go_num, by rw [HV.out], hb8⟩
    case measure => simp [intOf]; omega
  ·have hk6 : k = 6 := by omega
   subst hk6
   have HE := hid HQ2.out.symm
   have hbz := HB5.out _ hb
   go_wp2_with fail
   go_ret
   exact ⟨by rw [← HE.out]; rfl, hbz⟩
end

section
open Go.RowKit
theorem block_lt' {w : World} {a : Addr} {v : Value} (h : w.cell? a = some v) : a.block < w.heap.size := by
 by_cases h0 : a.block < w.heap.size
 ·exact h0
 ·simp [World.cell?, Array.getElem?_eq_none (Nat.le_of_not_lt h0)] at h
theorem Kinds.below {w w' : World} (h : Kinds w) (hb : Below w.heap.size w w') : Kinds w' := fun k hk => by
 obtain ⟨h1, h2⟩ := h k hk
 exact ⟨(hb.cell (block_lt' h1)).trans h1, (hb.cell (block_lt' h2)).trans h2⟩
end

section
open Go.RowKit
def lackN (a b : Nat) : Nat := a ^^^ (a &&& b)
def holdsB (h : List TxnV) (lv : Int) (l : List Int) (V : Mat) : Bool := isLv lv && (soundTo h h.length && (rightM h l V && decide (lackN (askN lv) (keptN h l V) = 0)))
theorem aholds_any (lv : Int) (va : Value) (l : List Int) (V : Mat) (h : List TxnV) (B b : Nat) (w : World) (hO : OrdIs w B b h) (hc : checkI h = 0) (ht : Tab w) (hK : Kinds w) (hl : Ints w va l) :
  Calls Tryz.prog 138 #[.pointer (some ⟨B, 0, none⟩), .int .i64 lv, va, .agg (rowsA V)] w fun e w' => e = .returned (.bool (holdsB h lv l V)) ∧ Below w.heap.size w w' := by
 have hg := ht.pos
 have r0 : RelAt (w.alloc (.cells (rowsA V) 117)) w.heap.size 117 V := RelAt.made w _ _ rfl rfl
 have hb0 := box_below w (.cells (rowsA V) 117)
 have HW := hid (fun wx (hx : Below w.heap.size w wx) => And.intro (hO.below hx) (And.intro (ht.below hx hg) (And.intro (hK.below hx) (hl.below hx))))
 have HC := hid hc
 have HR : Hid (holdsB h lv l V = (isLv lv && (soundTo h h.length && (rightM h l V && decide (lackN (askN lv) (keptN h l V) = 0))))) := hid rfl
 obtain ⟨ao, cap, rfl, hal⟩ := hl.form
 clear hO hc ht hK hl
 go_enter Tryz.func138, Tryz.ntmps138
 go_upto_region 1 with fail
 generalize w.alloc (.cells (rowsA V) 117) = w0 at *
 have HB := hid (fun wx (hx : Below w0.heap.size w0 wx) => hb0.trans (hx.mono hb0.size))
 have HS : Hid (∀ wx, Below w0.heap.size w0 wx → OrdB wx B h ∧ RelAt wx w.heap.size 117 V) := hid (fun wx hx => ⟨(HW.out wx (hb0.trans (hx.mono hb0.size))).1.blk, r0.below hx r0.lt⟩)
 have CI := hid (fun wx => lis_any lv wx)
 have CR := hid (fun wx (hx : Below w0.heap.size w0 wx) => aright_any _ l V h B b wx (HW.out wx (hb0.trans (hx.mono hb0.size))).1 HC.out (HW.out wx (hb0.trans (hx.mono hb0.size))).2.2.2)
 have CA := hid (fun wx (hx : Below w0.heap.size w0 wx) => lasks_any lv wx (HW.out wx (hb0.trans (hx.mono hb0.size))).2.2.1)
 have CK := hid (fun wx (hx : Below w0.heap.size w0 wx) => akept_any _ l V h B b wx (HW.out wx (hb0.trans (hx.mono hb0.size))).1 HC.out (HW.out wx (hb0.trans (hx.mono hb0.size))).2.1 (HW.out wx (hb0.trans (hx.mono hb0.size))).2.2.2)
 have kd := (Below.refl w0.heap.size w0).drew
 have hka := askN_lt lv
 have hkk : keptN h l V < 64 := keptTo_lt _ _ _
 have HLK := hid (i64_andNot_nat (askN lv) (keptN h l V) (by omega) (by omega))
 clear r0 hb0 HW
 generalize rightM h l V = rt at *
 generalize askN lv = na at *
 generalize keptN h l V = nk at *
 generalize isLv lv = il at *
 cases il with
 | false =>
  have HV : Hid (false = holdsB h lv l V) := hid (by rw [HR.out]; rfl)
  clear HR
  refine wp_region_held_drew (S := fun wx => OrdB wx B h ∧ RelAt wx w.heap.size 117 V) (by kernel_rfl) (HS.out _ kd) (fun hS0 => ?_)
  refine tA (some 9) 0 rfl rfl hS0 ?_
  try simp only [Act.put, zA, zB, zC]
  refine rD 1 rfl (fun K hK => ?_)
  go_simp
  refine (CI.out _).mono ?_
  rintro e q1 ⟨rfl, rfl⟩
  show K _ _
  refine hK.out _ _ hS0 (fun _ => ?_)
  clear hK K
  refine tA (some 11) 2 rfl rfl hS0 ?_
  try simp only [Act.put, zA, zB, zC]
  refine tG (some 12) 3 undef rfl rfl (Or.inr ⟨by rfl, rfl⟩) hS0 ?_
  try simp only [Act.put, zA, zB, zC]
  refine tG (some 13) 4 undef rfl rfl (Or.inr ⟨by rfl, rfl⟩) hS0 ?_
  try simp only [Act.put, zA, zB, zC]
  refine tG (some 14) 5 undef rfl rfl (Or.inr ⟨by rfl, rfl⟩) hS0 ?_
  try simp only [Act.put, zA, zB, zC]
  refine tG (some 15) 6 undef rfl rfl (Or.inr ⟨by rfl, rfl⟩) hS0 ?_
  try simp only [Act.put, zA, zB, zC]
  refine tA (some 16) 7 rfl rfl hS0 ?_
  try simp only [Act.put, zA, zB, zC]
  refine tA (some 17) 8 rfl rfl hS0 ?_
  try simp only [Act.put, zA, zB, zC]
  refine tG (some 18) 9 undef rfl rfl (Or.inr ⟨by rfl, rfl⟩) hS0 ?_
  try simp only [Act.put, zA, zB, zC]
  refine tG (some 19) 10 undef rfl rfl (Or.inr ⟨by rfl, rfl⟩) hS0 ?_
  try simp only [Act.put, zA, zB, zC]
  refine tG (some 20) 11 undef rfl rfl (Or.inr ⟨by rfl, rfl⟩) hS0 ?_
  try simp only [Act.put, zA, zB, zC]
  refine tG (some 21) 12 undef rfl rfl (Or.inr ⟨by rfl, rfl⟩) hS0 ?_
  try simp only [Act.put, zA, zB, zC]
  refine tA (some 22) 13 rfl rfl hS0 ?_
  try simp only [Act.put, zA, zB, zC]
  refine tA (some 23) 14 rfl rfl hS0 ?_
  try simp only [Act.put, zA, zB, zC]
  refine tG (some 24) 15 undef rfl rfl (Or.inr ⟨by rfl, rfl⟩) hS0 ?_
  try simp only [Act.put, zA, zB, zC]
  refine tG (some 25) 16 undef rfl rfl (Or.inr ⟨by rfl, rfl⟩) hS0 ?_
  try simp only [Act.put, zA, zB, zC]
  refine tG (some 26) 17 undef rfl rfl (Or.inr ⟨by rfl, rfl⟩) hS0 ?_
  try simp only [Act.put, zA, zB, zC]
  refine tG (some 27) 18 undef rfl rfl (Or.inr ⟨by rfl, rfl⟩) hS0 ?_
  try simp only [Act.put, zA, zB, zC]
  refine tG (some 28) 19 undef rfl rfl (Or.inr ⟨by rfl, rfl⟩) hS0 ?_
  try simp only [Act.put, zA, zB, zC]
  refine tG (some 29) 20 undef rfl rfl (Or.inr ⟨by rfl, rfl⟩) hS0 ?_
  try simp only [Act.put, zA, zB, zC]
  refine tG (some 30) 21 undef rfl rfl (Or.inr ⟨by rfl, rfl⟩) hS0 ?_
  try simp only [Act.put, zA, zB, zC]
  refine tG (some 31) 22 undef rfl rfl (Or.inr ⟨by rfl, rfl⟩) hS0 ?_
  try simp only [Act.put, zA, zB, zC]
  refine tA (some 32) 23 rfl rfl hS0 ?_
  try simp only [Act.put, zA, zB, zC]
  refine tA (some 8) 24 rfl rfl hS0 ?_
  try simp only [Act.put, zA, zB, zC]
  refine wpAnyH_done (by kernel_rfl) ?_ _
  go_wp2_with fail
  go_ret
  exact ⟨ret_b HV.out, HB.out _ kd⟩
 | true =>
 cases hsd : soundTo h h.length with
 | false =>
  have HSD := hid hsd
  have HV : Hid (false = holdsB h lv l V) := hid (by rw [HR.out, hsd]; rfl)
  clear hsd
  clear HR
  refine wp_region_held_drew (S := fun wx => OrdB wx B h ∧ RelAt wx w.heap.size 117 V) (by kernel_rfl) (HS.out _ kd) (fun hS0 => ?_)
  refine tA (some 9) 0 rfl rfl hS0 ?_
  try simp only [Act.put, zA, zB, zC]
  refine rD 1 rfl (fun K hK => ?_)
  go_simp
  refine (CI.out _).mono ?_
  rintro e q1 ⟨rfl, rfl⟩
  show K _ _
  refine hK.out _ _ hS0 (fun _ => ?_)
  clear hK K
  refine tA (some 11) 2 rfl rfl hS0 ?_
  try simp only [Act.put, zA, zB, zC]
  refine tG (some 12) 3 ?vb3 rfl rfl (Or.inl ⟨by rfl, ?hb3⟩) hS0 ?rb3
  case hb3 => (intro w hw; have hn := hw.1.cS; rw [HSD.out] at hn; have hm := hw.1.cN; go_simp; try (with_reducible rfl))
  try simp only [Act.put, zA, zB, zC]
  refine tG (some 13) 4 ?vb4 rfl rfl (Or.inl ⟨by rfl, ?hb4⟩) hS0 ?rb4
  case hb4 => (intro w hw; have hn := hw.1.cS; rw [HSD.out] at hn; have hm := hw.1.cN; go_simp; try (with_reducible rfl))
  try simp only [Act.put, zA, zB, zC]
  refine tG (some 14) 5 ?vb5 rfl rfl (Or.inl ⟨by rfl, ?hb5⟩) hS0 ?rb5
  case hb5 => (intro w hw; have hn := hw.1.cS; rw [HSD.out] at hn; have hm := hw.1.cN; go_simp; try (with_reducible rfl))
  try simp only [Act.put, zA, zB, zC]
  refine tG (some 15) 6 ?vb6 rfl rfl (Or.inl ⟨by rfl, ?hb6⟩) hS0 ?rb6
  case hb6 => (intro w hw; have hn := hw.1.cS; rw [HSD.out] at hn; have hm := hw.1.cN; go_simp; try (with_reducible rfl))
  try simp only [Act.put, zA, zB, zC]
  refine tA (some 16) 7 rfl rfl hS0 ?_
  try simp only [Act.put, zA, zB, zC]
  refine tA (some 17) 8 rfl rfl hS0 ?_
  try simp only [Act.put, zA, zB, zC]
  refine tG (some 18) 9 undef rfl rfl (Or.inr ⟨by rfl, rfl⟩) hS0 ?_
  try simp only [Act.put, zA, zB, zC]
  refine tG (some 19) 10 undef rfl rfl (Or.inr ⟨by rfl, rfl⟩) hS0 ?_
  try simp only [Act.put, zA, zB, zC]
  refine tG (some 20) 11 undef rfl rfl (Or.inr ⟨by rfl, rfl⟩) hS0 ?_
  try simp only [Act.put, zA, zB, zC]
  refine tG (some 21) 12 undef rfl rfl (Or.inr ⟨by rfl, rfl⟩) hS0 ?_
  try simp only [Act.put, zA, zB, zC]
  refine tA (some 22) 13 rfl rfl hS0 ?_
  try simp only [Act.put, zA, zB, zC]
  refine tA (some 23) 14 rfl rfl hS0 ?_
  try simp only [Act.put, zA, zB, zC]
  refine tG (some 24) 15 undef rfl rfl (Or.inr ⟨by rfl, rfl⟩) hS0 ?_
  try simp only [Act.put, zA, zB, zC]
  refine tG (some 25) 16 undef rfl rfl (Or.inr ⟨by rfl, rfl⟩) hS0 ?_
  try simp only [Act.put, zA, zB, zC]
  refine tG (some 26) 17 undef rfl rfl (Or.inr ⟨by rfl, rfl⟩) hS0 ?_
  try simp only [Act.put, zA, zB, zC]
  refine tG (some 27) 18 undef rfl rfl (Or.inr ⟨by rfl, rfl⟩) hS0 ?_
  try simp only [Act.put, zA, zB, zC]
  refine tG (some 28) 19 undef rfl rfl (Or.inr ⟨by rfl, rfl⟩) hS0 ?_
  try simp only [Act.put, zA, zB, zC]
  refine tG (some 29) 20 undef rfl rfl (Or.inr ⟨by rfl, rfl⟩) hS0 ?_
  try simp only [Act.put, zA, zB, zC]
  refine tG (some 30) 21 undef rfl rfl (Or.inr ⟨by rfl, rfl⟩) hS0 ?_
  try simp only [Act.put, zA, zB, zC]
  refine tG (some 31) 22 undef rfl rfl (Or.inr ⟨by rfl, rfl⟩) hS0 ?_
  try simp only [Act.put, zA, zB, zC]
  refine tA (some 32) 23 rfl rfl hS0 ?_
  try simp only [Act.put, zA, zB, zC]
  refine tA (some 8) 24 rfl rfl hS0 ?_
  try simp only [Act.put, zA, zB, zC]
  refine wpAnyH_done (by kernel_rfl) ?_ _
  go_wp2_with fail
  go_ret
  exact ⟨ret_b HV.out, HB.out _ kd⟩
 | true =>
 have HSD := hid hsd
 cases rt with
 | false =>
  have HV : Hid (false = holdsB h lv l V) := hid (by rw [HR.out, hsd]; rfl)
  clear hsd
  clear HR
  refine wp_region_held_drew (S := fun wx => OrdB wx B h ∧ RelAt wx w.heap.size 117 V) (by kernel_rfl) (HS.out _ kd) (fun hS0 => ?_)
  refine tA (some 9) 0 rfl rfl hS0 ?_
  try simp only [Act.put, zA, zB, zC]
  refine rD 1 rfl (fun K hK => ?_)
  go_simp
  refine (CI.out _).mono ?_
  rintro e q1 ⟨rfl, rfl⟩
  show K _ _
  refine hK.out _ _ hS0 (fun _ => ?_)
  clear hK K
  refine tA (some 11) 2 rfl rfl hS0 ?_
  try simp only [Act.put, zA, zB, zC]
  refine tG (some 12) 3 ?vc3 rfl rfl (Or.inl ⟨by rfl, ?hc3⟩) hS0 ?rc3
  case hc3 => (intro w hw; have hn := hw.1.cS; rw [HSD.out] at hn; have hm := hw.1.cN; go_simp; try (with_reducible rfl))
  try simp only [Act.put, zA, zB, zC]
  refine tG (some 13) 4 ?vc4 rfl rfl (Or.inl ⟨by rfl, ?hc4⟩) hS0 ?rc4
  case hc4 => (intro w hw; have hn := hw.1.cS; rw [HSD.out] at hn; have hm := hw.1.cN; go_simp; try (with_reducible rfl))
  try simp only [Act.put, zA, zB, zC]
  refine tG (some 14) 5 ?vc5 rfl rfl (Or.inl ⟨by rfl, ?hc5⟩) hS0 ?rc5
  case hc5 => (intro w hw; have hn := hw.1.cS; rw [HSD.out] at hn; have hm := hw.1.cN; go_simp; try (with_reducible rfl))
  try simp only [Act.put, zA, zB, zC]
  refine tG (some 15) 6 ?vc6 rfl rfl (Or.inl ⟨by rfl, ?hc6⟩) hS0 ?rc6
  case hc6 => (intro w hw; have hn := hw.1.cS; rw [HSD.out] at hn; have hm := hw.1.cN; go_simp; try (with_reducible rfl))
  try simp only [Act.put, zA, zB, zC]
  refine tA (some 16) 7 rfl rfl hS0 ?_
  try simp only [Act.put, zA, zB, zC]
  refine tA (some 17) 8 rfl rfl hS0 ?_
  try simp only [Act.put, zA, zB, zC]
  refine tA (some 18) 9 rfl rfl hS0 ?_
  try simp only [Act.put, zA, zB, zC]
  refine tA (some 19) 10 rfl rfl hS0 ?_
  try simp only [Act.put, zA, zB, zC]
  refine tG (some 20) 11 _ rfl rfl (yields_rel (by rfl) _ rfl rfl (fun wx hx => hx.2)) hS0 ?_
  try simp only [Act.put, zA, zB, zC]
  refine rD 12 rfl (fun K hK => ?_)
  go_simp
  refine (CR.out _ kd).mono ?_
  rintro e q2 ⟨rfl, hq2⟩
  show K _ _
  have k2 := below_then kd hq2
  have s2 := HS.out _ k2
  refine hK.out _ _ s2 (fun _ => ?_)
  clear hK K
  refine tA (some 22) 13 rfl rfl s2 ?_
  try simp only [Act.put, zA, zB, zC]
  refine tA (some 23) 14 rfl rfl s2 ?_
  try simp only [Act.put, zA, zB, zC]
  refine tG (some 24) 15 undef rfl rfl (Or.inr ⟨by rfl, rfl⟩) s2 ?_
  try simp only [Act.put, zA, zB, zC]
  refine tG (some 25) 16 undef rfl rfl (Or.inr ⟨by rfl, rfl⟩) s2 ?_
  try simp only [Act.put, zA, zB, zC]
  refine tG (some 26) 17 undef rfl rfl (Or.inr ⟨by rfl, rfl⟩) s2 ?_
  try simp only [Act.put, zA, zB, zC]
  refine tG (some 27) 18 undef rfl rfl (Or.inr ⟨by rfl, rfl⟩) s2 ?_
  try simp only [Act.put, zA, zB, zC]
  refine tG (some 28) 19 undef rfl rfl (Or.inr ⟨by rfl, rfl⟩) s2 ?_
  try simp only [Act.put, zA, zB, zC]
  refine tG (some 29) 20 undef rfl rfl (Or.inr ⟨by rfl, rfl⟩) s2 ?_
  try simp only [Act.put, zA, zB, zC]
  refine tG (some 30) 21 undef rfl rfl (Or.inr ⟨by rfl, rfl⟩) s2 ?_
  try simp only [Act.put, zA, zB, zC]
  refine tG (some 31) 22 undef rfl rfl (Or.inr ⟨by rfl, rfl⟩) s2 ?_
  try simp only [Act.put, zA, zB, zC]
  refine tA (some 32) 23 rfl rfl s2 ?_
  try simp only [Act.put, zA, zB, zC]
  refine tA (some 8) 24 rfl rfl s2 ?_
  try simp only [Act.put, zA, zB, zC]
  refine wpAnyH_done (by kernel_rfl) ?_ _
  go_wp2_with fail
  go_ret
  exact ⟨ret_b HV.out, HB.out _ k2⟩
 | true =>
 by_cases h0 : lackN na nk = 0
 ·have HV : Hid (true = holdsB h lv l V) := hid (by rw [HR.out, hsd, decide_eq_true h0]; rfl)
  have hlk : bits .andNot .i64 (na : Int) (nk : Int) = 0 := by rw [HLK.out]; exact congrArg Nat.cast h0
  clear HR h0 hsd
  refine wp_region_held_drew (S := fun wx => OrdB wx B h ∧ RelAt wx w.heap.size 117 V) (by kernel_rfl) (HS.out _ kd) (fun hS0 => ?_)
  refine tA (some 9) 0 rfl rfl hS0 ?_
  try simp only [Act.put, zA, zB, zC]
  refine rD 1 rfl (fun K hK => ?_)
  go_simp
  refine (CI.out _).mono ?_
  rintro e q1 ⟨rfl, rfl⟩
  show K _ _
  refine hK.out _ _ hS0 (fun _ => ?_)
  clear hK K
  refine tA (some 11) 2 rfl rfl hS0 ?_
  try simp only [Act.put, zA, zB, zC]
  refine tG (some 12) 3 ?vd3 rfl rfl (Or.inl ⟨by rfl, ?hd3⟩) hS0 ?rd3
  case hd3 => (intro w hw; have hn := hw.1.cS; rw [HSD.out] at hn; have hm := hw.1.cN; go_simp; try (with_reducible rfl))
  try simp only [Act.put, zA, zB, zC]
  refine tG (some 13) 4 ?vd4 rfl rfl (Or.inl ⟨by rfl, ?hd4⟩) hS0 ?rd4
  case hd4 => (intro w hw; have hn := hw.1.cS; rw [HSD.out] at hn; have hm := hw.1.cN; go_simp; try (with_reducible rfl))
  try simp only [Act.put, zA, zB, zC]
  refine tG (some 14) 5 ?vd5 rfl rfl (Or.inl ⟨by rfl, ?hd5⟩) hS0 ?rd5
  case hd5 => (intro w hw; have hn := hw.1.cS; rw [HSD.out] at hn; have hm := hw.1.cN; go_simp; try (with_reducible rfl))
  try simp only [Act.put, zA, zB, zC]
  refine tG (some 15) 6 ?vd6 rfl rfl (Or.inl ⟨by rfl, ?hd6⟩) hS0 ?rd6
  case hd6 => (intro w hw; have hn := hw.1.cS; rw [HSD.out] at hn; have hm := hw.1.cN; go_simp; try (with_reducible rfl))
  try simp only [Act.put, zA, zB, zC]
  refine tA (some 16) 7 rfl rfl hS0 ?_
  try simp only [Act.put, zA, zB, zC]
  refine tA (some 17) 8 rfl rfl hS0 ?_
  try simp only [Act.put, zA, zB, zC]
  refine tA (some 18) 9 rfl rfl hS0 ?_
  try simp only [Act.put, zA, zB, zC]
  refine tA (some 19) 10 rfl rfl hS0 ?_
  try simp only [Act.put, zA, zB, zC]
  refine tG (some 20) 11 _ rfl rfl (yields_rel (by rfl) _ rfl rfl (fun wx hx => hx.2)) hS0 ?_
  try simp only [Act.put, zA, zB, zC]
  refine rD 12 rfl (fun K hK => ?_)
  go_simp
  refine (CR.out _ kd).mono ?_
  rintro e q2 ⟨rfl, hq2⟩
  show K _ _
  have k2 := below_then kd hq2
  have s2 := HS.out _ k2
  refine hK.out _ _ s2 (fun _ => ?_)
  clear hK K
  refine tA (some 22) 13 rfl rfl s2 ?_
  try simp only [Act.put, zA, zB, zC]
  refine tA (some 23) 14 rfl rfl s2 ?_
  try simp only [Act.put, zA, zB, zC]
  refine tA (some 24) 15 rfl rfl s2 ?_
  try simp only [Act.put, zA, zB, zC]
  refine tA (some 26) 17 rfl rfl s2 ?_
  try simp only [Act.put, zA, zB, zC]
  refine tA (some 27) 18 rfl rfl s2 ?_
  try simp only [Act.put, zA, zB, zC]
  refine tG (some 28) 19 _ rfl rfl (yields_rel (by rfl) _ rfl rfl (fun wx hx => hx.2)) s2 ?_
  try simp only [Act.put, zA, zB, zC]
  refine rD 16 rfl (fun K hK => ?_)
  go_simp
  refine (CA.out _ k2).mono ?_
  rintro e q3 ⟨rfl, rfl⟩
  show K _ _
  refine hK.out _ _ s2 (fun _ => ?_)
  clear hK K
  refine rD 20 rfl (fun K hK => ?_)
  go_simp
  refine (CK.out _ k2).mono ?_
  rintro e q4 ⟨rfl, hq4⟩
  show K _ _
  have k4 := below_then k2 hq4
  have s4 := HS.out _ k4
  refine hK.out _ _ s4 (fun _ => ?_)
  clear hK K
  refine tA (some 30) 21 rfl rfl s4 ?_
  try simp only [Act.put, zA, zB, zC]
  refine tA (some 31) 22 rfl rfl s4 ?_
  try simp only [Act.put, zA, zB, zC]
  refine tA (some 32) 23 rfl rfl s4 ?_
  try simp only [Act.put, zA, zB, zC]
  refine tA (some 8) 24 rfl rfl s4 ?_
  try simp only [Act.put, zA, zB, zC]
  refine wpAnyH_done (by kernel_rfl) ?_ _
  go_wp2_with fail
  go_ret
  exact ⟨ret_b HV.out, HB.out _ k4⟩
 ·have HV : Hid (false = holdsB h lv l V) := hid (by rw [HR.out, hsd, decide_eq_false h0]; rfl)
  obtain ⟨z, hz⟩ : ∃ z, z = lackN na nk := ⟨_, rfl⟩
  have hlk : bits .andNot .i64 (na : Int) (nk : Int) = (z : Int) := by rw [HLK.out, hz]; rfl
  have hz0 : ¬ (z : Int) = 0 := by rw [hz]; omega
  clear HR h0 hz hsd
  refine wp_region_held_drew (S := fun wx => OrdB wx B h ∧ RelAt wx w.heap.size 117 V) (by kernel_rfl) (HS.out _ kd) (fun hS0 => ?_)
  refine tA (some 9) 0 rfl rfl hS0 ?_
  try simp only [Act.put, zA, zB, zC]
  refine rD 1 rfl (fun K hK => ?_)
  go_simp
  refine (CI.out _).mono ?_
  rintro e q1 ⟨rfl, rfl⟩
  show K _ _
  refine hK.out _ _ hS0 (fun _ => ?_)
  clear hK K
  refine tA (some 11) 2 rfl rfl hS0 ?_
  try simp only [Act.put, zA, zB, zC]
  refine tG (some 12) 3 ?ve3 rfl rfl (Or.inl ⟨by rfl, ?he3⟩) hS0 ?re3
  case he3 => (intro w hw; have hn := hw.1.cS; rw [HSD.out] at hn; have hm := hw.1.cN; go_simp; try (with_reducible rfl))
  try simp only [Act.put, zA, zB, zC]
  refine tG (some 13) 4 ?ve4 rfl rfl (Or.inl ⟨by rfl, ?he4⟩) hS0 ?re4
  case he4 => (intro w hw; have hn := hw.1.cS; rw [HSD.out] at hn; have hm := hw.1.cN; go_simp; try (with_reducible rfl))
  try simp only [Act.put, zA, zB, zC]
  refine tG (some 14) 5 ?ve5 rfl rfl (Or.inl ⟨by rfl, ?he5⟩) hS0 ?re5
  case he5 => (intro w hw; have hn := hw.1.cS; rw [HSD.out] at hn; have hm := hw.1.cN; go_simp; try (with_reducible rfl))
  try simp only [Act.put, zA, zB, zC]
  refine tG (some 15) 6 ?ve6 rfl rfl (Or.inl ⟨by rfl, ?he6⟩) hS0 ?re6
  case he6 => (intro w hw; have hn := hw.1.cS; rw [HSD.out] at hn; have hm := hw.1.cN; go_simp; try (with_reducible rfl))
  try simp only [Act.put, zA, zB, zC]
  refine tA (some 16) 7 rfl rfl hS0 ?_
  try simp only [Act.put, zA, zB, zC]
  refine tA (some 17) 8 rfl rfl hS0 ?_
  try simp only [Act.put, zA, zB, zC]
  refine tA (some 18) 9 rfl rfl hS0 ?_
  try simp only [Act.put, zA, zB, zC]
  refine tA (some 19) 10 rfl rfl hS0 ?_
  try simp only [Act.put, zA, zB, zC]
  refine tG (some 20) 11 _ rfl rfl (yields_rel (by rfl) _ rfl rfl (fun wx hx => hx.2)) hS0 ?_
  try simp only [Act.put, zA, zB, zC]
  refine rD 12 rfl (fun K hK => ?_)
  go_simp
  refine (CR.out _ kd).mono ?_
  rintro e q2 ⟨rfl, hq2⟩
  show K _ _
  have k2 := below_then kd hq2
  have s2 := HS.out _ k2
  refine hK.out _ _ s2 (fun _ => ?_)
  clear hK K
  refine tA (some 22) 13 rfl rfl s2 ?_
  try simp only [Act.put, zA, zB, zC]
  refine tA (some 23) 14 rfl rfl s2 ?_
  try simp only [Act.put, zA, zB, zC]
  refine tA (some 24) 15 rfl rfl s2 ?_
  try simp only [Act.put, zA, zB, zC]
  refine tA (some 26) 17 rfl rfl s2 ?_
  try simp only [Act.put, zA, zB, zC]
  refine tA (some 27) 18 rfl rfl s2 ?_
  try simp only [Act.put, zA, zB, zC]
  refine tG (some 28) 19 _ rfl rfl (yields_rel (by rfl) _ rfl rfl (fun wx hx => hx.2)) s2 ?_
  try simp only [Act.put, zA, zB, zC]
  refine rD 16 rfl (fun K hK => ?_)
  go_simp
  refine (CA.out _ k2).mono ?_
  rintro e q3 ⟨rfl, rfl⟩
  show K _ _
  refine hK.out _ _ s2 (fun _ => ?_)
  clear hK K
  refine rD 20 rfl (fun K hK => ?_)
  go_simp
  refine (CK.out _ k2).mono ?_
  rintro e q4 ⟨rfl, hq4⟩
  show K _ _
  have k4 := below_then k2 hq4
  have s4 := HS.out _ k4
  refine hK.out _ _ s4 (fun _ => ?_)
  clear hK K
  refine tA (some 30) 21 rfl rfl s4 ?_
  try simp only [Act.put, zA, zB, zC]
  refine tA (some 31) 22 rfl rfl s4 ?_
  try simp only [Act.put, zA, zB, zC]
  refine tA (some 32) 23 rfl rfl s4 ?_
  try simp only [Act.put, zA, zB, zC]
  refine tA (some 8) 24 rfl rfl s4 ?_
  try simp only [Act.put, zA, zB, zC]
  refine wpAnyH_done (by kernel_rfl) ?_ _
  go_wp2_with fail
  go_ret
  exact ⟨ret_b (((beq_eq_false_iff_ne).2 hz0).trans HV.out), HB.out _ k4⟩
end

section
theorem must_mono {S S' A : Mat} {tr tr' pf pf' : Bool} (hS : ∀ i j, S i j = true → S' i j = true) (ht : tr = true → tr' = true) (hp : pf = true → pf' = true) {i j : Nat} (h : Must S A tr pf i j) : Must S' A tr' pf' i j := by
 induction h with
 | base h => exact .base (hS _ _ h)
 | trans h1 hm _ _ ih1 ih2 => exact .trans (ht h1) hm ih1 ih2
 | pre h1 hm ha _ ih => exact .pre (hp h1) hm ha ih
theorem must_in {S A : Mat} {tr pf : Bool} {V : Nat → Nat → Prop} (hS : ∀ i j, i < 64 → j < 64 → S i j = true → V i j) (ht : tr = true → ∀ i m j, i < 64 → m < 64 → j < 64 → V i m → V m j → V i j)
  (hp : pf = true → ∀ i m j, i < 64 → m < 64 → j < 64 → A i m = true → V m j → V i j) {i j : Nat} (h : Must S A tr pf i j) (hi : i < 64) (hj : j < 64) : V i j := by
 induction h with
 | base h => exact hS _ _ hi hj h
 | trans h1 hm _ _ ih1 ih2 => exact ht h1 _ _ _ hi hm hj (ih1 hi hm) (ih2 hm hj)
 | pre h1 hm ha _ ih => exact hp h1 _ _ _ hi hm hj ha (ih hm hj)
theorem must_closed {S S' A : Mat} {tr tr' pf pf' tot : Bool} (hA : ∀ i j, i < 64 → j < 64 → Must S A tr pf i j → A i j = true) (hAt : ∀ i m j, i < 64 → m < 64 → j < 64 → A i m = true → A m j = true → A i j = true)
  (htot : tot = true → ∀ i j, i < 64 → j < 64 → A i j = true → S i j = true) (hS : ∀ i j, i < 64 → j < 64 → S' i j = true → S i j = true ∨ (tot = true ∧ A i j = true))
  (ht : tr' = true → tr = true ∨ pf = true ∨ tot = true) (hp : pf' = true → pf = true ∨ tot = true) {i j : Nat} (h : Must S' A tr' pf' i j) (hi : i < 64) (hj : j < 64) : Must S A tr pf i j := by
 refine must_in (V := fun i j => Must S A tr pf i j) ?_ ?_ ?_ h hi hj
 ·intro i j hi hj h
  rcases hS i j hi hj h with h | ⟨h1, h2⟩
  ·exact .base h
  ·exact .base (htot h1 i j hi hj h2)
 ·intro h i m j hi hm hj h1 h2
  rcases ht h with h | h | h
  ·exact .trans h hm h1 h2
  ·exact .pre h hm (hA i m hi hm h1) h2
  ·exact .base (htot h i j hi hj (hAt i m j hi hm hj (hA i m hi hm h1) (hA m j hm hj h2)))
 ·intro h i m j hi hm hj h1 h2
  rcases hp h with h | h
  ·exact .pre h hm h1 h2
  ·exact .base (htot h i j hi hj (hAt i m j hi hm hj h1 (hA m j hm hj h2)))
end

section
open Go.RowKit
def Ahead : List Int → Int → Int → Prop
 | [], _, _ => False
 | c :: L, a, b => Ahead L a b ∨ (c = a ∧ b ∈ L)
theorem Ahead.mem {a b : Int} : ∀ {L : List Int}, Ahead L a b → a ∈ L ∧ b ∈ L
 | [], h => h.elim
 | c :: L, h => by
  rcases h with h | ⟨rfl, h⟩
  ·exact ⟨List.mem_cons_of_mem _ (Ahead.mem h).1, List.mem_cons_of_mem _ (Ahead.mem h).2⟩
  ·exact ⟨List.mem_cons_self, List.mem_cons_of_mem _ h⟩
theorem ahead_at {a b : Int} : ∀ {L : List Int}, Ahead L a b ↔ ∃ i, i < L.length ∧ L.getD i 0 = a ∧ b ∈ L.drop (i + 1)
 | [] => by simp [Ahead]
 | c :: L => by
  unfold Ahead
  rw [ahead_at]
  constructor
  ·rintro (⟨i, hi, h1, h2⟩ | ⟨rfl, h⟩)
   ·exact ⟨i + 1, by simpa using hi, by simpa using h1, by simpa using h2⟩
   ·exact ⟨0, by simp, by simp, by simpa using h⟩
  ·rintro ⟨i, hi, h1, h2⟩
   cases i with
   | zero => exact .inr ⟨by simpa using h1, by simpa using h2⟩
   | succ i => exact .inl ⟨i, by simpa using hi, by simpa using h1, by simpa using h2⟩
theorem Ahead.trans {a m b : Int} : ∀ {L : List Int}, Ahead L a m → Ahead L m b → ¬ Ahead L m m → Ahead L a b
 | [], h, _, _ => h.elim
 | c :: L, h, k, hno => by
  rcases h with h | ⟨rfl, h⟩
  ·rcases k with k | ⟨rfl, k⟩
   ·exact .inl (Ahead.trans h k fun x => hno (.inl x))
   ·exact absurd (.inr ⟨rfl, h.mem.2⟩) hno
  ·rcases k with k | ⟨rfl, k⟩
   ·exact .inr ⟨rfl, k.mem.2⟩
   ·exact .inr ⟨rfl, k⟩
theorem behB_iff (L : List Int) (j : Nat) : behB L j = true ↔ (j : Int) ∈ L := by
 unfold behB
 rw [List.any_eq_true]
 constructor
 ·rintro ⟨a, ha, e⟩; rw [beq_iff_eq] at e; exact e ▸ ha
 ·intro h; exact ⟨_, h, by simp⟩
theorem chainR_iff (i j : Nat) : ∀ (L : List Int), chainR L i j = true ↔ Ahead L i j
 | [] => by simp [chainR, noR, Ahead]
 | c :: L => by
  show (chainR L i j || (c == (i : Int) && behB L j)) = true ↔ _
  rw [Bool.or_eq_true, Bool.and_eq_true, chainR_iff i j L, beq_iff_eq, behB_iff]; rfl
end

section
open Go.RowKit
theorem ses_tim {h : List TxnV} (hc : checkI h = 0) {i k : Nat} (hi : i < h.length) (hk : k < h.length) (hik : i < k) (hs : h[i].s = h[k].s) : h[i].c < h[k].b := by
 have h1 := (rowR_iff.1 (may_rows (may_of hc) k hk)).2.1
 have h2 : h[i] ∈ h.take k := by
  rw [List.mem_take_iff_getElem]
  exact ⟨i, by omega, rfl⟩
 obtain ⟨⟨_, _, h3, _⟩, h4⟩ := (apartB_iff _ _).1 (List.all_eq_true.1 h1 _ h2)
 by_cases e : h[k].b < h[i].c
 ·exact absurd ⟨hs, e⟩ h4
 ·omega
theorem ses_in_tim {h : List TxnV} (hc : checkI h = 0) : inM (sesM h) (timM h) = true := by
 unfold inM inMTo
 rw [List.all_eq_true]
 intro i hi
 have hi := List.mem_range.1 hi
 rw [inB_iff (isSet_mkS _)]
 intro j hj hb
 rw [testBit_mkS] at hb ⊢
 simp only [hj, decide_true, Bool.true_and] at hb ⊢
 obtain ⟨h1, h2, h3⟩ := (prsTo_iff (sesP h) h.length i j hi hj h.length).1 hb
 refine (prsTo_iff (timP h) h.length i j hi hj h.length).2 ⟨h1, h2, ?_⟩
 unfold sesP at h3
 unfold timP
 rw [sAt_eq h1, sAt_eq h2] at h3
 simp only [Bool.and_eq_true, decide_eq_true_eq] at h3
 rw [cAt_eq h1, bAt_eq h2]
 exact decide_eq_true (ses_tim hc h1 h2 h3.1 h3.2)
end

section
open Go.RowKit
theorem nat_bit (x k : Nat) : (x &&& 2 ^ k = 0) ↔ x.testBit k = false := by
 constructor
 ·intro h
  have h1 : (x &&& 2 ^ k).testBit k = false := by rw [h]; exact Nat.zero_testBit k
  rw [Nat.testBit_and, Nat.testBit_two_pow] at h1
  simpa using h1
 ·intro h
  refine Nat.eq_of_testBit_eq fun i => ?_
  rw [Nat.testBit_and, Nat.testBit_two_pow, Nat.zero_testBit]
  by_cases e : k = i
  ·subst e; rw [h]; rfl
  ·simp [e]
theorem bit_zero (x k : Nat) (hx : x < 9223372036854775808) (hk : 2 ^ k < 9223372036854775808) : bits .and .i64 (x : Int) ((2 ^ k : Nat) : Int) = 0 ↔ x.testBit k = false := by
 rw [i64_and_nat x (2 ^ k) hx hk, ← nat_bit]
 omega
theorem bit_1 (x : Nat) (hx : x < 9223372036854775808) : bits .and .i64 (x : Int) 1 = 0 ↔ x.testBit 0 = false := bit_zero x 0 hx (by omega)
theorem bit_2 (x : Nat) (hx : x < 9223372036854775808) : bits .and .i64 (x : Int) 2 = 0 ↔ x.testBit 1 = false := bit_zero x 1 hx (by omega)
theorem bit_4 (x : Nat) (hx : x < 9223372036854775808) : bits .and .i64 (x : Int) 4 = 0 ↔ x.testBit 2 = false := bit_zero x 2 hx (by omega)
theorem bit_8 (x : Nat) (hx : x < 9223372036854775808) : bits .and .i64 (x : Int) 8 = 0 ↔ x.testBit 3 = false := bit_zero x 3 hx (by omega)
theorem bit_16 (x : Nat) (hx : x < 9223372036854775808) : bits .and .i64 (x : Int) 16 = 0 ↔ x.testBit 4 = false := bit_zero x 4 hx (by omega)
theorem bit_32 (x : Nat) (hx : x < 9223372036854775808) : bits .and .i64 (x : Int) 32 = 0 ↔ x.testBit 5 = false := bit_zero x 5 hx (by omega)
theorem trB_bit (x : Nat) (hx : x < 9223372036854775808) : trB (x : Int) = x.testBit 1 := by
 unfold trB
 have := bit_2 x hx
 cases h : x.testBit 1 with
 | true => exact decide_eq_true (fun e => by rw [this.1 e] at h; cases h)
 | false => exact decide_eq_false (fun e => e (this.2 h))
theorem pfB_bit (x : Nat) (hx : x < 9223372036854775808) : pfB (x : Int) = x.testBit 2 := by
 unfold pfB
 have := bit_4 x hx
 cases h : x.testBit 2 with
 | true => exact decide_eq_true (fun e => by rw [this.1 e] at h; cases h)
 | false => exact decide_eq_false (fun e => e (this.2 h))
theorem baseM_iff (h : List TxnV) (x : Nat) (hx : x < 9223372036854775808) (i j : Nat) : baseM h (x : Int) i j = true ↔ froM h i j = true ∨ (x.testBit 0 = true ∧ sesM h i j = true) ∨ (x.testBit 5 = true ∧ timM h i j = true) := by
 have h1 := bit_1 x hx
 have h5 := bit_32 x hx
 unfold baseM baseQ
 cases e0 : x.testBit 0 <;> cases e5 : x.testBit 5
 ·rw [if_pos (h5.2 e5), if_pos (h1.2 e0)]; simp
 ·rw [if_neg (fun e => by rw [h5.1 e] at e5; cases e5), if_pos (h1.2 e0), orR_iff]; simp
 ·rw [if_pos (h5.2 e5), if_neg (fun e => by rw [h1.1 e] at e0; cases e0), orR_iff]; simp
 ·rw [if_neg (fun e => by rw [h5.1 e] at e5; cases e5), if_neg (fun e => by rw [h1.1 e] at e0; cases e0), orR_iff, orR_iff]; simp [or_assoc]
theorem startM_iff (h : List TxnV) (x : Nat) (hx : x < 9223372036854775808) (A : Mat) (i j : Nat) : startM h (x : Int) A i j = true ↔ baseM h (x : Int) i j = true ∨ (x.testBit 3 = true ∧ rivM h A i j = true) ∨ (x.testBit 4 = true ∧ A i j = true) := by
 have h3 := bit_8 x hx
 have h4 := bit_16 x hx
 unfold startM startQ
 cases e3 : x.testBit 3 <;> cases e4 : x.testBit 4
 ·rw [if_pos (h4.2 e4), if_pos (h3.2 e3)]; simp
 ·rw [if_neg (fun e => by rw [h4.1 e] at e4; cases e4), if_pos (h3.2 e3), orR_iff]; simp
 ·rw [if_pos (h4.2 e4), if_neg (fun e => by rw [h3.1 e] at e3; cases e3), orR_iff]; simp
 ·rw [if_neg (fun e => by rw [h4.1 e] at e4; cases e4), if_neg (fun e => by rw [h3.1 e] at e3; cases e3), orR_iff, orR_iff]; simp [or_assoc]
theorem rivM_in (h : List TxnV) (A : Mat) (i j : Nat) (hr : rivM h A i j = true) : A i j = true := by
 unfold rivM at hr
 rw [Bool.and_eq_true] at hr
 exact hr.1
theorem clN_bits : ∀ k : Fin 64, (clN k.val).testBit 0 = (k.val.testBit 0 || k.val.testBit 5) ∧ (clN k.val).testBit 1 = (k.val.testBit 1 || (k.val.testBit 2 || k.val.testBit 4)) ∧ (clN k.val).testBit 2 = (k.val.testBit 2 || k.val.testBit 4) ∧
  (clN k.val).testBit 3 = (k.val.testBit 3 || k.val.testBit 4) ∧ (clN k.val).testBit 4 = k.val.testBit 4 ∧ (clN k.val).testBit 5 = k.val.testBit 5 := by decide +kernel
theorem clI_bits (x : Nat) : (clI (x : Int)).testBit 0 = (x.testBit 0 || x.testBit 5) ∧ (clI (x : Int)).testBit 1 = (x.testBit 1 || (x.testBit 2 || x.testBit 4)) ∧ (clI (x : Int)).testBit 2 = (x.testBit 2 || x.testBit 4) ∧
  (clI (x : Int)).testBit 3 = (x.testBit 3 || x.testBit 4) ∧ (clI (x : Int)).testBit 4 = x.testBit 4 ∧ (clI (x : Int)).testBit 5 = x.testBit 5 := by
 have h := clN_bits ⟨x % 64, by omega⟩
 have e : ((x : Int) % 64).toNat = x % 64 := by omega
 have b : ∀ k, k < 6 → (x % 64).testBit k = x.testBit k := fun k hk => by
  rw [show (64 : Nat) = 2 ^ 6 from rfl, Nat.testBit_mod_two_pow, decide_eq_true hk, Bool.true_and]
 unfold clI
 rw [e]
 simp only [b 0 (by omega), b 1 (by omega), b 2 (by omega), b 3 (by omega), b 4 (by omega), b 5 (by omega)] at h
 exact h
theorem ahead_irr {L : List Int} (hn : L.Nodup) (a : Int) : ¬ Ahead L a a := by
 rw [ahead_at]
 rintro ⟨i, hi, h1, h2⟩
 obtain ⟨k, hk, h3⟩ := List.mem_iff_getElem.1 h2
 rw [List.length_drop] at hk
 rw [List.getElem_drop] at h3
 rw [List.getD_eq_getElem?_getD, List.getElem?_eq_getElem hi, Option.getD_some] at h1
 exact List.pairwise_iff_getElem.1 hn i (i + 1 + k) hi (by omega) (by omega) (h1.trans h3.symm)
theorem chain_trans {L : List Int} (hn : L.Nodup) {i m j : Nat} (h1 : chainR L i m = true) (h2 : chainR L m j = true) : chainR L i j = true := by
 rw [chainR_iff] at *
 exact h1.trans h2 (ahead_irr hn _)
theorem nodup_ofNat {L : List Nat} (h : L.Nodup) : (L.map Int.ofNat).Nodup := nodup_map Int.ofNat (fun _ _ e => Int.ofNat.inj e) h
theorem inM_iff (R S : Mat) : inM R S = true ↔ ∀ i j, i < 64 → j < 64 → R i j = true → S i j = true := by
 unfold inM inMTo
 rw [List.all_eq_true]
 constructor
 ·intro h i j hi hj hr
  have h1 := (inB_iff (isSet_mkS _)).1 (h i (List.mem_range.2 hi)) j hj (by rw [testBit_mkS, hr, decide_eq_true hj]; rfl)
  rw [testBit_mkS, decide_eq_true hj] at h1
  simpa using h1
 ·intro h i hi
  have hi := List.mem_range.1 hi
  rw [inB_iff (isSet_mkS _)]
  intro j hj hb
  rw [testBit_mkS, decide_eq_true hj] at hb ⊢
  simp only [Bool.true_and] at hb ⊢
  exact h i j hi hj hb
theorem hasR_nat (R : Mat) (i j : Nat) (hi : i < 64) (hj : j < 64) : hasR R (i : Int) (j : Int) = R i j := by
 unfold hasR mayB
 rw [Int.toNat_natCast, hasB_mkS _ _ hj, decide_eq_true (by omega), Bool.true_and]
def LeastIs (h : List TxnV) (x : Nat) (L : List Int) (R : Mat) : Prop := ∀ i j, i < 64 → j < 64 → (R i j = true ↔ Must (startM h (x : Int) (chainR L)) (chainR L) (trB x) (pfB x) i j)
theorem least_mono {h : List TxnV} {x y : Nat} {L : List Int} {R S : Mat} (hx : x < 9223372036854775808) (hy : y < 9223372036854775808) (hb : ∀ k, x.testBit k = true → y.testBit k = true) (hR : LeastIs h x L R) (hS : LeastIs h y L S) : inM R S = true := by
 rw [inM_iff]
 intro i j hi hj hr
 refine (hS i j hi hj).2 (must_mono ?_ ?_ ?_ ((hR i j hi hj).1 hr))
 ·intro i j hs
  rw [startM_iff h x hx, baseM_iff h x hx] at hs
  rw [startM_iff h y hy, baseM_iff h y hy]
  rcases hs with (hs | ⟨h1, h2⟩ | ⟨h1, h2⟩) | ⟨h1, h2⟩ | ⟨h1, h2⟩
  ·exact .inl (.inl hs)
  ·exact .inl (.inr (.inl ⟨hb _ h1, h2⟩))
  ·exact .inl (.inr (.inr ⟨hb _ h1, h2⟩))
  ·exact .inr (.inl ⟨hb _ h1, h2⟩)
  ·exact .inr (.inr ⟨hb _ h1, h2⟩)
 ·rw [trB_bit x hx, trB_bit y hy]; exact hb 1
 ·rw [pfB_bit x hx, pfB_bit y hy]; exact hb 2
theorem least_closed {h : List TxnV} {x : Nat} {L : List Int} {R S : Mat} (hc : checkI h = 0) (hn : L.Nodup) (hx : x < 9223372036854775808) (hR : LeastIs h x L R) (hS : LeastIs h (clI (x : Int)) L S) (hin : inM R (chainR L) = true) : rowsA R = rowsA S := by
 have hy : clI (x : Int) < 9223372036854775808 := by have := clI_lt (x : Int); omega
 obtain ⟨b0, b1, b2, b3, b4, b5⟩ := clI_bits x
 have hin := (inM_iff _ _).1 hin
 have hst := (inM_iff _ _).1 (ses_in_tim hc)
 refine rowsA_congr fun i j hi hj => ?_
 rw [Bool.eq_iff_iff, hR i j hi hj, hS i j hi hj]
 constructor
 ·intro h1
  refine must_mono ?_ ?_ ?_ h1
  ·intro i j hs
   rw [startM_iff h x hx, baseM_iff h x hx] at hs
   rw [startM_iff h _ hy, baseM_iff h _ hy, b0, b3, b4, b5]
   rcases hs with (hs | ⟨h1, h2⟩ | ⟨h1, h2⟩) | ⟨h1, h2⟩ | ⟨h1, h2⟩
   ·exact .inl (.inl hs)
   ·exact .inl (.inr (.inl ⟨by rw [h1]; rfl, h2⟩))
   ·exact .inl (.inr (.inr ⟨h1, h2⟩))
   ·exact .inr (.inl ⟨by rw [h1]; rfl, h2⟩)
   ·exact .inr (.inr ⟨h1, h2⟩)
  ·rw [trB_bit x hx, trB_bit _ hy, b1]; intro e; rw [e]; rfl
  ·rw [pfB_bit x hx, pfB_bit _ hy, b2]; intro e; rw [e]; rfl
 ·intro h1
  refine must_closed (tot := x.testBit 4) (fun i j hi hj hm => hin i j hi hj ((hR i j hi hj).2 hm)) (fun i m j _ _ _ h1 h2 => chain_trans hn h1 h2) ?_ ?_ ?_ ?_ h1 hi hj
  ·intro ht i j _ _ ha
   rw [startM_iff h x hx]
   exact .inr (.inr ⟨ht, ha⟩)
  ·intro i j hi hj hs
   rw [startM_iff h _ hy, baseM_iff h _ hy, b0, b3, b4, b5] at hs
   rw [startM_iff h x hx, baseM_iff h x hx]
   rcases hs with (hs | ⟨h1, h2⟩ | ⟨h1, h2⟩) | ⟨h1, h2⟩ | ⟨h1, h2⟩
   ·exact .inl (.inl (.inl hs))
   ·rcases (Bool.or_eq_true _ _).mp h1 with h1 | h1
    ·exact .inl (.inl (.inr (.inl ⟨h1, h2⟩)))
    ·exact .inl (.inl (.inr (.inr ⟨h1, hst i j hi hj h2⟩)))
   ·exact .inl (.inl (.inr (.inr ⟨h1, h2⟩)))
   ·rcases (Bool.or_eq_true _ _).mp h1 with h1 | h1
    ·exact .inl (.inr (.inl ⟨h1, h2⟩))
    ·exact .inr ⟨h1, rivM_in h _ i j h2⟩
   ·exact .inr ⟨h1, h2⟩
  ·rw [trB_bit x hx, pfB_bit x hx, trB_bit _ hy, b1]
   intro e
   rcases (Bool.or_eq_true _ _).mp e with e | e
   ·exact .inl e
   ·rcases (Bool.or_eq_true _ _).mp e with e | e
    ·exact .inr (.inl e)
    ·exact .inr (.inr e)
  ·rw [pfB_bit x hx, pfB_bit _ hy, b2]
   intro e
   exact (Bool.or_eq_true _ _).mp e
end

section
open Go.RowKit
theorem bitA_pow : ∀ m : Fin 6, bitA m.val = 2 ^ m.val := by decide
theorem keptTo_bit (M : Nat → Mat) (V : Mat) (k : Nat) : ∀ m, m ≤ 6 → (keptTo M V m).testBit k = (decide (k < m) && inM (M k) V)
 | 0, _ => by unfold keptTo; simp
 | m + 1, h => by
  have ih := keptTo_bit M V k m (by omega)
  have e := bitA_pow ⟨m, by omega⟩
  simp only at e
  rw [keptTo_succ]
  by_cases hk : k = m
  ·subst hk
   rw [decide_eq_false (Nat.lt_irrefl k), Bool.false_and] at ih
   rw [decide_eq_true (Nat.lt_succ_self k), Bool.true_and]
   cases hM : inM (M k) V with
   | true => rw [if_pos rfl, Nat.testBit_or, e, Nat.testBit_two_pow_self, Bool.or_true]
   | false => rw [if_neg (by decide)]; exact ih
  ·have hd : decide (k < m + 1) = decide (k < m) := by rw [decide_eq_decide]; omega
   rw [hd]
   split
   ·rw [Nat.testBit_or, e, Nat.testBit_two_pow_of_ne (by omega), Bool.or_false]; exact ih
   ·exact ih
theorem kept_bit (h : List TxnV) (l : List Int) (V : Mat) {k : Nat} (hk : k < 6) : (keptN h l V).testBit k = inM (keptM h (chainR l) V k) V := by
 unfold keptN
 rw [keptTo_bit _ _ _ 6 (Nat.le_refl 6), decide_eq_true hk, Bool.true_and]
theorem lack_iff (a b : Nat) : lackN a b = 0 ↔ ∀ k, a.testBit k = true → b.testBit k = true := by
 unfold lackN
 constructor
 ·intro e k hk
  have t := congrArg (fun x => Nat.testBit x k) e
  simp only [Nat.testBit_xor, Nat.testBit_and, Nat.zero_testBit, hk, Bool.true_and] at t
  cases hb : b.testBit k
  ·rw [hb] at t; exact absurd t (by decide)
  ·rfl
 ·intro H
  apply Nat.eq_of_testBit_eq
  intro k
  rw [Nat.testBit_xor, Nat.testBit_and, Nat.zero_testBit]
  cases ha : a.testBit k
  ·rfl
  ·rw [H k ha]; rfl
theorem inM_trans {A B C : Mat} (h1 : inM A B = true) (h2 : inM B C = true) : inM A C = true := by
 rw [inM_iff] at *
 exact fun i j hi hj h => h2 i j hi hj (h1 i j hi hj h)
end

section
open Go.RowKit
def joinL (F : Nat → Nat) (l : List Nat) : Nat := l.foldl (fun s k => s ||| F k) 0
def joinN (F : Nat → Nat) (s : Nat) : Nat := joinL F (lst s)
theorem joinL_nil (F : Nat → Nat) : joinL F [] = 0 := rfl
theorem joinF_bit (F : Nat → Nat) (j : Nat) : ∀ (l : List Nat) (s : Nat), (l.foldl (fun s k => s ||| F k) s).testBit j = (s.testBit j || l.any fun k => (F k).testBit j)
 | [], s => by simp
 | k :: l, s => by rw [List.foldl_cons, joinF_bit F j l, Nat.testBit_or, List.any_cons, Bool.or_assoc]
theorem joinL_bit (F : Nat → Nat) (l : List Nat) (j : Nat) : (joinL F l).testBit j = l.any fun k => (F k).testBit j := by
 unfold joinL; rw [joinF_bit]; simp
theorem joinL_set {F : Nat → Nat} {l : List Nat} (h : ∀ k ∈ l, IsSet (F k)) : IsSet (joinL F l) := by
 apply isSet_of_bits
 intro i hi
 rw [joinL_bit, List.any_eq_false]
 intro k hk
 rw [(h k hk).high hi]; simp
theorem joinN_set {F : Nat → Nat} {s : Nat} (h : ∀ k, k < 64 → IsSet (F k)) : IsSet (joinN F s) := joinL_set fun k hk => h k (mem_lst.1 hk).1
theorem joinN_iff {F : Nat → Nat} {s : Nat} {j : Nat} : (joinN F s).testBit j = true ↔ ∃ k, k < 64 ∧ s.testBit k = true ∧ (F k).testBit j = true := by
 unfold joinN
 rw [joinL_bit, List.any_eq_true]
 exact ⟨fun ⟨k, hk, hj⟩ => ⟨k, (mem_lst.1 hk).1, (mem_lst.1 hk).2, hj⟩, fun ⟨k, h1, h2, h3⟩ => ⟨k, mem_lst.2 ⟨h1, h2⟩, h3⟩⟩
theorem joinN_congr {F G : Nat → Nat} {s : Nat} (h : ∀ k, k < 64 → s.testBit k = true → F k = G k) : joinN F s = joinN G s := by
 apply Nat.eq_of_testBit_eq
 intro j
 rw [Bool.eq_iff_iff, joinN_iff, joinN_iff]
 exact ⟨fun ⟨k, h1, h2, h3⟩ => ⟨k, h1, h2, by rw [← h k h1 h2]; exact h3⟩, fun ⟨k, h1, h2, h3⟩ => ⟨k, h1, h2, by rw [h k h1 h2]; exact h3⟩⟩
def plS : List Nat → Nat
 | [] => 0
 | i :: r => withS (plS r) (i : Int)
theorem plS_set : ∀ r, IsSet (plS r)
 | [] => by unfold plS IsSet; omega
 | i :: r => isSet_withS (plS_set r)
theorem plS_bit (j : Nat) : ∀ (r : List Nat), (∀ i ∈ r, i < 64) → (plS r).testBit j = decide (j ∈ r)
 | [], _ => by unfold plS; simp
 | i :: r, h => by
  have h1 : decide (0 ≤ (i : Int) ∧ (i : Int) < 64) = true := by have := h i (List.mem_cons_self ..); simp; omega
  unfold plS
  rw [testBit_withS, plS_bit j r (fun a ha => h a (List.mem_cons_of_mem _ ha)), h1, Int.toNat_natCast, Bool.true_and, Bool.eq_iff_iff]
  simp only [Bool.or_eq_true, decide_eq_true_eq, List.mem_cons]
  exact ⟨fun q => q.elim .inr (fun e => .inl e.symm), fun q => q.elim (fun e => .inr e.symm) .inl⟩
theorem plS_pop {i : Nat} {r : List Nat} (hi : i ∉ r) (h : ∀ a ∈ i :: r, a < 64) : woS (plS (i :: r)) (i : Int) = plS r := by
 apply Nat.eq_of_testBit_eq
 intro j
 have h1 : decide (0 ≤ (i : Int) ∧ (i : Int) < 64) = true := by have := h i (List.mem_cons_self ..); simp; omega
 rw [testBit_woS, plS_bit j _ h, plS_bit j r (fun a ha => h a (List.mem_cons_of_mem _ ha)), h1, Int.toNat_natCast, Bool.true_and, Bool.eq_iff_iff]
 simp only [Bool.and_eq_true, decide_eq_true_eq, List.mem_cons, Bool.not_eq_true', decide_eq_false_iff_not]
 constructor
 ·rintro ⟨rfl | q, hne⟩
  ·exact (hne rfl).elim
  ·exact q
 ·intro q
  exact ⟨.inr q, fun e => hi (by rw [e]; exact q)⟩
def wld1 (b pl C : Nat) : Nat := if C.testBit 4 then b ||| pl else b
def wld2 (b pl rv C : Nat) : Nat := if C.testBit 3 then wld1 b pl C ||| (rv &&& pl) else wld1 b pl C
def wld3 (b pl rv C : Nat) (sF : Nat → Nat) : Nat := if C.testBit 1 then wld2 b pl rv C ||| joinN sF (wld2 b pl rv C) else wld2 b pl rv C
def wld4 (b pl rv C : Nat) (sF aF : Nat → Nat) : Nat := if C.testBit 2 then wld3 b pl rv C sF ||| joinN aF (wld3 b pl rv C sF) else wld3 b pl rv C sF
section
variable {b pl rv C : Nat} {sF aF : Nat → Nat}
theorem wld1_set (hb : IsSet b) (hp : IsSet pl) : IsSet (wld1 b pl C) := by unfold wld1; split; exact isSet_or hb hp; exact hb
theorem wld2_set (hb : IsSet b) (hp : IsSet pl) (hr : IsSet rv) : IsSet (wld2 b pl rv C) := by unfold wld2; split; exact isSet_or (wld1_set hb hp) (isSet_and hr); exact wld1_set hb hp
theorem wld3_set (hb : IsSet b) (hp : IsSet pl) (hr : IsSet rv) (hs : ∀ k, k < 64 → IsSet (sF k)) : IsSet (wld3 b pl rv C sF) := by unfold wld3; split; exact isSet_or (wld2_set hb hp hr) (joinN_set hs); exact wld2_set hb hp hr
theorem wld4_set (hb : IsSet b) (hp : IsSet pl) (hr : IsSet rv) (hs : ∀ k, k < 64 → IsSet (sF k)) (ha : ∀ k, k < 64 → IsSet (aF k)) : IsSet (wld4 b pl rv C sF aF) := by unfold wld4; split; exact isSet_or (wld3_set hb hp hr hs) (joinN_set ha); exact wld3_set hb hp hr hs
theorem wld1_in (hb : ∀ j, b.testBit j = true → pl.testBit j = true) {j : Nat} (h : (wld1 b pl C).testBit j = true) : pl.testBit j = true := by
 unfold wld1 at h
 split at h
 ·rw [Nat.testBit_or, Bool.or_eq_true] at h; exact h.elim (hb j) id
 ·exact hb j h
theorem wld2_in (hb : ∀ j, b.testBit j = true → pl.testBit j = true) {j : Nat} (h : (wld2 b pl rv C).testBit j = true) : pl.testBit j = true := by
 unfold wld2 at h
 split at h
 ·rw [Nat.testBit_or, Bool.or_eq_true, Nat.testBit_and, Bool.and_eq_true] at h; exact h.elim (wld1_in hb) And.right
 ·exact wld1_in hb h
theorem wld3_in (hb : ∀ j, b.testBit j = true → pl.testBit j = true) (hs : ∀ k j, pl.testBit k = true → (sF k).testBit j = true → pl.testBit j = true) {j : Nat} (h : (wld3 b pl rv C sF).testBit j = true) : pl.testBit j = true := by
 unfold wld3 at h
 split at h
 ·rw [Nat.testBit_or, Bool.or_eq_true, joinN_iff] at h
  rcases h with h | ⟨k, _, h1, h2⟩
  ·exact wld2_in hb h
  ·exact hs k j (wld2_in hb h1) h2
 ·exact wld2_in hb h
theorem wld4_in (hb : ∀ j, b.testBit j = true → pl.testBit j = true) (hs : ∀ k j, pl.testBit k = true → (sF k).testBit j = true → pl.testBit j = true) (ha : ∀ k j, pl.testBit k = true → (aF k).testBit j = true → pl.testBit j = true) {j : Nat} (h : (wld4 b pl rv C sF aF).testBit j = true) : pl.testBit j = true := by
 unfold wld4 at h
 split at h
 ·rw [Nat.testBit_or, Bool.or_eq_true, joinN_iff] at h
  rcases h with h | ⟨k, _, h1, h2⟩
  ·exact wld3_in hb hs h
  ·exact ha k j (wld3_in hb hs h1) h2
 ·exact wld3_in hb hs h
theorem wld3_congr {sG : Nat → Nat} (hb : ∀ j, b.testBit j = true → pl.testBit j = true) (h : ∀ k, k < 64 → pl.testBit k = true → sF k = sG k) : wld3 b pl rv C sF = wld3 b pl rv C sG := by
 unfold wld3
 rw [joinN_congr fun k hk hb2 => h k hk (wld2_in hb hb2)]
theorem wld4_congr {sG aG : Nat → Nat} (hb : ∀ j, b.testBit j = true → pl.testBit j = true) (h : ∀ k, k < 64 → pl.testBit k = true → sF k = sG k ∧ aF k = aG k) (hs : ∀ k j, pl.testBit k = true → (sF k).testBit j = true → pl.testBit j = true) : wld4 b pl rv C sF aF = wld4 b pl rv C sG aG := by
 have e : wld3 b pl rv C sF = wld3 b pl rv C sG := wld3_congr hb fun k hk hp => (h k hk hp).1
 unfold wld4
 rw [← e, joinN_congr (F := aF) (G := aG) fun k hk hb2 => (h k hk (wld3_in hb hs hb2)).2]
end
def baseN (h : List TxnV) (C i : Nat) : Nat := seeTo (baseM h (C : Int)) (i : Int) 64
theorem baseN_set (h : List TxnV) (C i : Nat) : IsSet (baseN h C i) := seeTo_set _ _ _
def aheadL : List Nat → Nat → Nat
 | [], _ => 0
 | i :: r, k => if k = i then plS r else aheadL r k
def plSee (h : List TxnV) (C : Nat) : List Nat → Nat → Nat
 | [], _ => 0
 | i :: r, k => if k = i then wld4 (baseN h C i) (plS r) (rivN h i) C (plSee h C r) (aheadL r) else plSee h C r k
def nextN (h : List TxnV) (C : Nat) (r : List Nat) (i : Nat) : Nat := wld4 (baseN h C i) (plS r) (rivN h i) C (plSee h C r) (aheadL r)
theorem aheadL_set : ∀ (r : List Nat) (k : Nat), IsSet (aheadL r k)
 | [], _ => by unfold aheadL IsSet; omega
 | i :: r, k => by
  unfold aheadL
  split
  ·exact plS_set r
  ·exact aheadL_set r k
theorem plSee_set (h : List TxnV) (C : Nat) : ∀ (r : List Nat) (k : Nat), IsSet (plSee h C r k)
 | [], _ => by unfold plSee IsSet; omega
 | i :: r, k => by
  unfold plSee
  split
  ·exact wld4_set (baseN_set h C i) (plS_set r) (rivN_set h i) (fun k _ => plSee_set h C r k) (fun k _ => aheadL_set r k)
  ·exact plSee_set h C r k
def readW (h : List TxnV) (aF : Nat → Nat) (seen : Nat) (r : Int × Int) : Nat := if 0 ≤ r.2 then lackN (seen &&& wrtN h r.1) (withS (aF r.2.toNat) r.2) else seen &&& wrtN h r.1
def readP (h : List TxnV) (aF : Nat → Nat) (seen : Nat) (r : Int × Int) : Bool := decide (readW h aF seen r = 0)
def readsP (h : List TxnV) (aF : Nat → Nat) (seen i : Nat) : Bool := (readsOf h i).all (readP h aF seen)
def tryP (h : List TxnV) (C : Nat) (r : List Nat) (i : Nat) : Bool := decide (i < h.length) && (!decide (i ∈ r) && (inB (baseN h C i) (plS r) && readsP h (aheadL r) (nextN h C r i) i))
def tryI (h : List TxnV) (C : Nat) (r : List Nat) (i : Int) : Bool := decide (0 ≤ i) && tryP h C r i.toNat
def plF (B C : Nat) (vb vr : Value) (pl : Nat) (aF sF : Nat → Nat) (i : Nat) : Value :=
 if i = 0 then .pointer (some ⟨B, 0, none⟩) else if i = 1 then .int .i64 (C : Int) else if i = 2 then vb else if i = 3 then vr else if i = 4 then .int .u64 (pl : Int) else
 if i < 69 then .int .u64 ((aF (i - 5) : Nat) : Int) else .int .u64 ((sF (i - 69) : Nat) : Int)
def PlAt (w : World) (S B C : Nat) (vb vr : Value) (pl : Nat) (aF sF : Nat → Nat) : Prop := ∀ i, i < 133 → w.cell? ⟨S, i, none⟩ = some (plF B C vb vr pl aF sF i) ∧ w.frozen? ⟨S, i, none⟩ = false
section
variable {w : World} {S B C : Nat} {vb vr : Value} {pl : Nat} {aF sF : Nat → Nat}
theorem PlAt.lt (h : PlAt w S B C vb vr pl aF sF) : S < w.heap.size := block_lt (h 0 (by omega)).1
theorem PlAt.below {w' : World} {B' : Nat} (h : PlAt w S B C vb vr pl aF sF) (hb : Below B' w w') (hB : S < B') : PlAt w' S B C vb vr pl aF sF := fun i hi => by
 rw [hb.cell (p := ⟨S, i, none⟩) hB, hb.frozen (p := ⟨S, i, none⟩) hB]; exact h i hi
theorem PlAt.grown {w' : World} {row : Option Nat} (h : PlAt w S B C vb vr pl aF sF) (hg : w.grownBy w' row) (hne : some S ≠ row) : PlAt w' S B C vb vr pl aF sF := fun i hi => by
 obtain ⟨h1, h2⟩ := h i hi
 have hb := hg.block S h.lt hne
 have e1 : w'.cell? ⟨S, i, none⟩ = w.cell? ⟨S, i, none⟩ := by simp only [World.cell?]; rw [hb]
 have e2 : w'.frozen? ⟨S, i, none⟩ = w.frozen? ⟨S, i, none⟩ := by simp only [World.frozen?]; rw [hb]
 rw [e1, e2]; exact ⟨h1, h2⟩
theorem PlAt.cO (h : PlAt w S B C vb vr pl aF sF) : w.cell? ⟨S, 0, none⟩ = some (.pointer (some ⟨B, 0, none⟩)) := (h 0 (by omega)).1
theorem PlAt.cC (h : PlAt w S B C vb vr pl aF sF) : w.cell? ⟨S, 1, none⟩ = some (.int .i64 (C : Int)) := (h 1 (by omega)).1
theorem PlAt.cB (h : PlAt w S B C vb vr pl aF sF) : w.cell? ⟨S, 2, none⟩ = some vb := (h 2 (by omega)).1
theorem PlAt.cR (h : PlAt w S B C vb vr pl aF sF) : w.cell? ⟨S, 3, none⟩ = some vr := (h 3 (by omega)).1
theorem PlAt.cP (h : PlAt w S B C vb vr pl aF sF) : w.cell? ⟨S, 4, none⟩ = some (.int .u64 (pl : Int)) := (h 4 (by omega)).1
theorem PlAt.cA (h : PlAt w S B C vb vr pl aF sF) {k : Nat} (hk : k < 64) : w.cell? ⟨S, 5 + k, none⟩ = some (.int .u64 ((aF k : Nat) : Int)) := by
 rw [(h (5 + k) (by omega)).1]; unfold plF
 rw [if_neg (by omega), if_neg (by omega), if_neg (by omega), if_neg (by omega), if_neg (by omega), if_pos (by omega), Nat.add_sub_cancel_left]
theorem PlAt.cS (h : PlAt w S B C vb vr pl aF sF) {k : Nat} (hk : k < 64) : w.cell? ⟨S, 69 + k, none⟩ = some (.int .u64 ((sF k : Nat) : Int)) := by
 rw [(h (69 + k) (by omega)).1]; unfold plF
 rw [if_neg (by omega), if_neg (by omega), if_neg (by omega), if_neg (by omega), if_neg (by omega), if_neg (by omega), Nat.add_sub_cancel_left]
theorem PlAt.free (h : PlAt w S B C vb vr pl aF sF) {i : Nat} (hi : i < 133) : w.frozen? ⟨S, i, none⟩ = false := (h i hi).2
theorem PlAt.put (h : PlAt w S B C vb vr pl aF sF) (k : Nat) (v : Value) {vb' vr' : Value} {pl' : Nat} {aF' sF' : Nat → Nat} (h1 : plF B C vb' vr' pl' aF' sF' k = v)
  (h2 : ∀ i, i < 133 → i ≠ k → plF B C vb' vr' pl' aF' sF' i = plF B C vb vr pl aF sF i) : PlAt (w.setCell ⟨S, k, none⟩ v) S B C vb' vr' pl' aF' sF' := fun i hi => by
 refine ⟨?_, by rw [World.frozen?_setCell]; exact (h i hi).2⟩
 by_cases e : i = k
 ·subst e
  rw [World.cell?_setCell_same _ _ _ (h i hi).1, h1]
 ·have hne : (⟨S, k, none⟩ : Addr) ≠ ⟨S, i, none⟩ := by
   intro q
   injection q with _ q2
   exact e q2.symm
  rw [World.cell?_setCell_other _ _ _ _ hne, h2 i hi e]
  exact (h i hi).1
theorem PlAt.setB (h : PlAt w S B C vb vr pl aF sF) (v : Value) : PlAt (w.setCell ⟨S, 2, none⟩ v) S B C v vr pl aF sF := h.put 2 v rfl (fun i _ e => by unfold plF; simp [e])
theorem PlAt.setR (h : PlAt w S B C vb vr pl aF sF) (v : Value) : PlAt (w.setCell ⟨S, 3, none⟩ v) S B C vb v pl aF sF := h.put 3 v rfl (fun i _ e => by unfold plF; simp [e])
theorem PlAt.setP (h : PlAt w S B C vb vr pl aF sF) (s : Nat) : PlAt (w.setCell ⟨S, 4, none⟩ (.int .u64 (s : Int))) S B C vb vr s aF sF := h.put 4 _ rfl (fun i _ e => by unfold plF; simp [e])
def updN (F : Nat → Nat) (i s : Nat) : Nat → Nat := fun k => if k = i then s else F k
theorem PlAt.setA (h : PlAt w S B C vb vr pl aF sF) {k : Nat} (hk : k < 64) (s : Nat) : PlAt (w.setCell ⟨S, 5 + k, none⟩ (.int .u64 (s : Int))) S B C vb vr pl (updN aF k s) sF := h.put (5 + k) _
 (by unfold plF updN; rw [if_neg (by omega), if_neg (by omega), if_neg (by omega), if_neg (by omega), if_neg (by omega), if_pos (by omega), if_pos (by omega)])
 (fun i _ e => by
  unfold plF updN
  by_cases h5 : i < 5
  ·have : i = 0 ∨ i = 1 ∨ i = 2 ∨ i = 3 ∨ i = 4 := by omega
   rcases this with rfl | rfl | rfl | rfl | rfl <;> rfl
  ·have : ¬ i - 5 = k := by omega
   simp only [this, if_false])
theorem PlAt.setS (h : PlAt w S B C vb vr pl aF sF) {k : Nat} (hk : k < 64) (s : Nat) : PlAt (w.setCell ⟨S, 69 + k, none⟩ (.int .u64 (s : Int))) S B C vb vr pl aF (updN sF k s) := h.put (69 + k) _
 (by unfold plF updN; rw [if_neg (by omega), if_neg (by omega), if_neg (by omega), if_neg (by omega), if_neg (by omega), if_neg (by omega), if_pos (by omega)])
 (fun i _ e => by
  unfold plF updN
  by_cases h5 : i < 69
  ·by_cases h6 : i < 5
   ·have : i = 0 ∨ i = 1 ∨ i = 2 ∨ i = 3 ∨ i = 4 := by omega
    rcases this with rfl | rfl | rfl | rfl | rfl <;> rfl
   ·simp only [h5, if_true]
  ·have : ¬ i - 69 = k := by omega
   simp only [this, if_false])
end
structure PlIs (W : World) (S B b : Nat) (h : List TxnV) (C : Nat) (r : List Nat) (vb vr : Value) (aF sF : Nat → Nat) (w : World) : Prop where
 o : OrdIs W B b h
 t : Tab W
 bel : Below W.heap.size W w
 low : W.heap.size ≤ S
 a : PlAt w S B C vb vr (plS r) aF sF
 ba : w.ownsRow (S + 1) 115 1 vb h.length ((List.range h.length).map fun i => .int .u64 ((baseN h C i : Nat) : Int))
 rw : w.ownsRow (S + 1) 3 1 vr r.length (r.reverse.map fun i : Nat => .int .i64 (i : Int))
 ne : ∀ g, vb.ownBlock = some g → vr.ownBlock ≠ some g
 set : ∀ k, k < 64 → IsSet (aF k) ∧ IsSet (sF k)
 eq : ∀ k ∈ r, aF k = aheadL r k ∧ sF k = plSee h C r k
 nd : r.Nodup
 lt : ∀ k ∈ r, k < h.length
 base : ∀ k ∈ r, ∀ j, (baseN h C k).testBit j = true → (aheadL r k).testBit j = true
structure PlStep (S : Nat) (vr vr' : Value) (w w' : World) : Prop where
 os : w'.os = w.os
 tape : w'.tape = w.tape
 output : w'.output = w.output
 size : w.heap.size ≤ w'.heap.size
 block : ∀ k, k < w.heap.size → k ≠ S → vr.ownBlock ≠ some k → w'.heap[k]? = w.heap[k]?
 own : ∀ g, vr'.ownBlock = some g → vr.ownBlock = some g ∨ w.heap.size ≤ g
theorem PlStep.of_below {S : Nat} {vr : Value} {w w' : World} (hb : Below w.heap.size w w') : PlStep S vr vr w w' := ⟨hb.os, hb.tape, hb.output, hb.size, fun k hk _ _ => hb.block k hk, fun _ hg => .inl hg⟩
theorem PlStep.refl (S : Nat) (vr : Value) (w : World) : PlStep S vr vr w w := .of_below (Below.refl _ _)
theorem PlStep.trans {S : Nat} {v1 v2 v3 : Value} {w1 w2 w3 : World} (h : PlStep S v1 v2 w1 w2) (k : PlStep S v2 v3 w2 w3) : PlStep S v1 v3 w1 w3 := by
 refine ⟨k.os.trans h.os, k.tape.trans h.tape, k.output.trans h.output, Nat.le_trans h.size k.size, fun j hj hs hv => ?_, fun g hg => ?_⟩
 ·refine (k.block j (Nat.lt_of_lt_of_le hj h.size) hs (fun e => ?_)).trans (h.block j hj hs hv)
  rcases h.own j e with q | q
  ·exact hv q
  ·omega
 ·rcases k.own g hg with q | q
  ·exact h.own g q
  ·exact .inr (Nat.le_trans h.size q)
section
variable {W : World} {S B b : Nat} {h : List TxnV} {C : Nat} {r : List Nat} {vb vr : Value} {aF sF : Nat → Nat} {w w' : World}
theorem pl_far {base : Nat} {e : TypeId} {size n : Nat} {v : Value} {xs : List Value} (hr : w.ownsRow base e size v n xs) {p : Addr} (hp : p.block < base) (u : Value) : (w.setCell p u).ownsRow base e size v n xs :=
 ownsRow_setCell_other hr (fun e => by have := (hr.lt _ e).1; omega) u
theorem PlIs.below (p : PlIs W S B b h C r vb vr aF sF w) (hb : Below w.heap.size w w') : PlIs W S B b h C r vb vr aF sF w' :=
 ⟨p.o, p.t, p.bel.trans (hb.mono p.bel.size), p.low, p.a.below hb p.a.lt, owns_below p.ba hb, owns_below p.rw hb, p.ne, p.set, p.eq, p.nd, p.lt, p.base⟩
theorem PlIs.ord (p : PlIs W S B b h C r vb vr aF sF w) : OrdIs w B b h := p.o.below p.bel
theorem PlIs.tab (p : PlIs W S B b h C r vb vr aF sF w) : Tab w := p.t.below p.bel (p.t.pos)
theorem ahead_in {r : List Nat} (hlt : ∀ k ∈ r, k < 64) : ∀ {k j : Nat}, (aheadL r k).testBit j = true → (plS r).testBit j = true := by
 induction r with
 | nil => intro k j hj; unfold aheadL at hj; simp at hj
 | cons i r ih =>
  intro k j hj
  have hlt' : ∀ a ∈ r, a < 64 := fun a ha => hlt a (List.mem_cons_of_mem _ ha)
  have : (plS r).testBit j = true := by
   unfold aheadL at hj
   split at hj
   ·exact hj
   ·exact ih hlt' hj
  rw [plS_bit j _ hlt', decide_eq_true_eq] at this
  rw [plS_bit j _ hlt, decide_eq_true_eq]
  exact List.mem_cons_of_mem _ this
theorem base_tail {i : Nat} (hi : i ∉ r) (hb : ∀ k ∈ i :: r, ∀ j, (baseN h C k).testBit j = true → (aheadL (i :: r) k).testBit j = true) : (∀ k ∈ r, ∀ j, (baseN h C k).testBit j = true → (aheadL r k).testBit j = true) ∧ ∀ j, (baseN h C i).testBit j = true → (plS r).testBit j = true := by
 constructor
 ·intro k hk j hj
  have := hb k (List.mem_cons_of_mem _ hk) j hj
  unfold aheadL at this
  rwa [if_neg (fun e => hi (by rw [← e]; exact hk))] at this
 ·intro j hj
  have := hb i (List.mem_cons_self ..) j hj
  unfold aheadL at this
  rwa [if_pos rfl] at this
theorem sees_ahead {r : List Nat} (hlt : ∀ k ∈ r, k < 64) (hnd : r.Nodup) (hb : ∀ k ∈ r, ∀ j, (baseN h C k).testBit j = true → (aheadL r k).testBit j = true) : ∀ {k j : Nat}, (plSee h C r k).testBit j = true → (aheadL r k).testBit j = true := by
 induction r with
 | nil => intro k j hj; unfold plSee at hj; simp at hj
 | cons i r ih =>
  intro k j hj
  have hlt' : ∀ a ∈ r, a < 64 := fun a ha => hlt a (List.mem_cons_of_mem _ ha)
  obtain ⟨hi, hnd'⟩ := List.nodup_cons.1 hnd
  obtain ⟨hb', hbi⟩ := base_tail hi hb
  unfold plSee at hj
  unfold aheadL
  split at hj
  ·rename_i e
   rw [if_pos e]
   exact wld4_in hbi (fun k j _ hj => ahead_in hlt' (ih hlt' hnd' hb' hj)) (fun k j _ hj => ahead_in hlt' hj) hj
  ·rename_i e
   rw [if_neg e]
   exact ih hlt' hnd' hb' hj
end
end

end Go.Proofs.YtadihdkpoeibhaaGreatDoor
