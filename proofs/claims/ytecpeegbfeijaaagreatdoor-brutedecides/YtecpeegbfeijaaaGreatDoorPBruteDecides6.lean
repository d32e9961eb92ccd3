/- Walks and plain facts that the proof of the statement BruteDecides uses, joined: AxiB AxiC AxiD LevC LevE AxiE LeaB RelU OrdAA. Conditions: each theorem's own. -/
import Derived.Great.BuildSlice
import Derived.KernelRfl
import Derived.Test.YtecpeegbfeijaaaGreatDoorPBruteDecides0
import Derived.Test.YtecpeegbfeijaaaGreatDoorPBruteDecides1
import Derived.Test.YtecpeegbfeijaaaGreatDoorPBruteDecides3
import Derived.Test.YtecpeegbfeijaaaGreatDoorPBruteDecides4
import Derived.Test.YtecpeegbfeijaaaGreatDoorPBruteDecides5
namespace Go.Proofs.YtecpeegbfeijaaaGreatDoor
set_option maxRecDepth 100000
open Go.RowKit

/-- Who writes to a key. -/
def wrtN (h : List TxnV) (y : Int) : Nat := mkS fun j => decide (j < h.length) && decide (y ∈ keysOf (opsAt h j))
theorem wrtN_set (h : List TxnV) (y : Int) : IsSet (wrtN h y) := isSet_mkS _
theorem wrt_eq {h : List TxnV} {K : List KRow} (hc : checkI h = 0) (hK : K.map (·.2) = keysTo h h.length) (hA : AllSet (wrsTo K K.length)) (y : Int) : (wrsTo K K.length y).getD 0 = wrtN h y := by
  have hl := keys_len hK
  have h64 := (check_zero hc).1
  refine mkS_eq (hA y) fun j hj => ?_
  rw [wrsTo_bit K j y K.length (by omega) (Nat.le_refl _), hl]
  by_cases hjn : j < h.length
  · rw [keys_at hK hjn]
  · simp [hjn]
theorem reads_key {h : List TxnV} (hc : checkI h = 0) {i : Nat} (hi : i < h.length) {r : Int × Int} (hr : r ∈ readsOf h i) : 0 ≤ r.1 ∧ r.1 < 64 := by
  obtain ⟨_, _, _, hks⟩ := check_zero hc
  unfold readsOf rdFr at hr
  obtain ⟨o, ho, rfl⟩ := List.mem_map.1 hr
  have h1 := (refReads_in (List.mem_filter.1 ho).1).1
  rw [opsAt_eq hi] at h1
  exact hks _ (List.getElem_mem hi) o h1
/-- Does one read what the last one wrote that it sees? -/
def readOk (h : List TxnV) (l : List Int) (V : Mat) (i : Nat) (r : Int × Int) : Bool := decide (lastI l (seeTo V (i : Int) 64 &&& wrtN h r.1) = r.2)
def readsOk (h : List TxnV) (l : List Int) (V : Mat) (i k : Nat) : Bool := ((readsOf h i).take k).all (readOk h l V i)
def rightTo (h : List TxnV) (l : List Int) (V : Mat) (k : Nat) : Bool := (List.range k).all fun i => (readsOf h i).all (readOk h l V i)
/-- Is an order, and what is seen, right? -/
def rightM (h : List TxnV) (l : List Int) (V : Mat) : Bool := rowOkA (h.length : Int) l && (inM V (chainR l) && rightTo h l V h.length)
theorem readsOk_no {h : List TxnV} {l : List Int} {V : Mat} {i k : Nat} (hi : i < h.length) (hk : k < (readsOf h i).length) (hn : readOk h l V i (readsOf h i)[k] = false) : rightTo h l V h.length = false := by
  unfold rightTo
  rw [List.all_eq_false]
  refine ⟨i, List.mem_range.2 hi, ?_⟩
  rw [Bool.not_eq_true, List.all_eq_false]
  exact ⟨_, List.getElem_mem hk, by rw [hn]; simp⟩
theorem readsOk_succ {h : List TxnV} {l : List Int} {V : Mat} {i k : Nat} (hk : k < (readsOf h i).length) (hy : readOk h l V i (readsOf h i)[k] = true) (hp : readsOk h l V i k = true) : readsOk h l V i (k + 1) = true := by
  unfold readsOk at *
  rw [List.take_succ_eq_append_getElem hk, List.all_append, hp]
  simp [hy]
theorem rightTo_succ {h : List TxnV} {l : List Int} {V : Mat} {k : Nat} (hp : rightTo h l V k = true) (hy : readsOk h l V k (readsOf h k).length = true) : rightTo h l V (k + 1) = true := by
  unfold rightTo readsOk at *
  rw [List.take_length] at hy
  rw [List.range_succ, List.all_append, hp]
  simpa using hy
/-- What the reading of one read needs. -/
def RdS (B bm q : Nat) (rk rf : Int) (x : Nat) (w : World) : Prop := w.cell? ⟨B, 193, none⟩ = some (.map (some bm)) ∧ w.cell? ⟨q, 0, none⟩ = some (.int .i64 rk) ∧ w.cell? ⟨q, 1, none⟩ = some (.int .i64 rf) ∧
  Sem.run Tryz.prog (Instr.lookup 98 (.map (some bm)) (.int .i64 rk) false) w = .ok (.int .u64 (x : Int)) w
set_option maxRecDepth 100000 in
set_option maxHeartbeats 16000000 in
theorem aright_any (va : Value) (l : List Int) (V : Mat) (h : List TxnV) (B b : Nat) (w : World) (hO : OrdIs w B b h) (hc : checkI h = 0) (hl : Ints w va l) :
    Calls Tryz.prog 126 #[.pointer (some ⟨B, 0, none⟩), va, .agg (rowsA V)] w fun e w' => e = .returned (.bool (rightM h l V)) ∧ Below w.heap.size w w' := by
  have HR : Hid (rightM h l V = (rowOkA (h.length : Int) l && (inM V (chainR l) && rightTo h l V h.length))) := Lib.hid rfl
  have HC := Lib.hid hc
  obtain ⟨ao, cap, rfl, hal⟩ := hl.form
  have r0 : RelAt (w.alloc (.cells (rowsA V) 97)) w.heap.size 97 V := RelAt.made w _ _ rfl rfl
  have hb0 := box_below w (.cells (rowsA V) 97)
  have HO := Lib.hid (fun wx (hx : Below w.heap.size w wx) => hO.below hx)
  have HL := Lib.hid (fun wx (hx : Below w.heap.size w wx) => hl.below hx)
  clear hO hc hl
  go_enter Tryz.func126, Tryz.ntmps126
  go_upto_region 1 with fail
  generalize w.alloc (.cells (rowsA V) 97) = w0 at *
  have HB := Lib.hid (fun wx (hx : Below w0.heap.size w0 wx) => hb0.trans (hx.mono hb0.size))
  have HS : Hid (∀ wx, Below w0.heap.size w0 wx → OrdB wx B h ∧ RelAt wx w.heap.size 97 V) := Lib.hid (fun wx hx => ⟨(HO.out wx (hb0.trans (hx.mono hb0.size))).blk, r0.below hx r0.lt⟩)
  have CR := Lib.hid (fun wx (hx : Below w0.heap.size w0 wx) => arow_any (h.length : Int) _ l wx (HL.out wx (hb0.trans (hx.mono hb0.size))))
  have CC := Lib.hid (fun wx (hx : Below w0.heap.size w0 wx) => chain_any _ l wx (HL.out wx (hb0.trans (hx.mono hb0.size))))
  have CW := Lib.hid (fun wx => withinR_any V (chainR l) wx)
  have kd := (Below.refl w0.heap.size w0).drew
  clear r0 hb0
  cases hrow : rowOkA (h.length : Int) l with
  | false =>
    have HV : Hid (false = rightM h l V) := Lib.hid (by rw [HR.out, hrow]; rfl)
    rw [hrow] at CR
    clear hrow HR
    refine wp_region_held_drew (S := fun wx => OrdB wx B h ∧ RelAt wx w.heap.size 97 V) (by kernel_rfl) (HS.out _ kd) (fun hS0 => ?_)
    refine takeG (some 12) (i := 0) (v := ?ve0) rfl rfl (by kernel_rfl) (by kernel_rfl) (by kernel_rfl) (fun _ _ _ h => h) (Or.inl ⟨by rfl, ?he0⟩) hS0 ?re0
    case he0 => (intro w hw; have hn := hw.1.cN; go_simp; try (with_reducible rfl))
    try simp only [Act.put, List.setIfInBounds_toArray, List.set_cons_zero, List.set_cons_succ]
    refine takeG (some 13) (i := 1) (v := ?ve1) rfl rfl (by kernel_rfl) (by kernel_rfl) (by kernel_rfl) (fun _ _ _ h => h) (Or.inl ⟨by rfl, ?he1⟩) hS0 ?re1
    case he1 => (intro w hw; have hn := hw.1.cN; go_simp; try (with_reducible rfl))
    try simp only [Act.put, List.setIfInBounds_toArray, List.set_cons_zero, List.set_cons_succ]
    refine takeG (some 14) (i := 2) (v := ?ve2) rfl rfl (by kernel_rfl) (by kernel_rfl) (by kernel_rfl) (fun _ _ _ h => h) (Or.inl ⟨by rfl, ?he2⟩) hS0 ?re2
    case he2 => (intro w hw; have hn := hw.1.cN; go_simp; try (with_reducible rfl))
    try simp only [Act.put, List.setIfInBounds_toArray, List.set_cons_zero, List.set_cons_succ]
    refine takeG (some 15) (i := 3) (v := ?ve3) rfl rfl (by kernel_rfl) (by kernel_rfl) (by kernel_rfl) (fun _ _ _ h => h) (Or.inl ⟨by rfl, ?he3⟩) hS0 ?re3
    case he3 => (intro w hw; have hn := hw.1.cN; go_simp; try (with_reducible rfl))
    try simp only [Act.put, List.setIfInBounds_toArray, List.set_cons_zero, List.set_cons_succ]
    refine takeG (some 16) (i := 4) (v := ?ve4) rfl rfl (by kernel_rfl) (by kernel_rfl) (by kernel_rfl) (fun _ _ _ h => h) (Or.inl ⟨by rfl, ?he4⟩) hS0 ?re4
    case he4 => (intro w hw; have hn := hw.1.cN; go_simp; try (with_reducible rfl))
    try simp only [Act.put, List.setIfInBounds_toArray, List.set_cons_zero, List.set_cons_succ]
    refine wpAnyH_ready (rs := [5]) (by kernel_rfl) (by simp) ?_
    refine AllReadyH.cons rfl (fun K hK => ?_) AllReadyH.nil
    go_simp
    refine (CR.out _ kd).mono ?_
    rintro e q1 ⟨rfl, rfl⟩
    show K _ _
    refine hK.out _ _ hS0 (fun _ => ?_)
    clear hK K
    refine takeG (some 18) (i := 6) (v := ?ve6) rfl rfl (by kernel_rfl) (by kernel_rfl) (by kernel_rfl) (fun _ _ _ h => h) (Or.inl ⟨by rfl, ?he6⟩) hS0 ?re6
    case he6 => (intro w _; go_simp; try (with_reducible rfl))
    try simp only [Act.put, List.setIfInBounds_toArray, List.set_cons_zero, List.set_cons_succ]
    refine takeG (some 19) (i := 7) (v := ?ve7) rfl rfl (by kernel_rfl) (by kernel_rfl) (by kernel_rfl) (fun _ _ _ h => h) (Or.inl ⟨by rfl, ?he7⟩) hS0 ?re7
    case he7 => (intro w _; go_simp; try (with_reducible rfl))
    try simp only [Act.put, List.setIfInBounds_toArray, List.set_cons_zero, List.set_cons_succ]
    refine takeG (some 20) (i := 8) (v := undef) rfl rfl (by kernel_rfl) (by kernel_rfl) (by kernel_rfl) (fun _ _ _ h => h) (Or.inr ⟨by rfl, rfl⟩) hS0 ?_
    try simp only [Act.put, List.setIfInBounds_toArray, List.set_cons_zero, List.set_cons_succ]
    refine takeG (some 21) (i := 9) (v := undef) rfl rfl (by kernel_rfl) (by kernel_rfl) (by kernel_rfl) (fun _ _ _ h => h) (Or.inr ⟨by rfl, rfl⟩) hS0 ?_
    try simp only [Act.put, List.setIfInBounds_toArray, List.set_cons_zero, List.set_cons_succ]
    refine takeG (some 22) (i := 10) (v := undef) rfl rfl (by kernel_rfl) (by kernel_rfl) (by kernel_rfl) (fun _ _ _ h => h) (Or.inr ⟨by rfl, rfl⟩) hS0 ?_
    try simp only [Act.put, List.setIfInBounds_toArray, List.set_cons_zero, List.set_cons_succ]
    refine takeG (some 23) (i := 11) (v := undef) rfl rfl (by kernel_rfl) (by kernel_rfl) (by kernel_rfl) (fun _ _ _ h => h) (Or.inr ⟨by rfl, rfl⟩) hS0 ?_
    try simp only [Act.put, List.setIfInBounds_toArray, List.set_cons_zero, List.set_cons_succ]
    refine takeG (some 24) (i := 12) (v := undef) rfl rfl (by kernel_rfl) (by kernel_rfl) (by kernel_rfl) (fun _ _ _ h => h) (Or.inr ⟨by rfl, rfl⟩) hS0 ?_
    try simp only [Act.put, List.setIfInBounds_toArray, List.set_cons_zero, List.set_cons_succ]
    refine takeG (some 25) (i := 13) (v := ?ve13) rfl rfl (by kernel_rfl) (by kernel_rfl) (by kernel_rfl) (fun _ _ _ h => h) (Or.inl ⟨by rfl, ?he13⟩) hS0 ?re13
    case he13 => (intro w _; go_simp; try (with_reducible rfl))
    try simp only [Act.put, List.setIfInBounds_toArray, List.set_cons_zero, List.set_cons_succ]
    refine wpAnyH_done (by kernel_rfl) ?_ _
    go_wp2_with fail
    go_ret
    exact ⟨ret_b HV.out, HB.out _ kd⟩
  | true =>
    rw [hrow] at CR
    cases hin : inM V (chainR l) with
    | false =>
      have HV : Hid (false = rightM h l V) := Lib.hid (by rw [HR.out, hrow, hin]; rfl)
      rw [hin] at CW
      clear hrow hin HR
      refine wp_region_held_drew (S := fun wx => OrdB wx B h ∧ RelAt wx w.heap.size 97 V) (by kernel_rfl) (HS.out _ kd) (fun hS0 => ?_)
      refine takeG (some 12) (i := 0) (v := ?vf0) rfl rfl (by kernel_rfl) (by kernel_rfl) (by kernel_rfl) (fun _ _ _ h => h) (Or.inl ⟨by rfl, ?hf0⟩) hS0 ?rf0
      case hf0 => (intro w hw; have hn := hw.1.cN; go_simp; try (with_reducible rfl))
      try simp only [Act.put, List.setIfInBounds_toArray, List.set_cons_zero, List.set_cons_succ]
      refine takeG (some 13) (i := 1) (v := ?vf1) rfl rfl (by kernel_rfl) (by kernel_rfl) (by kernel_rfl) (fun _ _ _ h => h) (Or.inl ⟨by rfl, ?hf1⟩) hS0 ?rf1
      case hf1 => (intro w hw; have hn := hw.1.cN; go_simp; try (with_reducible rfl))
      try simp only [Act.put, List.setIfInBounds_toArray, List.set_cons_zero, List.set_cons_succ]
      refine takeG (some 14) (i := 2) (v := ?vf2) rfl rfl (by kernel_rfl) (by kernel_rfl) (by kernel_rfl) (fun _ _ _ h => h) (Or.inl ⟨by rfl, ?hf2⟩) hS0 ?rf2
      case hf2 => (intro w hw; have hn := hw.1.cN; go_simp; try (with_reducible rfl))
      try simp only [Act.put, List.setIfInBounds_toArray, List.set_cons_zero, List.set_cons_succ]
      refine takeG (some 15) (i := 3) (v := ?vf3) rfl rfl (by kernel_rfl) (by kernel_rfl) (by kernel_rfl) (fun _ _ _ h => h) (Or.inl ⟨by rfl, ?hf3⟩) hS0 ?rf3
      case hf3 => (intro w hw; have hn := hw.1.cN; go_simp; try (with_reducible rfl))
      try simp only [Act.put, List.setIfInBounds_toArray, List.set_cons_zero, List.set_cons_succ]
      refine takeG (some 16) (i := 4) (v := ?vf4) rfl rfl (by kernel_rfl) (by kernel_rfl) (by kernel_rfl) (fun _ _ _ h => h) (Or.inl ⟨by rfl, ?hf4⟩) hS0 ?rf4
      case hf4 => (intro w hw; have hn := hw.1.cN; go_simp; try (with_reducible rfl))
      try simp only [Act.put, List.setIfInBounds_toArray, List.set_cons_zero, List.set_cons_succ]
      refine wpAnyH_ready (rs := [5]) (by kernel_rfl) (by simp) ?_
      refine AllReadyH.cons rfl (fun K hK => ?_) AllReadyH.nil
      go_simp
      refine (CR.out _ kd).mono ?_
      rintro e q1 ⟨rfl, rfl⟩
      show K _ _
      refine hK.out _ _ hS0 (fun _ => ?_)
      clear hK K
      refine takeG (some 18) (i := 6) (v := ?vf6) rfl rfl (by kernel_rfl) (by kernel_rfl) (by kernel_rfl) (fun _ _ _ h => h) (Or.inl ⟨by rfl, ?hf6⟩) hS0 ?rf6
      case hf6 => (intro w _; go_simp; try (with_reducible rfl))
      try simp only [Act.put, List.setIfInBounds_toArray, List.set_cons_zero, List.set_cons_succ]
      refine takeG (some 19) (i := 7) (v := ?vf7) rfl rfl (by kernel_rfl) (by kernel_rfl) (by kernel_rfl) (fun _ _ _ h => h) (Or.inl ⟨by rfl, ?hf7⟩) hS0 ?rf7
      case hf7 => (intro w _; go_simp; try (with_reducible rfl))
      try simp only [Act.put, List.setIfInBounds_toArray, List.set_cons_zero, List.set_cons_succ]
      refine takeG (some 20) (i := 8) (v := _) rfl rfl (by kernel_rfl) (by kernel_rfl) (by kernel_rfl) (fun _ _ _ h => h) (yields_rel (by rfl) _ rfl rfl (fun wx hx => hx.2)) hS0 ?_
      try simp only [Act.put, List.setIfInBounds_toArray, List.set_cons_zero, List.set_cons_succ]
      refine takeG (some 21) (i := 9) (v := ?vf9) rfl rfl (by kernel_rfl) (by kernel_rfl) (by kernel_rfl) (fun _ _ _ h => h) (Or.inl ⟨by rfl, ?hf9⟩) hS0 ?rf9
      case hf9 => (intro w _; go_simp; try (with_reducible rfl))
      try simp only [Act.put, List.setIfInBounds_toArray, List.set_cons_zero, List.set_cons_succ]
      refine wpAnyH_ready (rs := [10]) (by kernel_rfl) (by simp) ?_
      refine AllReadyH.cons rfl (fun K hK => ?_) AllReadyH.nil
      go_simp
      refine (CC.out _ kd).mono ?_
      rintro e q2 ⟨rfl, hq2⟩
      show K _ _
      have k2 := below_then kd hq2
      have s2 := HS.out _ k2
      refine hK.out _ _ s2 (fun _ => ?_)
      clear hK K
      refine wpAnyH_ready (rs := [11]) (by kernel_rfl) (by simp) ?_
      refine AllReadyH.cons rfl (fun K hK => ?_) AllReadyH.nil
      go_simp
      refine (CW.out q2).mono ?_
      rintro e q3 ⟨rfl, hq3⟩
      show K _ _
      have k3 := below_then k2 hq3
      have s3 := HS.out _ k3
      refine hK.out _ _ s3 (fun _ => ?_)
      clear hK K
      refine takeG (some 24) (i := 12) (v := ?vf12) rfl rfl (by kernel_rfl) (by kernel_rfl) (by kernel_rfl) (fun _ _ _ h => h) (Or.inl ⟨by rfl, ?hf12⟩) s3 ?rf12
      case hf12 => (intro w _; go_simp; try (with_reducible rfl))
      try simp only [Act.put, List.setIfInBounds_toArray, List.set_cons_zero, List.set_cons_succ]
      refine takeG (some 25) (i := 13) (v := ?vf13) rfl rfl (by kernel_rfl) (by kernel_rfl) (by kernel_rfl) (fun _ _ _ h => h) (Or.inl ⟨by rfl, ?hf13⟩) s3 ?rf13
      case hf13 => (intro w _; go_simp; try (with_reducible rfl))
      try simp only [Act.put, List.setIfInBounds_toArray, List.set_cons_zero, List.set_cons_succ]
      refine wpAnyH_done (by kernel_rfl) ?_ _
      go_wp2_with fail
      go_ret
      exact ⟨ret_b HV.out, HB.out _ k3⟩
    | true =>
    have HV : Hid (rightM h l V = rightTo h l V h.length) := Lib.hid (by rw [HR.out, hrow, hin]; rfl)
    rw [hin] at CW
    clear hrow hin HR
    refine wp_region_held_drew (S := fun wx => OrdB wx B h ∧ RelAt wx w.heap.size 97 V) (by kernel_rfl) (HS.out _ kd) (fun hS0 => ?_)
    refine takeG (some 12) (i := 0) (v := ?vg0) rfl rfl (by kernel_rfl) (by kernel_rfl) (by kernel_rfl) (fun _ _ _ h => h) (Or.inl ⟨by rfl, ?hg0⟩) hS0 ?rg0
    case hg0 => (intro w hw; have hn := hw.1.cN; go_simp; try (with_reducible rfl))
    try simp only [Act.put, List.setIfInBounds_toArray, List.set_cons_zero, List.set_cons_succ]
    refine takeG (some 13) (i := 1) (v := ?vg1) rfl rfl (by kernel_rfl) (by kernel_rfl) (by kernel_rfl) (fun _ _ _ h => h) (Or.inl ⟨by rfl, ?hg1⟩) hS0 ?rg1
    case hg1 => (intro w hw; have hn := hw.1.cN; go_simp; try (with_reducible rfl))
    try simp only [Act.put, List.setIfInBounds_toArray, List.set_cons_zero, List.set_cons_succ]
    refine takeG (some 14) (i := 2) (v := ?vg2) rfl rfl (by kernel_rfl) (by kernel_rfl) (by kernel_rfl) (fun _ _ _ h => h) (Or.inl ⟨by rfl, ?hg2⟩) hS0 ?rg2
    case hg2 => (intro w hw; have hn := hw.1.cN; go_simp; try (with_reducible rfl))
    try simp only [Act.put, List.setIfInBounds_toArray, List.set_cons_zero, List.set_cons_succ]
    refine takeG (some 15) (i := 3) (v := ?vg3) rfl rfl (by kernel_rfl) (by kernel_rfl) (by kernel_rfl) (fun _ _ _ h => h) (Or.inl ⟨by rfl, ?hg3⟩) hS0 ?rg3
    case hg3 => (intro w hw; have hn := hw.1.cN; go_simp; try (with_reducible rfl))
    try simp only [Act.put, List.setIfInBounds_toArray, List.set_cons_zero, List.set_cons_succ]
    refine takeG (some 16) (i := 4) (v := ?vg4) rfl rfl (by kernel_rfl) (by kernel_rfl) (by kernel_rfl) (fun _ _ _ h => h) (Or.inl ⟨by rfl, ?hg4⟩) hS0 ?rg4
    case hg4 => (intro w hw; have hn := hw.1.cN; go_simp; try (with_reducible rfl))
    try simp only [Act.put, List.setIfInBounds_toArray, List.set_cons_zero, List.set_cons_succ]
    refine wpAnyH_ready (rs := [5]) (by kernel_rfl) (by simp) ?_
    refine AllReadyH.cons rfl (fun K hK => ?_) AllReadyH.nil
    go_simp
    refine (CR.out _ kd).mono ?_
    rintro e q1 ⟨rfl, rfl⟩
    show K _ _
    refine hK.out _ _ hS0 (fun _ => ?_)
    clear hK K
    refine takeG (some 18) (i := 6) (v := ?vg6) rfl rfl (by kernel_rfl) (by kernel_rfl) (by kernel_rfl) (fun _ _ _ h => h) (Or.inl ⟨by rfl, ?hg6⟩) hS0 ?rg6
    case hg6 => (intro w _; go_simp; try (with_reducible rfl))
    try simp only [Act.put, List.setIfInBounds_toArray, List.set_cons_zero, List.set_cons_succ]
    refine takeG (some 19) (i := 7) (v := ?vg7) rfl rfl (by kernel_rfl) (by kernel_rfl) (by kernel_rfl) (fun _ _ _ h => h) (Or.inl ⟨by rfl, ?hg7⟩) hS0 ?rg7
    case hg7 => (intro w _; go_simp; try (with_reducible rfl))
    try simp only [Act.put, List.setIfInBounds_toArray, List.set_cons_zero, List.set_cons_succ]
    refine takeG (some 20) (i := 8) (v := _) rfl rfl (by kernel_rfl) (by kernel_rfl) (by kernel_rfl) (fun _ _ _ h => h) (yields_rel (by rfl) _ rfl rfl (fun wx hx => hx.2)) hS0 ?_
    try simp only [Act.put, List.setIfInBounds_toArray, List.set_cons_zero, List.set_cons_succ]
    refine takeG (some 21) (i := 9) (v := ?vg9) rfl rfl (by kernel_rfl) (by kernel_rfl) (by kernel_rfl) (fun _ _ _ h => h) (Or.inl ⟨by rfl, ?hg9⟩) hS0 ?rg9
    case hg9 => (intro w _; go_simp; try (with_reducible rfl))
    try simp only [Act.put, List.setIfInBounds_toArray, List.set_cons_zero, List.set_cons_succ]
    refine wpAnyH_ready (rs := [10]) (by kernel_rfl) (by simp) ?_
    refine AllReadyH.cons rfl (fun K hK => ?_) AllReadyH.nil
    go_simp
    refine (CC.out _ kd).mono ?_
    rintro e q2 ⟨rfl, hq2⟩
    show K _ _
    have k2 := below_then kd hq2
    have s2 := HS.out _ k2
    refine hK.out _ _ s2 (fun _ => ?_)
    clear hK K
    refine wpAnyH_ready (rs := [11]) (by kernel_rfl) (by simp) ?_
    refine AllReadyH.cons rfl (fun K hK => ?_) AllReadyH.nil
    go_simp
    refine (CW.out q2).mono ?_
    rintro e q3 ⟨rfl, hq3⟩
    show K _ _
    have k3 := below_then k2 hq3
    have s3 := HS.out _ k3
    refine hK.out _ _ s3 (fun _ => ?_)
    clear hK K
    refine takeG (some 24) (i := 12) (v := ?vg12) rfl rfl (by kernel_rfl) (by kernel_rfl) (by kernel_rfl) (fun _ _ _ h => h) (Or.inl ⟨by rfl, ?hg12⟩) s3 ?rg12
    case hg12 => (intro w _; go_simp; try (with_reducible rfl))
    try simp only [Act.put, List.setIfInBounds_toArray, List.set_cons_zero, List.set_cons_succ]
    refine takeG (some 25) (i := 13) (v := ?vg13) rfl rfl (by kernel_rfl) (by kernel_rfl) (by kernel_rfl) (fun _ _ _ h => h) (Or.inl ⟨by rfl, ?hg13⟩) s3 ?rg13
    case hg13 => (intro w _; go_simp; try (with_reducible rfl))
    try simp only [Act.put, List.setIfInBounds_toArray, List.set_cons_zero, List.set_cons_succ]
    refine wpAnyH_done (by kernel_rfl) ?_ _
    have hO3 := HO.out _ (HB.out _ k3)
    have hRV := s3.2
    have hb3 := HB.out _ k3
    clear kd hS0 k2 s2 s3 k3 CR CC CW HS HB hq2 hq3
    obtain ⟨bm, mm, mc, vk, vr, KK, RR, h1, h2, h3, h4, h5, h6⟩ := hO3
    have hlR : RR.length = h.length := by have := congrArg List.length h6; simpa [readsTo] using this
    have HLR := Lib.hid hlR
    have HAT : Hid (∀ i (hi : i < RR.length), RR[i].2 = readsOf h i) := Lib.hid (fun i hi => by
      have := congrArg (·[i]?) h6
      simp only [List.getElem?_map, List.getElem?_eq_getElem hi, readsTo, List.getElem?_range (show i < h.length by omega), Option.map_some] at this
      exact Option.some.inj this)
    obtain ⟨ar, cr, rfl⟩ := h4.frws.form
    have hF := h4.frws
    have HFR := Lib.hid (fun wx (hx : Below q3.heap.size q3 wx) => hF.below hx)
    have HM := Lib.hid (fun wx (hx : Below q3.heap.size q3 wx) => h2.below hx)
    have HOA := Lib.hid (fun wx (hx : Below q3.heap.size q3 wx) => h1.below hx h1.lt)
    have HRV := Lib.hid (fun wx (hx : Below q3.heap.size q3 wx) => hRV.below hx hRV.lt)
    have HL3 := Lib.hid (fun wx (hx : Below q3.heap.size q3 wx) => HL.out wx (hb3.trans (hx.mono hb3.size)))
    have HB3 := Lib.hid (fun wx (hx : Below q3.heap.size q3 wx) => hb3.trans (hx.mono hb3.size))
    have HWR : Hid (∀ y, (wrsTo KK KK.length y).getD 0 = wrtN h y) := Lib.hid (wrt_eq HC.out h5 h3)
    have c3 := h1.cR
    clear h1 h2 h3 h4 h5 h6 hF hRV hb3 hlR HO HL
    go_wp2_with fail
    clear c3
    go_loopw [31] (fun i wr => ∃ k : Nat, k ≤ RR.length ∧ i = .int .i64 k ∧ rightTo h l V k = true ∧ Below q3.heap.size q3 wr) (fun i _ => RR.length - (intOf i).toNat)
    case atStart => exact ⟨0, by omega, rfl, rfl, Below.refl _ _⟩
    case round =>
      obtain ⟨i, hi, rfl, hrt, hb⟩ := hrel
      have HRT := Lib.hid hrt
      clear hrt
      by_cases hlt : i < RR.length
      · have hki : (i : Int) < (RR.length : Int) := by omega
        have hih : i < h.length := by have := HLR.out; omega
        have hi64 : (i : Int) < 64 := by have := (check_zero HC.out).1; omega
        obtain ⟨g, o, hao, c0, hfr⟩ := (HFR.out _ hb).at hlt
        cases hao
        rw [HAT.out i hlt] at hfr
        have HFI := Lib.hid (fun wx (hx : Below wr.heap.size wr wx) => hfr.below hx)
        obtain ⟨ai, ci, hvi, hri⟩ := hfr.form
        rw [hvi] at c0 HFI
        clear hvi hfr
        have y0 := HRV.out _ hb
        go_wp2_with (with_reducible refine wpList_load_rel y0 rfl _ rfl rfl ?_)
        refine (asees_any V (i : Int) _).mono ?_
        rintro e w1 ⟨rfl, hb1⟩
        have hbi := below_then hb hb1
        have HF1 := Lib.hid (fun wx (hx : Below w1.heap.size w1 wx) => HFI.out wx (below_then hb1 hx))
        have hset := seeTo_set V (i : Int) 64
        clear y0 c0 HFI hb1
        have HSN : Hid (∃ sn, sn = seeTo V (i : Int) 64) := Lib.hid ⟨_, rfl⟩
        obtain ⟨sn, hsn⟩ := HSN.out
        rw [← hsn] at hset ⊢
        have HSN := Lib.hid hsn
        clear hsn
        have hb1 := Below.refl w1.heap.size w1
        go_wp2_with fail
        go_loopw [41] (fun j wx => ∃ k : Nat, k ≤ (readsOf h i).length ∧ j = .int .i64 k ∧ readsOk h l V i k = true ∧ Below w1.heap.size w1 wx) (fun j _ => (readsOf h i).length - (intOf j).toNat)
        case atStart => exact ⟨0, by omega, rfl, rfl, hb1⟩
        case round =>
          obtain ⟨k, hk, rfl, hro, hbk⟩ := hrel
          have HRO := Lib.hid hro
          clear hro hb1
          by_cases hlk : k < (readsOf h i).length
          · have hkk : (k : Int) < ((readsOf h i).length : Int) := by omega
            obtain ⟨gk, ok, hao, e0, e1⟩ := (HF1.out _ hbk).at hlk
            cases hao
            have hkey := reads_key HC.out hih (List.getElem_mem hlk)
            have HRD : Hid (readOk h l V i (readsOf h i)[k] = decide (lastI l (sn &&& wrtN h (readsOf h i)[k].1) = (readsOf h i)[k].2)) := Lib.hid (by rw [HSN.out]; rfl)
            have HNO := Lib.hid (fun hn => readsOk_no (l := l) (V := V) hih hlk hn)
            have HYE := Lib.hid (fun hy => readsOk_succ (l := l) (V := V) hlk hy HRO.out)
            generalize readOk h l V i (readsOf h i)[k] = rb at *
            generalize (readsOf h i)[k] = rr at *
            obtain ⟨rk, rf⟩ := rr
            simp only at e0 e1 hkey HRD
            have hkI : InI rk := inI_of (by unfold IntOk; omega)
            have hbq := hbk.alloc hbk.size (.cells #[.int .i64 rk, .int .i64 rf] 111)
            have hbq3 := below_then hbi hbk
            have hbq4 := hbq3.alloc hbq3.size (.cells #[.int .i64 rk, .int .i64 rf] 111)
            obtain ⟨d0, d1⟩ : (wr.alloc (.cells #[.int .i64 rk, .int .i64 rf] 111)).cell? ⟨wr.heap.size, 0, none⟩ = some (.int .i64 rk) ∧ (wr.alloc (.cells #[.int .i64 rk, .int .i64 rf] 111)).cell? ⟨wr.heap.size, 1, none⟩ = some (.int .i64 rf) := by
              constructor <;> (rw [cell_of_row _ _ _ _ _ _ (heap_alloc_new wr _)]; rfl)
            go_upto_region 10 with fail
            clear e0 e1 hbk hbq3
            generalize wr.alloc (.cells #[.int .i64 rk, .int .i64 rf] 111) = w5 at *
            generalize wr.heap.size = q at *
            have kd := (Below.refl w5.heap.size w5).drew
            have hx : Hid (∃ x, x = wrtN h rk) := Lib.hid ⟨_, rfl⟩
            obtain ⟨x, hx⟩ := hx.out
            have hxs : IsSet x := by rw [hx]; exact wrtN_set h rk
            have HX := Lib.hid hx
            rw [← hx] at HRD
            clear hx
            have HS2 : Hid (∀ wx, Below w5.heap.size w5 wx → RdS B bm q rk rf x wx) := Lib.hid (fun wx hx => by
              have hbw := below_then hbq4 hx
              refine ⟨(HOA.out wx hbw).cM, (hx.cell (p := ⟨q, 0, none⟩) (block_lt d0)).trans d0, (hx.cell (p := ⟨q, 1, none⟩) (block_lt d1)).trans d1, ?_⟩
              have hK := lookI_run (t := 98) (el := 95) (w := wx) false keyI mapIS 0 (zeroS _) (HM.out wx hbw) hkI
              rw [HWR.out rk, ← HX.out] at hK
              simpa only [Bool.false_eq_true, if_false, eS] using hK)
            have HAND := Lib.hid (Go.bits_and_u64_nat sn x hset hxs)
            have hand := HAND.out
            have CL := Lib.hid (fun wx (hx : Below w5.heap.size w5 wx) => alast_any _ l (sn &&& x) wx (isSet_and hset) (HL3.out wx (below_then hbq4 hx)))
            generalize sn &&& x = sx at *
            generalize lastI l sx = lv at *
            have HBK := Lib.hid (fun wx (hx : Below w5.heap.size w5 wx) => And.intro (below_then hbq hx) (HB3.out wx (below_then hbq4 hx)))
            clear d0 d1 hbq hbq4 HX HRO
            cases rb with
            | true =>
              have hlv : lv = rf := of_decide_eq_true HRD.out.symm
              rw [hlv] at CL
              clear hlv
              have HY := Lib.hid (HYE.out rfl)
              clear HRD HNO HYE
              · skip
                refine wp_region_held_drew (S := RdS B bm q rk rf x) (by kernel_rfl) (HS2.out _ kd) (fun hS0 => ?_)
                refine takeG (some 45) (i := 0) (v := ?vb00) rfl rfl (by kernel_rfl) (by kernel_rfl) (by kernel_rfl) (fun _ _ _ h => h) (Or.inl ⟨by rfl, ?hb00⟩) hS0 ?rb00
                case hb00 => (intro w hw; obtain ⟨n0, n1, n2, n3⟩ := hw; go_simp; try (with_reducible rfl))
                try simp only [Act.put, List.setIfInBounds_toArray, List.set_cons_zero, List.set_cons_succ]
                refine takeG (some 46) (i := 1) (v := ?vb01) rfl rfl (by kernel_rfl) (by kernel_rfl) (by kernel_rfl) (fun _ _ _ h => h) (Or.inl ⟨by rfl, ?hb01⟩) hS0 ?rb01
                case hb01 => (intro w hw; obtain ⟨n0, n1, n2, n3⟩ := hw; go_simp; try (with_reducible rfl))
                try simp only [Act.put, List.setIfInBounds_toArray, List.set_cons_zero, List.set_cons_succ]
                refine takeG (some 47) (i := 2) (v := ?vb02) rfl rfl (by kernel_rfl) (by kernel_rfl) (by kernel_rfl) (fun _ _ _ h => h) (Or.inl ⟨by rfl, ?hb02⟩) hS0 ?rb02
                case hb02 => (intro w hw; obtain ⟨n0, n1, n2, n3⟩ := hw; go_simp; try (with_reducible rfl))
                try simp only [Act.put, List.setIfInBounds_toArray, List.set_cons_zero, List.set_cons_succ]
                refine takeG (some 48) (i := 3) (v := ?vb03) rfl rfl (by kernel_rfl) (by kernel_rfl) (by kernel_rfl) (fun _ _ _ h => h) (Or.inl ⟨by rfl, ?hb03⟩) hS0 ?rb03
                case hb03 => (intro w hw; obtain ⟨n0, n1, n2, n3⟩ := hw; go_simp; try (with_reducible rfl))
                try simp only [Act.put, List.setIfInBounds_toArray, List.set_cons_zero, List.set_cons_succ]
                refine takeG (some 49) (i := 4) (v := ?vb04) rfl rfl (by kernel_rfl) (by kernel_rfl) (by kernel_rfl) (fun _ _ _ h => h) (Or.inl ⟨by rfl, ?hb04⟩) hS0 ?rb04
                case hb04 => (intro w hw; obtain ⟨n0, n1, n2, n3⟩ := hw; go_simp; try (with_reducible rfl))
                try simp only [Act.put, List.setIfInBounds_toArray, List.set_cons_zero, List.set_cons_succ]
                refine takeG (some 50) (i := 5) (v := ?vb05) rfl rfl (by kernel_rfl) (by kernel_rfl) (by kernel_rfl) (fun _ _ _ h => h) (Or.inl ⟨by rfl, ?hb05⟩) hS0 ?rb05
                case hb05 => (intro w hw; obtain ⟨n0, n1, n2, n3⟩ := hw; go_simp; try (with_reducible rfl))
                try simp only [Act.put, List.setIfInBounds_toArray, List.set_cons_zero, List.set_cons_succ]
                refine takeG (some 51) (i := 6) (v := ?vb06) rfl rfl (by kernel_rfl) (by kernel_rfl) (by kernel_rfl) (fun _ _ _ h => h) (Or.inl ⟨by rfl, ?hb06⟩) hS0 ?rb06
                case hb06 => (intro w hw; obtain ⟨n0, n1, n2, n3⟩ := hw; go_simp; try (with_reducible rfl))
                try simp only [Act.put, List.setIfInBounds_toArray, List.set_cons_zero, List.set_cons_succ]
                refine takeG (some 52) (i := 7) (v := ?vb07) rfl rfl (by kernel_rfl) (by kernel_rfl) (by kernel_rfl) (fun _ _ _ h => h) (Or.inl ⟨by rfl, ?hb07⟩) hS0 ?rb07
                case hb07 => (intro w hw; obtain ⟨n0, n1, n2, n3⟩ := hw; go_simp; try (with_reducible rfl))
                try simp only [Act.put, List.setIfInBounds_toArray, List.set_cons_zero, List.set_cons_succ]
                refine takeG (some 53) (i := 8) (v := ?vb08) rfl rfl (by kernel_rfl) (by kernel_rfl) (by kernel_rfl) (fun _ _ _ h => h) (Or.inl ⟨by rfl, ?hb08⟩) hS0 ?rb08
                case hb08 => (intro w hw; obtain ⟨n0, n1, n2, n3⟩ := hw; go_simp; try (with_reducible rfl))
                try simp only [Act.put, List.setIfInBounds_toArray, List.set_cons_zero, List.set_cons_succ]
                refine takeG (some 54) (i := 9) (v := ?vb09) rfl rfl (by kernel_rfl) (by kernel_rfl) (by kernel_rfl) (fun _ _ _ h => h) (Or.inl ⟨by rfl, ?hb09⟩) hS0 ?rb09
                case hb09 => (intro w hw; obtain ⟨n0, n1, n2, n3⟩ := hw; go_simp; try (with_reducible rfl))
                try simp only [Act.put, List.setIfInBounds_toArray, List.set_cons_zero, List.set_cons_succ]
                refine takeG (some 56) (i := 11) (v := ?vb011) rfl rfl (by kernel_rfl) (by kernel_rfl) (by kernel_rfl) (fun _ _ _ h => h) (Or.inl ⟨by rfl, ?hb011⟩) hS0 ?rb011
                case hb011 => (intro w hw; obtain ⟨n0, n1, n2, n3⟩ := hw; go_simp; try (with_reducible rfl))
                try simp only [Act.put, List.setIfInBounds_toArray, List.set_cons_zero, List.set_cons_succ]
                refine takeG (some 57) (i := 12) (v := ?vb012) rfl rfl (by kernel_rfl) (by kernel_rfl) (by kernel_rfl) (fun _ _ _ h => h) (Or.inl ⟨by rfl, ?hb012⟩) hS0 ?rb012
                case hb012 => (intro w hw; obtain ⟨n0, n1, n2, n3⟩ := hw; go_simp; try (with_reducible rfl))
                try simp only [Act.put, List.setIfInBounds_toArray, List.set_cons_zero, List.set_cons_succ]
                refine wpAnyH_ready (rs := [10]) (by kernel_rfl) (by simp) ?_
                refine AllReadyH.cons rfl (fun K hK => ?_) AllReadyH.nil
                go_simp
                refine (CL.out _ kd).mono ?_
                rintro e q2 ⟨rfl, hq2⟩
                show K _ _
                have k2 := below_then kd hq2
                have s2 := HS2.out _ k2
                refine hK.out _ _ s2 (fun _ => ?_)
                clear hK K
                refine takeG (some 58) (i := 13) (v := ?vb013) rfl rfl (by kernel_rfl) (by kernel_rfl) (by kernel_rfl) (fun _ _ _ h => h) (Or.inl ⟨by rfl, ?hb013⟩) s2 ?rb013
                case hb013 => (intro w _; go_simp; try (with_reducible rfl))
                try simp only [Act.put, List.setIfInBounds_toArray, List.set_cons_zero, List.set_cons_succ]
                refine wpAnyH_done (by kernel_rfl) ?_ _
                obtain ⟨hz1, _⟩ := HBK.out _ k2
                clear HBK CL HS2 s2 k2 kd hS0 hand HAND
                go_wp2_with fail
                go_roundw
                case rel => exact ⟨k + 1, by omega, by go_num, HY.out, hz1⟩
                case measure => simp [intOf]; omega
            | false =>
              have hlv : ¬ lv = rf := of_decide_eq_false HRD.out.symm
              have HY := Lib.hid (HNO.out rfl)
              clear HRD HNO HYE
              · skip
                refine wp_region_held_drew (S := RdS B bm q rk rf x) (by kernel_rfl) (HS2.out _ kd) (fun hS0 => ?_)
                refine takeG (some 45) (i := 0) (v := ?vc00) rfl rfl (by kernel_rfl) (by kernel_rfl) (by kernel_rfl) (fun _ _ _ h => h) (Or.inl ⟨by rfl, ?hc00⟩) hS0 ?rc00
                case hc00 => (intro w hw; obtain ⟨n0, n1, n2, n3⟩ := hw; go_simp; try (with_reducible rfl))
                try simp only [Act.put, List.setIfInBounds_toArray, List.set_cons_zero, List.set_cons_succ]
                refine takeG (some 46) (i := 1) (v := ?vc01) rfl rfl (by kernel_rfl) (by kernel_rfl) (by kernel_rfl) (fun _ _ _ h => h) (Or.inl ⟨by rfl, ?hc01⟩) hS0 ?rc01
                case hc01 => (intro w hw; obtain ⟨n0, n1, n2, n3⟩ := hw; go_simp; try (with_reducible rfl))
                try simp only [Act.put, List.setIfInBounds_toArray, List.set_cons_zero, List.set_cons_succ]
                refine takeG (some 47) (i := 2) (v := ?vc02) rfl rfl (by kernel_rfl) (by kernel_rfl) (by kernel_rfl) (fun _ _ _ h => h) (Or.inl ⟨by rfl, ?hc02⟩) hS0 ?rc02
                case hc02 => (intro w hw; obtain ⟨n0, n1, n2, n3⟩ := hw; go_simp; try (with_reducible rfl))
                try simp only [Act.put, List.setIfInBounds_toArray, List.set_cons_zero, List.set_cons_succ]
                refine takeG (some 48) (i := 3) (v := ?vc03) rfl rfl (by kernel_rfl) (by kernel_rfl) (by kernel_rfl) (fun _ _ _ h => h) (Or.inl ⟨by rfl, ?hc03⟩) hS0 ?rc03
                case hc03 => (intro w hw; obtain ⟨n0, n1, n2, n3⟩ := hw; go_simp; try (with_reducible rfl))
                try simp only [Act.put, List.setIfInBounds_toArray, List.set_cons_zero, List.set_cons_succ]
                refine takeG (some 49) (i := 4) (v := ?vc04) rfl rfl (by kernel_rfl) (by kernel_rfl) (by kernel_rfl) (fun _ _ _ h => h) (Or.inl ⟨by rfl, ?hc04⟩) hS0 ?rc04
                case hc04 => (intro w hw; obtain ⟨n0, n1, n2, n3⟩ := hw; go_simp; try (with_reducible rfl))
                try simp only [Act.put, List.setIfInBounds_toArray, List.set_cons_zero, List.set_cons_succ]
                refine takeG (some 50) (i := 5) (v := ?vc05) rfl rfl (by kernel_rfl) (by kernel_rfl) (by kernel_rfl) (fun _ _ _ h => h) (Or.inl ⟨by rfl, ?hc05⟩) hS0 ?rc05
                case hc05 => (intro w hw; obtain ⟨n0, n1, n2, n3⟩ := hw; go_simp; try (with_reducible rfl))
                try simp only [Act.put, List.setIfInBounds_toArray, List.set_cons_zero, List.set_cons_succ]
                refine takeG (some 51) (i := 6) (v := ?vc06) rfl rfl (by kernel_rfl) (by kernel_rfl) (by kernel_rfl) (fun _ _ _ h => h) (Or.inl ⟨by rfl, ?hc06⟩) hS0 ?rc06
                case hc06 => (intro w hw; obtain ⟨n0, n1, n2, n3⟩ := hw; go_simp; try (with_reducible rfl))
                try simp only [Act.put, List.setIfInBounds_toArray, List.set_cons_zero, List.set_cons_succ]
                refine takeG (some 52) (i := 7) (v := ?vc07) rfl rfl (by kernel_rfl) (by kernel_rfl) (by kernel_rfl) (fun _ _ _ h => h) (Or.inl ⟨by rfl, ?hc07⟩) hS0 ?rc07
                case hc07 => (intro w hw; obtain ⟨n0, n1, n2, n3⟩ := hw; go_simp; try (with_reducible rfl))
                try simp only [Act.put, List.setIfInBounds_toArray, List.set_cons_zero, List.set_cons_succ]
                refine takeG (some 53) (i := 8) (v := ?vc08) rfl rfl (by kernel_rfl) (by kernel_rfl) (by kernel_rfl) (fun _ _ _ h => h) (Or.inl ⟨by rfl, ?hc08⟩) hS0 ?rc08
                case hc08 => (intro w hw; obtain ⟨n0, n1, n2, n3⟩ := hw; go_simp; try (with_reducible rfl))
                try simp only [Act.put, List.setIfInBounds_toArray, List.set_cons_zero, List.set_cons_succ]
                refine takeG (some 54) (i := 9) (v := ?vc09) rfl rfl (by kernel_rfl) (by kernel_rfl) (by kernel_rfl) (fun _ _ _ h => h) (Or.inl ⟨by rfl, ?hc09⟩) hS0 ?rc09
                case hc09 => (intro w hw; obtain ⟨n0, n1, n2, n3⟩ := hw; go_simp; try (with_reducible rfl))
                try simp only [Act.put, List.setIfInBounds_toArray, List.set_cons_zero, List.set_cons_succ]
                refine takeG (some 56) (i := 11) (v := ?vc011) rfl rfl (by kernel_rfl) (by kernel_rfl) (by kernel_rfl) (fun _ _ _ h => h) (Or.inl ⟨by rfl, ?hc011⟩) hS0 ?rc011
                case hc011 => (intro w hw; obtain ⟨n0, n1, n2, n3⟩ := hw; go_simp; try (with_reducible rfl))
                try simp only [Act.put, List.setIfInBounds_toArray, List.set_cons_zero, List.set_cons_succ]
                refine takeG (some 57) (i := 12) (v := ?vc012) rfl rfl (by kernel_rfl) (by kernel_rfl) (by kernel_rfl) (fun _ _ _ h => h) (Or.inl ⟨by rfl, ?hc012⟩) hS0 ?rc012
                case hc012 => (intro w hw; obtain ⟨n0, n1, n2, n3⟩ := hw; go_simp; try (with_reducible rfl))
                try simp only [Act.put, List.setIfInBounds_toArray, List.set_cons_zero, List.set_cons_succ]
                refine wpAnyH_ready (rs := [10]) (by kernel_rfl) (by simp) ?_
                refine AllReadyH.cons rfl (fun K hK => ?_) AllReadyH.nil
                go_simp
                refine (CL.out _ kd).mono ?_
                rintro e q2 ⟨rfl, hq2⟩
                show K _ _
                have k2 := below_then kd hq2
                have s2 := HS2.out _ k2
                refine hK.out _ _ s2 (fun _ => ?_)
                clear hK K
                refine takeG (some 58) (i := 13) (v := ?vc013) rfl rfl (by kernel_rfl) (by kernel_rfl) (by kernel_rfl) (fun _ _ _ h => h) (Or.inl ⟨by rfl, ?hc013⟩) s2 ?rc013
                case hc013 => (intro w _; go_simp; try (with_reducible rfl))
                try simp only [Act.put, List.setIfInBounds_toArray, List.set_cons_zero, List.set_cons_succ]
                refine wpAnyH_done (by kernel_rfl) ?_ _
                obtain ⟨_, hz2⟩ := HBK.out _ k2
                clear HBK CL HS2 s2 k2 kd hS0 hand HAND
                have HVV : Hid (false = rightM h l V) := Lib.hid (by rw [HV.out, HY.out])
                go_wp2_with fail
                go_ret
                exact ⟨ret_b HVV.out, hz2⟩
          · have hk2 : k = (readsOf h i).length := by omega
            subst hk2
            have HY := Lib.hid (rightTo_succ HRT.out HRO.out)
            have hbb := below_then hbi hbk
            go_wp2_with fail
            go_roundw
            case rel => exact ⟨i + 1, by omega, by go_num, HY.out, hbb⟩
            case measure => simp [intOf]; omega
      · have hi2 : i = RR.length := by omega
        subst hi2
        have HVV : Hid (true = rightM h l V) := Lib.hid (by rw [HV.out, ← HLR.out, HRT.out])
        have hbz := HB3.out _ hb
        go_wp2_with fail
        go_ret
        exact ⟨ret_b HVV.out, hbz⟩
end Go.Proofs.YtecpeegbfeijaaaGreatDoor

namespace Go.Proofs.YtecpeegbfeijaaaGreatDoor
set_option maxRecDepth 100000
open Go.RowKit

/-- One thing that may be asked: its bit, and who must be seen by whom. -/
def askC (k : Int) (M : Mat) : Array Value := ((Value.int .i64 k) :: (rowsA M).toList).toArray
theorem built_ask (k : Int) (M : Mat) : Tryz.prog.built 211 [(0, .int .i64 k), (1, .agg (rowsA M))] = some (askC k M) := by kernel_rfl
theorem askC_size (k : Int) (M : Mat) : (askC k M).size = 65 := by
  unfold askC; simp [rowsA_size]
theorem infoAsk : (Tryz.prog.info? 211).map (fun i => (i.zero, i.size, i.bytes)) = some (some (.agg ((Value.int .i64 0 :: List.replicate 64 (Value.int .u64 0)).toArray)), 65, 520) := by kernel_rfl
/-- The six of them, one behind the other. -/
def asksA (M1 M2 M3 M4 M5 M6 : Mat) : Array Value := ((askC 1 M1).toList ++ ((askC 2 M2).toList ++ ((askC 4 M3).toList ++ ((askC 8 M4).toList ++ ((askC 16 M5).toList ++ (askC 32 M6).toList))))).toArray
theorem fill_asks (M1 M2 M3 M4 M5 M6 : Mat) :
    Instr.fill (fun i => some (i * 65, 65)) ((Array.range (6 * 65)).map ((Value.agg ((Value.int .i64 0 :: List.replicate 64 (Value.int .u64 0)).toArray)).cells[· % (Value.agg ((Value.int .i64 0 :: List.replicate 64 (Value.int .u64 0)).toArray)).cells.size]!)) [(0, .agg (askC 1 M1)), (1, .agg (askC 2 M2)), (2, .agg (askC 4 M3)), (3, .agg (askC 8 M4)), (4, .agg (askC 16 M5)), (5, .agg (askC 32 M6))] = some (asksA M1 M2 M3 M4 M5 M6) := by
  kernel_rfl
def bitA (k : Nat) : Nat := [1, 2, 4, 8, 16, 32].getD k 0
theorem ask_at0 (M : Nat → Mat) : ((asksA (M 0) (M 1) (M 2) (M 3) (M 4) (M 5)).extract (0 * 65) (0 * 65 + 65)).toList = (askC ((bitA 0 : Nat) : Int) (M 0)).toList := by kernel_rfl
theorem ask_at1 (M : Nat → Mat) : ((asksA (M 0) (M 1) (M 2) (M 3) (M 4) (M 5)).extract (1 * 65) (1 * 65 + 65)).toList = (askC ((bitA 1 : Nat) : Int) (M 1)).toList := by kernel_rfl
theorem ask_at2 (M : Nat → Mat) : ((asksA (M 0) (M 1) (M 2) (M 3) (M 4) (M 5)).extract (2 * 65) (2 * 65 + 65)).toList = (askC ((bitA 2 : Nat) : Int) (M 2)).toList := by kernel_rfl
theorem ask_at3 (M : Nat → Mat) : ((asksA (M 0) (M 1) (M 2) (M 3) (M 4) (M 5)).extract (3 * 65) (3 * 65 + 65)).toList = (askC ((bitA 3 : Nat) : Int) (M 3)).toList := by kernel_rfl
theorem ask_at4 (M : Nat → Mat) : ((asksA (M 0) (M 1) (M 2) (M 3) (M 4) (M 5)).extract (4 * 65) (4 * 65 + 65)).toList = (askC ((bitA 4 : Nat) : Int) (M 4)).toList := by kernel_rfl
theorem ask_at5 (M : Nat → Mat) : ((asksA (M 0) (M 1) (M 2) (M 3) (M 4) (M 5)).extract (5 * 65) (5 * 65 + 65)).toList = (askC ((bitA 5 : Nat) : Int) (M 5)).toList := by kernel_rfl
theorem ask_at (M : Nat → Mat) : ∀ (k : Nat) (_ : k < 6), ((asksA (M 0) (M 1) (M 2) (M 3) (M 4) (M 5)).extract (k * 65) (k * 65 + 65)).toList = (askC ((bitA k : Nat) : Int) (M k)).toList
  | 0, _ => ask_at0 M
  | 1, _ => ask_at1 M
  | 2, _ => ask_at2 M
  | 3, _ => ask_at3 M
  | 4, _ => ask_at4 M
  | 5, _ => ask_at5 M
  | k + 6, h => absurd h (by omega)
theorem ask_must (k : Int) (M : Mat) : ((askC k M).extract 1 (1 + 64)).toList = (rowsA M).toList := by kernel_rfl
theorem ask_one (k : Int) (M : Mat) : (askC k M).all (·.oneCell') = true := by
  rw [Array.all_eq_true_iff_forall_mem]
  intro v hv
  have : v ∈ (askC k M).toList := by simpa using hv
  unfold askC at this
  rw [List.toList_toArray] at this
  rcases List.mem_cons.1 this with rfl | h
  · rfl
  · have := rows_one M
    rw [Array.all_eq_true_iff_forall_mem] at this
    exact this v (by simpa using h)
theorem yields_ask {ops : Array Oper} {S : World → Prop} {o : Oper} {a : Act} {k : Int} {M : Mat} (hw : Region.wanted o (yielded ops a.tmps) = true) (x : Operand) (ho : o.op = .build 211 #[(0, .const (.int .i64 k)), (1, x)])
    (hx : a.eval x = .agg (rowsA M)) : YieldsIf Tryz.prog ops S o (.agg (askC k M)) a :=
  .inl ⟨hw, fun w _ => by
    have h := run_build w 211 #[(0, .int .i64 k), (1, .agg (rowsA M))] _ (built_ask k M)
    unfold execOp
    simp only [ho, Sem.run_bind]
    have e : (#[(0, Operand.const (Value.int .i64 k)), (1, x)].map fun (p : Nat × Operand) => (p.1, a.eval p.2)) = #[(0, Value.int .i64 k), (1, Value.agg (rowsA M))] := by
      rw [List.map_toArray, List.map_cons, List.map_cons, List.map_nil, hx]; rfl
    first | (rw [e, h]; rfl) | (simp only [e, h, Result.andThen_ok]; rfl)⟩
end Go.Proofs.YtecpeegbfeijaaaGreatDoor

namespace Go.Proofs.YtecpeegbfeijaaaGreatDoor
set_option maxRecDepth 100000
open Go.RowKit

theorem wp_buildSliceD {P : Program} {o : Oper} {a : Act} {w : World} {K : Act → World → Prop} {Q : Exit → Act → World → Prop} (d : Option Tmp) (hd : o.dst = d) (t e : TypeId) (len : Nat) (parts : Array (Nat × Operand)) (ho : o.op = .buildSlice t len parts)
    (cells : Array Value) (ie : TypeInfo) (z : Value)
    (hu : P.underlying t = some (.slice e)) (hie : P.info? e = some ie) (hz : ie.zero = some z) (hsmall : ¬ len * ie.size > 2 ^ 24) (hpos : ¬ len * ie.size = 0)
    (hf : Instr.fill (fun i => some (i * ie.size, ie.size)) ((Array.range (len * ie.size)).map (z.cells[· % z.cells.size]!)) (parts.map fun (i, x) => (i, a.eval x)).toList = some cells)
    (h : K (a.put d (.slice (some ⟨w.heap.size, 0, none⟩) len len)) (w.alloc (.cells cells e))) : o.wp P a w K Q := by
  subst hd; exact wp_buildSlice t e len parts ho cells ie z hu hie hz hsmall hpos hf h
theorem map6 {f : Nat × Operand → Nat × Value} (a0 a1 a2 a3 a4 a5 : Nat × Operand) : (Array.map f #[a0, a1, a2, a3, a4, a5]).toList = [f a0, f a1, f a2, f a3, f a4, f a5] := by simp
def keptM (h : List TxnV) (A V : Mat) (k : Nat) : Mat := match k with
  | 0 => sesM h
  | 1 => thenR V V
  | 2 => thenR A V
  | 3 => rivM h A
  | 4 => A
  | _ => timM h
def keptTo (M : Nat → Mat) (V : Mat) (k : Nat) : Nat := (List.range k).foldl (fun (s : Nat) (i : Nat) => if inM (M i) V then s ||| bitA i else s) 0
theorem keptTo_succ (M : Nat → Mat) (V : Mat) (k : Nat) : keptTo M V (k + 1) = if inM (M k) V then keptTo M V k ||| bitA k else keptTo M V k := by
  unfold keptTo; rw [List.range_succ, List.foldl_append]; rfl
theorem bitA_lt (k : Nat) : bitA k < 64 := by
  by_cases hk : k < 6
  · have h : k = 0 ∨ k = 1 ∨ k = 2 ∨ k = 3 ∨ k = 4 ∨ k = 5 := by omega
    rcases h with rfl | rfl | rfl | rfl | rfl | rfl <;> decide
  · unfold bitA; rw [List.getD_eq_getElem?_getD, List.getElem?_eq_none (by simp; omega)]; decide
theorem keptTo_lt (M : Nat → Mat) (V : Mat) : ∀ k, keptTo M V k < 64
  | 0 => by unfold keptTo; simp
  | k + 1 => by
    rw [keptTo_succ]
    split
    · exact Nat.or_lt_two_pow (n := 6) (keptTo_lt M V k) (bitA_lt k)
    · exact keptTo_lt M V k
theorem infoAsk' (k : Int) (M : Mat) : (Tryz.prog.info? 211).map (·.size) = some (askC k M).size := by
  obtain ⟨i, hi, _, h1, _⟩ := info_parts infoAsk
  rw [hi, askC_size]; simp [h1]
theorem wpList_load_ask {ops : Array Oper} {rest : List Oper} {o : Oper} {a : Act} {w : World} {Q : Exit → Act → World → Prop} {g p : Nat} {k : Int} {M : Mat} (h : w.rangeAt g p (askC k M).toList) (hgd : o.guard = none) (x : Operand) (ho : o.op = .load 211 x)
    (hx : a.eval x = .pointer (some ⟨g, p, none⟩)) (hn : wpList Tryz.prog ops Q rest (a.put o.dst (.agg (askC k M))) w) : wpList Tryz.prog ops Q (o :: rest) a w := by
  refine wpList_load_mid hgd 211 x ho g p hx (askC k M).toList _ h Tryz.underlying211 rfl (by rw [Array.length_toList]; exact infoAsk' k M) ?_
  rw [Array.toArray_toList]
  exact hn
theorem ask_block (w : World) : (w.alloc (.cells Tryz.zeroCells211 211)).heap[w.heap.size]? = some (.cells Tryz.zeroCells211 211 (0, 0)) := heap_alloc_new w _
theorem wpList_store_ask {ops : Array Oper} {rest : List Oper} {o : Oper} {a : Act} {w : World} {Q : Exit → Act → World → Prop} {g : Nat} {k : Int} {M : Mat} (h : w.heap[g]? = some (.cells Tryz.zeroCells211 211 (0, 0))) (hgd : o.guard = none) (x y : Operand) (ho : o.op = .store 211 x y)
    (hx : a.eval x = .pointer (some ⟨g, 0, none⟩)) (hy : a.eval y = .agg (askC k M)) (hn : wpList Tryz.prog ops Q rest (a.put o.dst undef) (w.setRow g (askC k M))) : wpList Tryz.prog ops Q (o :: rest) a w :=
  wpList_store_row hgd 211 x y ho g (askC k M) hx hy _ _ h (infoAsk' k M) (by rw [askC_size]; kernel_rfl) (ask_one k M) hn
/-- What is kept, as axiom.Kept says it. -/
def keptN (h : List TxnV) (l : List Int) (V : Mat) : Nat := keptTo (keptM h (chainR l) V) V 6
set_option maxRecDepth 100000 in
set_option maxHeartbeats 16000000 in
theorem akept_any (va : Value) (l : List Int) (V : Mat) (h : List TxnV) (B b : Nat) (w : World) (hO : OrdIs w B b h) (hc : checkI h = 0) (ht : Tab w) (hl : Ints w va l) :
    Calls Tryz.prog 127 #[.pointer (some ⟨B, 0, none⟩), va, .agg (rowsA V)] w fun e w' => e = .returned (.int .i64 (keptN h l V)) ∧ Below w.heap.size w w' := by
  have hg := ht.pos
  have HT : Hid (∀ wx, Below w.heap.size w wx → Tab wx) := Lib.hid (fun wx hb => ht.below hb hg)
  have HO := Lib.hid (fun wx (hx : Below w.heap.size w wx) => hO.below hx)
  have HC := Lib.hid hc
  obtain ⟨ie, hie, hz0, hz1, hz2⟩ := info_parts infoAsk
  have r0 : RelAt (w.alloc (.cells (rowsA V) 97)) w.heap.size 97 V := RelAt.made w _ _ rfl rfl
  have hb0 := box_below w (.cells (rowsA V) 97)
  have CH := Lib.hid (chain_any va l _ (hl.below hb0))
  obtain ⟨ao, cap, rfl, hal⟩ := hl.form
  have HQ : Hid (keptN h l V = keptTo (keptM h (chainR l) V) V 6) := Lib.hid rfl
  generalize chainR l = A at *
  clear hO hc ht hl
  go_enter Tryz.func127, Tryz.ntmps127
  go_wp2_with fail
  refine (CH.out).mono ?_
  rintro e w1 ⟨rfl, hb1⟩
  have r0 := r0.below hb1 r0.lt
  have hb2 := below_then hb0 hb1
  clear hb1 hb0 CH
  have hs1 := hb2.size
  have hl0 := r0.lt
  have z7 := zero_block w1
  have r0 := (r0.alloc (.cells #[.int .u64 0, .int .u64 0, .int .u64 0, .int .u64 0, .int .u64 0, .int .u64 0, .int .u64 0, .int .u64 0, .int .u64 0, .int .u64 0, .int .u64 0, .int .u64 0, .int .u64 0, .int .u64 0, .int .u64 0, .int .u64 0, .int .u64 0, .int .u64 0, .int .u64 0, .int .u64 0, .int .u64 0, .int .u64 0, .int .u64 0, .int .u64 0, .int .u64 0, .int .u64 0, .int .u64 0, .int .u64 0, .int .u64 0, .int .u64 0, .int .u64 0, .int .u64 0, .int .u64 0, .int .u64 0, .int .u64 0, .int .u64 0, .int .u64 0, .int .u64 0, .int .u64 0, .int .u64 0, .int .u64 0, .int .u64 0, .int .u64 0, .int .u64 0, .int .u64 0, .int .u64 0, .int .u64 0, .int .u64 0, .int .u64 0, .int .u64 0, .int .u64 0, .int .u64 0, .int .u64 0, .int .u64 0, .int .u64 0, .int .u64 0, .int .u64 0, .int .u64 0, .int .u64 0, .int .u64 0, .int .u64 0, .int .u64 0, .int .u64 0, .int .u64 0] 97)).far (g' := w1.heap.size) (by omega) (rowsA A)
  have hb3 := below_setRow (hb2.alloc hb2.size (.cells #[.int .u64 0, .int .u64 0, .int .u64 0, .int .u64 0, .int .u64 0, .int .u64 0, .int .u64 0, .int .u64 0, .int .u64 0, .int .u64 0, .int .u64 0, .int .u64 0, .int .u64 0, .int .u64 0, .int .u64 0, .int .u64 0, .int .u64 0, .int .u64 0, .int .u64 0, .int .u64 0, .int .u64 0, .int .u64 0, .int .u64 0, .int .u64 0, .int .u64 0, .int .u64 0, .int .u64 0, .int .u64 0, .int .u64 0, .int .u64 0, .int .u64 0, .int .u64 0, .int .u64 0, .int .u64 0, .int .u64 0, .int .u64 0, .int .u64 0, .int .u64 0, .int .u64 0, .int .u64 0, .int .u64 0, .int .u64 0, .int .u64 0, .int .u64 0, .int .u64 0, .int .u64 0, .int .u64 0, .int .u64 0, .int .u64 0, .int .u64 0, .int .u64 0, .int .u64 0, .int .u64 0, .int .u64 0, .int .u64 0, .int .u64 0, .int .u64 0, .int .u64 0, .int .u64 0, .int .u64 0, .int .u64 0, .int .u64 0, .int .u64 0, .int .u64 0] 97)) (g := w1.heap.size) (by omega) (rowsA A)
  clear hb2
  go_upto_region 3 with (with_reducible refine wpList_store_rel z7 A rfl _ _ rfl rfl rfl ?_)
  have z7 := z7.setRow A
  generalize (w1.alloc (.cells #[.int .u64 0, .int .u64 0, .int .u64 0, .int .u64 0, .int .u64 0, .int .u64 0, .int .u64 0, .int .u64 0, .int .u64 0, .int .u64 0, .int .u64 0, .int .u64 0, .int .u64 0, .int .u64 0, .int .u64 0, .int .u64 0, .int .u64 0, .int .u64 0, .int .u64 0, .int .u64 0, .int .u64 0, .int .u64 0, .int .u64 0, .int .u64 0, .int .u64 0, .int .u64 0, .int .u64 0, .int .u64 0, .int .u64 0, .int .u64 0, .int .u64 0, .int .u64 0, .int .u64 0, .int .u64 0, .int .u64 0, .int .u64 0, .int .u64 0, .int .u64 0, .int .u64 0, .int .u64 0, .int .u64 0, .int .u64 0, .int .u64 0, .int .u64 0, .int .u64 0, .int .u64 0, .int .u64 0, .int .u64 0, .int .u64 0, .int .u64 0, .int .u64 0, .int .u64 0, .int .u64 0, .int .u64 0, .int .u64 0, .int .u64 0, .int .u64 0, .int .u64 0, .int .u64 0, .int .u64 0, .int .u64 0, .int .u64 0, .int .u64 0, .int .u64 0] 97)).setRow w1.heap.size (rowsA A) = w3 at *
  generalize hp7 : w1.heap.size = p7 at *
  clear hp7
  have HS : Hid (∀ wx, Below w3.heap.size w3 wx → OrdB wx B h ∧ RelAt wx w.heap.size 97 V ∧ RelAt wx p7 97 A) := Lib.hid (fun wx hx => ⟨(HO.out wx (hb3.trans (hx.mono hb3.size))).blk, r0.below hx r0.lt, z7.below hx z7.lt⟩)
  have CT1 := Lib.hid (fun wx (hx : Below w3.heap.size w3 wx) => then_any V V wx (HT.out _ (hb3.trans (hx.mono hb3.size))))
  have CT2 := Lib.hid (fun wx (hx : Below w3.heap.size w3 wx) => then_any A V wx (HT.out _ (hb3.trans (hx.mono hb3.size))))
  have CR := Lib.hid (fun wx (hx : Below w3.heap.size w3 wx) => arivals_any A h B b wx (HO.out wx (hb3.trans (hx.mono hb3.size))) HC.out)
  have HB := Lib.hid (fun wx (hx : Below w3.heap.size w3 wx) => hb3.trans (hx.mono hb3.size))
  have kd := (Below.refl w3.heap.size w3).drew
  clear r0 z7 hb3
  refine wp_region_held_drew (S := fun wx => OrdB wx B h ∧ RelAt wx w.heap.size 97 V ∧ RelAt wx p7 97 A) (by kernel_rfl) (HS.out _ kd) (fun hS0 => ?_)
  refine takeG (some 13) (i := 0) (v := ?vk0) rfl rfl (by kernel_rfl) (by kernel_rfl) (by kernel_rfl) (fun _ _ _ h => h) (Or.inl ⟨by rfl, ?hk0⟩) hS0 ?rk0
  case hk0 => (intro w hw; have hn := hw.1.cN; go_simp; try (with_reducible rfl))
  try simp only [Act.put, List.setIfInBounds_toArray, List.set_cons_zero, List.set_cons_succ]
  refine takeG (some 14) (i := 1) (v := ?vk1) rfl rfl (by kernel_rfl) (by kernel_rfl) (by kernel_rfl) (fun _ _ _ h => h) (Or.inl ⟨by rfl, ?hk1⟩) hS0 ?rk1
  case hk1 => (intro w hw; have hn := hw.1.cN; go_simp; try (with_reducible rfl))
  try simp only [Act.put, List.setIfInBounds_toArray, List.set_cons_zero, List.set_cons_succ]
  refine takeG (some 15) (i := 2) (v := ?vk2) rfl rfl (by kernel_rfl) (by kernel_rfl) (by kernel_rfl) (fun _ _ _ h => h) (Or.inl ⟨by rfl, ?hk2⟩) hS0 ?rk2
  case hk2 => (intro w hw; have hn := hw.1.cN; go_simp; try (with_reducible rfl))
  try simp only [Act.put, List.setIfInBounds_toArray, List.set_cons_zero, List.set_cons_succ]
  refine takeG (some 39) (i := 26) (v := ?vk26) rfl rfl (by kernel_rfl) (by kernel_rfl) (by kernel_rfl) (fun _ _ _ h => h) (Or.inl ⟨by rfl, ?hk26⟩) hS0 ?rk26
  case hk26 => (intro w _; go_simp; try (with_reducible rfl))
  try simp only [Act.put, List.setIfInBounds_toArray, List.set_cons_zero, List.set_cons_succ]
  refine takeG (some 16) (i := 3) (v := _) rfl rfl (by kernel_rfl) (by kernel_rfl) (by kernel_rfl) (fun _ _ _ h => h) (yields_load_part (by rfl) _ rfl rfl (fun wx hx => hx.1.rS)) hS0 ?_
  try simp only [Act.put, List.setIfInBounds_toArray, List.set_cons_zero, List.set_cons_succ]
  refine takeG (some 17) (i := 4) (v := _) rfl rfl (by kernel_rfl) (by kernel_rfl) (by kernel_rfl) (fun _ _ _ h => h) (yields_ask (k := 1) (by rfl) _ rfl rfl) hS0 ?_
  try simp only [Act.put, List.setIfInBounds_toArray, List.set_cons_zero, List.set_cons_succ]
  refine takeG (some 18) (i := 5) (v := _) rfl rfl (by kernel_rfl) (by kernel_rfl) (by kernel_rfl) (fun _ _ _ h => h) (yields_rel (by rfl) _ rfl rfl (fun wx hx => hx.2.1)) hS0 ?_
  try simp only [Act.put, List.setIfInBounds_toArray, List.set_cons_zero, List.set_cons_succ]
  refine takeG (some 19) (i := 6) (v := _) rfl rfl (by kernel_rfl) (by kernel_rfl) (by kernel_rfl) (fun _ _ _ h => h) (yields_rel (by rfl) _ rfl rfl (fun wx hx => hx.2.1)) hS0 ?_
  try simp only [Act.put, List.setIfInBounds_toArray, List.set_cons_zero, List.set_cons_succ]
  refine takeG (some 22) (i := 9) (v := _) rfl rfl (by kernel_rfl) (by kernel_rfl) (by kernel_rfl) (fun _ _ _ h => h) (yields_rel (by rfl) _ rfl rfl (fun wx hx => hx.2.2)) hS0 ?_
  try simp only [Act.put, List.setIfInBounds_toArray, List.set_cons_zero, List.set_cons_succ]
  refine takeG (some 23) (i := 10) (v := _) rfl rfl (by kernel_rfl) (by kernel_rfl) (by kernel_rfl) (fun _ _ _ h => h) (yields_rel (by rfl) _ rfl rfl (fun wx hx => hx.2.1)) hS0 ?_
  try simp only [Act.put, List.setIfInBounds_toArray, List.set_cons_zero, List.set_cons_succ]
  refine takeG (some 26) (i := 13) (v := ?vk13) rfl rfl (by kernel_rfl) (by kernel_rfl) (by kernel_rfl) (fun _ _ _ h => h) (Or.inl ⟨by rfl, ?hk13⟩) hS0 ?rk13
  case hk13 => (intro w hw; have hn := hw.1.cN; go_simp; try (with_reducible rfl))
  try simp only [Act.put, List.setIfInBounds_toArray, List.set_cons_zero, List.set_cons_succ]
  refine takeG (some 27) (i := 14) (v := _) rfl rfl (by kernel_rfl) (by kernel_rfl) (by kernel_rfl) (fun _ _ _ h => h) (yields_rel (by rfl) _ rfl rfl (fun wx hx => hx.2.2)) hS0 ?_
  try simp only [Act.put, List.setIfInBounds_toArray, List.set_cons_zero, List.set_cons_succ]
  refine takeG (some 30) (i := 17) (v := _) rfl rfl (by kernel_rfl) (by kernel_rfl) (by kernel_rfl) (fun _ _ _ h => h) (yields_rel (by rfl) _ rfl rfl (fun wx hx => hx.2.2)) hS0 ?_
  try simp only [Act.put, List.setIfInBounds_toArray, List.set_cons_zero, List.set_cons_succ]
  refine takeG (some 31) (i := 18) (v := _) rfl rfl (by kernel_rfl) (by kernel_rfl) (by kernel_rfl) (fun _ _ _ h => h) (yields_ask (k := 16) (by rfl) _ rfl rfl) hS0 ?_
  try simp only [Act.put, List.setIfInBounds_toArray, List.set_cons_zero, List.set_cons_succ]
  refine takeG (some 32) (i := 19) (v := ?vk19) rfl rfl (by kernel_rfl) (by kernel_rfl) (by kernel_rfl) (fun _ _ _ h => h) (Or.inl ⟨by rfl, ?hk19⟩) hS0 ?rk19
  case hk19 => (intro w hw; have hn := hw.1.cN; go_simp; try (with_reducible rfl))
  try simp only [Act.put, List.setIfInBounds_toArray, List.set_cons_zero, List.set_cons_succ]
  refine takeG (some 33) (i := 20) (v := ?vk20) rfl rfl (by kernel_rfl) (by kernel_rfl) (by kernel_rfl) (fun _ _ _ h => h) (Or.inl ⟨by rfl, ?hk20⟩) hS0 ?rk20
  case hk20 => (intro w hw; have hn := hw.1.cN; go_simp; try (with_reducible rfl))
  try simp only [Act.put, List.setIfInBounds_toArray, List.set_cons_zero, List.set_cons_succ]
  refine takeG (some 34) (i := 21) (v := ?vk21) rfl rfl (by kernel_rfl) (by kernel_rfl) (by kernel_rfl) (fun _ _ _ h => h) (Or.inl ⟨by rfl, ?hk21⟩) hS0 ?rk21
  case hk21 => (intro w hw; have hn := hw.1.cN; go_simp; try (with_reducible rfl))
  try simp only [Act.put, List.setIfInBounds_toArray, List.set_cons_zero, List.set_cons_succ]
  refine takeG (some 35) (i := 22) (v := _) rfl rfl (by kernel_rfl) (by kernel_rfl) (by kernel_rfl) (fun _ _ _ h => h) (yields_load_part (by rfl) _ rfl rfl (fun wx hx => hx.1.rT)) hS0 ?_
  try simp only [Act.put, List.setIfInBounds_toArray, List.set_cons_zero, List.set_cons_succ]
  refine takeG (some 36) (i := 23) (v := _) rfl rfl (by kernel_rfl) (by kernel_rfl) (by kernel_rfl) (fun _ _ _ h => h) (yields_ask (k := 32) (by rfl) _ rfl rfl) hS0 ?_
  try simp only [Act.put, List.setIfInBounds_toArray, List.set_cons_zero, List.set_cons_succ]
  refine wpAnyH_ready (rs := [7]) (by kernel_rfl) (by simp) ?_
  refine AllReadyH.cons rfl (fun K hK => ?_) AllReadyH.nil
  go_simp
  refine (CT1.out _ kd).mono ?_
  rintro e q1 ⟨rfl, hq1⟩
  show K _ _
  have k1 := below_then kd hq1
  have s1 := HS.out _ k1
  refine hK.out _ _ s1 (fun _ => ?_)
  clear hK K
  refine takeG (some 21) (i := 8) (v := _) rfl rfl (by kernel_rfl) (by kernel_rfl) (by kernel_rfl) (fun _ _ _ h => h) (yields_ask (k := 2) (by rfl) _ rfl rfl) s1 ?_
  try simp only [Act.put, List.setIfInBounds_toArray, List.set_cons_zero, List.set_cons_succ]
  refine wpAnyH_ready (rs := [11]) (by kernel_rfl) (by simp) ?_
  refine AllReadyH.cons rfl (fun K hK => ?_) AllReadyH.nil
  go_simp
  refine (CT2.out _ k1).mono ?_
  rintro e q2 ⟨rfl, hq2⟩
  show K _ _
  have k2 := below_then k1 hq2
  have s2 := HS.out _ k2
  refine hK.out _ _ s2 (fun _ => ?_)
  clear hK K
  refine takeG (some 25) (i := 12) (v := _) rfl rfl (by kernel_rfl) (by kernel_rfl) (by kernel_rfl) (fun _ _ _ h => h) (yields_ask (k := 4) (by rfl) _ rfl rfl) s2 ?_
  try simp only [Act.put, List.setIfInBounds_toArray, List.set_cons_zero, List.set_cons_succ]
  refine wpAnyH_ready (rs := [15]) (by kernel_rfl) (by simp) ?_
  refine AllReadyH.cons rfl (fun K hK => ?_) AllReadyH.nil
  go_simp
  refine (CR.out _ k2).mono ?_
  rintro e q3 ⟨rfl, hq3⟩
  show K _ _
  have k3 := below_then k2 hq3
  have s3 := HS.out _ k3
  refine hK.out _ _ s3 (fun _ => ?_)
  clear hK K
  refine takeG (some 29) (i := 16) (v := _) rfl rfl (by kernel_rfl) (by kernel_rfl) (by kernel_rfl) (fun _ _ _ h => h) (yields_ask (k := 8) (by rfl) _ rfl rfl) s3 ?_
  try simp only [Act.put, List.setIfInBounds_toArray, List.set_cons_zero, List.set_cons_succ]
  refine wpAnyH_ready (rs := [24]) (by kernel_rfl) (by simp) ?_
  refine AllReadyH.cons rfl (fun K hK => ?_) AllReadyH.nil
  rw [if_pos (by rfl)]
  refine wp_buildSliceD (some 37) rfl 212 211 6 _ rfl (asksA (sesM h) (thenR V V) (thenR A V) (rivM h A) A (timM h)) ie (.agg ((Value.int .i64 0 :: List.replicate 64 (Value.int .u64 0)).toArray)) Tryz.underlying212 hie hz0 (by rw [hz1]; omega) (by rw [hz1]; omega) (by rw [hz1, map6]; exact fill_asks (sesM h) (thenR V V) (thenR A V) (rivM h A) A (timM h)) ?_
  have k4 := k3.alloc k3.size (.cells (asksA (sesM h) (thenR V V) (thenR A V) (rivM h A) A (timM h)) 211)
  have s4 := HS.out _ k4
  refine hK.out _ _ s4 (fun _ => ?_)
  clear hK K
  try simp only [Act.put, List.setIfInBounds_toArray, List.set_cons_zero, List.set_cons_succ]
  refine takeG (some 38) (i := 25) (v := ?vk25) rfl rfl (by kernel_rfl) (by kernel_rfl) (by kernel_rfl) (fun _ _ _ h => h) (Or.inl ⟨by rfl, ?hk25⟩) s4 ?rk25
  case hk25 => (intro w _; go_simp; try (with_reducible rfl))
  try simp only [Act.put, List.setIfInBounds_toArray, List.set_cons_zero, List.set_cons_succ]
  refine wpAnyH_done (by kernel_rfl) ?_ _
  have hbk := heap_alloc_new q3 (.cells (asksA (sesM h) (thenR V V) (thenR A V) (rivM h A) A (timM h)) 211)
  have hb5 := HB.out _ k4
  have hV5 := s4.2.1
  clear kd hS0 k1 s1 k2 s2 k3 s3 k4 s4 HS CT1 CT2 CR HB hq1 hq2 hq3
  generalize q3.alloc (.cells (asksA (sesM h) (thenR V V) (thenR A V) (rivM h A) A (timM h)) 211) = w5 at *
  generalize q3.heap.size = g at *
  have HBK : Hid (∀ wx, Below w5.heap.size w5 wx → ∀ k, k < 6 → wx.rangeAt g (k * 65) (askC ((bitA k : Nat) : Int) (keptM h A V k)).toList) := Lib.hid (fun wx hx k hk => by
    have hlt : g < w5.heap.size := by
      by_cases h0 : g < w5.heap.size
      · exact h0
      · rw [Array.getElem?_eq_none (Nat.le_of_not_lt h0)] at hbk; cases hbk
    have h1 := (hx.block g hlt).trans hbk
    have h2 := World.rangeAt_of_block h1 (k * 65) 65
    rw [show asksA (sesM h) (thenR V V) (thenR A V) (rivM h A) A (timM h) = asksA (keptM h A V 0) (keptM h A V 1) (keptM h A V 2) (keptM h A V 3) (keptM h A V 4) (keptM h A V 5) from rfl, ask_at (keptM h A V) k hk] at h2
    exact h2)
  have HV5 := Lib.hid (fun wx (hx : Below w5.heap.size w5 wx) => hV5.below hx hV5.lt)
  have HB5 := Lib.hid (fun wx (hx : Below w5.heap.size w5 wx) => hb5.trans (hx.mono hb5.size))
  have HQ2 : Hid (keptN h l V = keptTo (keptM h A V) V 6) := Lib.hid HQ.out
  clear hbk hV5 hb5 HQ
  generalize keptM h A V = M at *
  go_wp2_with fail
  go_loopw [8, 39] (fun s i wr => ∃ k : Nat, k ≤ 6 ∧ i = .int .i64 k ∧ s = .int .i64 ((keptTo M V k : Nat) : Int) ∧ Below w5.heap.size w5 wr) (fun _ i _ => 6 - (intOf i).toNat)
  case atStart => exact ⟨0, by omega, rfl, rfl, Below.refl _ _⟩
  case round =>
    obtain ⟨k, hk, rfl, rfl, hb⟩ := hrel
    by_cases hlt : k < 6
    · have hki : (k : Int) < 6 := by omega
      have hrg := HBK.out _ hb k hlt
      have hkl := keptTo_lt M V k
      have hbl := bitA_lt k
      have HS := Lib.hid (keptTo_succ M V k)
      have hor := i64_or_nat (keptTo M V k) (bitA k) (by omega) (by omega)
      have HOR := Lib.hid hor
      have CW := Lib.hid (fun wx => withinR_any (M k) V wx)
      have hz := ask_block wr
      have hbz := box_below wr (.cells Tryz.zeroCells211 211)
      have hgr := setRow_heap _ _ _ (askC ((bitA k : Nat) : Int) (M k)) _ _ hz
      have hbg := below_setRow hbz (Nat.le_refl _) (askC ((bitA k : Nat) : Int) (M k))
      have HBF := Lib.hid (fun wx (hx : Below ((wr.alloc (.cells Tryz.zeroCells211 211)).setRow wr.heap.size (askC ((bitA k : Nat) : Int) (M k))).heap.size ((wr.alloc (.cells Tryz.zeroCells211 211)).setRow wr.heap.size (askC ((bitA k : Nat) : Int) (M k))) wx) => below_then (below_then hb hbg) hx)
      clear hor hbz hbg
      generalize bitA k = bt1 at *
      generalize M k = Mk at *
      generalize keptTo M V k = kp at *
      go_upto_region 6 with (first | (with_reducible refine wpList_load_ask hrg rfl _ rfl rfl ?_) | (with_reducible refine wpList_store_ask hz rfl _ _ rfl rfl rfl ?_))
      clear hz hrg
      generalize (wr.alloc (.cells Tryz.zeroCells211 211)).setRow wr.heap.size (askC (bt1 : Int) Mk) = w6 at *
      have hrm := World.rangeAt_of_block hgr 1 64
      rw [ask_must] at hrm
      have hc0 : w6.cell? ⟨wr.heap.size, 0, none⟩ = some (.int .i64 bt1) := by rw [cell_of_row _ _ _ _ _ _ hgr]; rfl
      have k0 := Below.refl w6.heap.size w6
      have y5 := HV5.out _ (HBF.out _ k0)
      clear hgr hb
      simp only [Act.put]
      go_wp2_with (first | (with_reducible refine wpList_load_part hrm _ rfl (by kernel_rfl) rfl ?_) | (with_reducible refine wpList_load_rel y5 rfl _ rfl rfl ?_))
      refine (CW.out _).mono ?_
      rintro e w7 ⟨rfl, hb7⟩
      have hc0 := (hb7.cell (p := ⟨wr.heap.size, 0, none⟩) (block_lt hc0)).trans hc0
      have hb8 := HBF.out _ hb7
      clear hrm y5 HBF hb7 k0 CW
      cases hin : inM Mk V with
      | true =>
        have HV := Lib.hid (show keptTo M V (k + 1) = kp ||| bt1 by rw [HS.out, hin]; rfl)
        have hor := HOR.out
        clear hin HS HOR
        go_wp2_with fail
        go_roundw
        case rel => exact ⟨k + 1, by omega, by go_num, by rw [HV.out], hb8⟩
        case measure => simp [intOf]; omega
      | false =>
        have HV := Lib.hid (show keptTo M V (k + 1) = kp by rw [HS.out, hin]; rfl)
        clear hin HS HOR
        go_wp2_with fail
        go_roundw
        case rel => exact ⟨k + 1, by omega, by go_num, by rw [HV.out], hb8⟩
        case measure => simp [intOf]; omega
    · have hk6 : k = 6 := by omega
      subst hk6
      have HE := Lib.hid HQ2.out.symm
      have hbz := HB5.out _ hb
      go_wp2_with fail
      go_ret
      exact ⟨by rw [← HE.out]; rfl, hbz⟩
end Go.Proofs.YtecpeegbfeijaaaGreatDoor

namespace Go.Proofs.YtecpeegbfeijaaaGreatDoor
set_option maxRecDepth 100000
open Go.RowKit

/-- Is a thing asked, by its number? -/
def hasT (k t : Nat) : Bool := decide (k / t % 2 = 1)
theorem rl_has (k t : Nat) (hk : k < 64) (ht : 0 < t) (ht2 : t ≤ 32) (w : World) : Calls Tryz.prog 80 #[.int .i64 k, .int .i64 t] w fun e w' => e = .returned (.bool (hasT k t)) ∧ w = w' := by
  have h0 : ((t : Int) == 0) = false := by rw [beq_eq_false_iff_ne]; omega
  have hd : ((k : Int).tdiv (t : Int)) = ((k / t : Nat) : Int) := by rw [Int.tdiv_eq_ediv_of_nonneg (Int.natCast_nonneg k)]; rfl
  have hq : k / t < 64 := Nat.lt_of_le_of_lt (Nat.div_le_self _ _) hk
  have hm : (((k / t : Nat) : Int).tmod 2) = ((k / t % 2 : Nat) : Int) := by rw [Int.tmod_eq_emod_of_nonneg (Int.natCast_nonneg _)]; rfl
  have H : Hid ((((k / t % 2 : Nat) : Int) == 1) = hasT k t) := Lib.hid (by unfold hasT; rw [Bool.eq_iff_iff, beq_iff_eq, decide_eq_true_eq]; omega)
  have hm2 : k / t % 2 < 2 := Nat.mod_lt _ (by omega)
  rw [← H.out]
  generalize k / t = q at *
  generalize q % 2 = r at *
  go_enter Tryz.func80, Tryz.ntmps80
  go_wp2
  go_ret
  exact ⟨rfl, rfl⟩
theorem rl_asks (l : Int) (w : World) : Calls Tryz.prog 31 #[.int .i64 l] w fun e w' => e = .returned (.int .i64 (askN l)) ∧ w = w' := by
  by_cases h : 0 ≤ l ∧ l < 12
  · obtain ⟨k, rfl⟩ := Int.eq_ofNat_of_zero_le h.1
    have hk : k < 12 := by omega
    clear h
    match k, hk with
    | 0, _ | 1, _ | 2, _ | 3, _ | 4, _ | 5, _ | 6, _ | 7, _ | 8, _ | 9, _ | 10, _ | 11, _ =>
      go_enter Tryz.func31, Tryz.ntmps31
      go_wp2
      go_ret
      exact ⟨rfl, rfl⟩
    | k + 12, hk => exact absurd hk (by omega)
  · have H : Hid (((askN l : Nat) : Int) = 0) := Lib.hid (by unfold askN isLv; rw [if_neg (by simpa using h)]; rfl)
    rw [H.out]
    by_cases h0 : l < 0
    all_goals
      go_enter Tryz.func31, Tryz.ntmps31
      go_wp2
      go_ret
      exact ⟨rfl, rfl⟩
end Go.Proofs.YtecpeegbfeijaaaGreatDoor

namespace Go.Proofs.YtecpeegbfeijaaaGreatDoor
set_option maxRecDepth 100000
open Go.RowKit

theorem block_lt' {w : World} {a : Addr} {v : Value} (h : w.cell? a = some v) : a.block < w.heap.size := by
  by_cases h0 : a.block < w.heap.size
  · exact h0
  · simp [World.cell?, Array.getElem?_eq_none (Nat.le_of_not_lt h0)] at h
theorem Kinds.below {w w' : World} (h : Kinds w) (hb : Below w.heap.size w w') : Kinds w' := fun k hk => by
  obtain ⟨h1, h2⟩ := h k hk
  exact ⟨(hb.cell (block_lt' h1)).trans h1, (hb.cell (block_lt' h2)).trans h2⟩
end Go.Proofs.YtecpeegbfeijaaaGreatDoor

namespace Go.Proofs.YtecpeegbfeijaaaGreatDoor
set_option maxRecDepth 100000
open Go.RowKit

/-- What is asked and isn't kept. -/
def lackN (a b : Nat) : Nat := a ^^^ (a &&& b)
/-- Does a history keep what a level asks? -/
def holdsB (h : List TxnV) (lv : Int) (l : List Int) (V : Mat) : Bool := isLv lv && (soundTo h h.length && (rightM h l V && decide (lackN (askN lv) (keptN h l V) = 0)))
set_option maxRecDepth 100000 in
set_option maxHeartbeats 16000000 in
theorem aholds_any (lv : Int) (va : Value) (l : List Int) (V : Mat) (h : List TxnV) (B b : Nat) (w : World) (hO : OrdIs w B b h) (hc : checkI h = 0) (ht : Tab w) (hK : Kinds w) (hl : Ints w va l) :
    Calls Tryz.prog 73 #[.pointer (some ⟨B, 0, none⟩), .int .i64 lv, va, .agg (rowsA V)] w fun e w' => e = .returned (.bool (holdsB h lv l V)) ∧ Below w.heap.size w w' := by
  have hg := ht.pos
  have r0 : RelAt (w.alloc (.cells (rowsA V) 97)) w.heap.size 97 V := RelAt.made w _ _ rfl rfl
  have hb0 := box_below w (.cells (rowsA V) 97)
  have HW := Lib.hid (fun wx (hx : Below w.heap.size w wx) => And.intro (hO.below hx) (And.intro (ht.below hx hg) (And.intro (hK.below hx) (hl.below hx))))
  have HC := Lib.hid hc
  have HR : Hid (holdsB h lv l V = (isLv lv && (soundTo h h.length && (rightM h l V && decide (lackN (askN lv) (keptN h l V) = 0))))) := Lib.hid rfl
  obtain ⟨ao, cap, rfl, hal⟩ := hl.form
  clear hO hc ht hK hl
  go_enter Tryz.func73, Tryz.ntmps73
  go_upto_region 1 with fail
  generalize w.alloc (.cells (rowsA V) 97) = w0 at *
  have HB := Lib.hid (fun wx (hx : Below w0.heap.size w0 wx) => hb0.trans (hx.mono hb0.size))
  have HS : Hid (∀ wx, Below w0.heap.size w0 wx → OrdB wx B h ∧ RelAt wx w.heap.size 97 V) := Lib.hid (fun wx hx => ⟨(HW.out wx (hb0.trans (hx.mono hb0.size))).1.blk, r0.below hx r0.lt⟩)
  have CI := Lib.hid (fun wx => lis_any lv wx)
  have CR := Lib.hid (fun wx (hx : Below w0.heap.size w0 wx) => aright_any _ l V h B b wx (HW.out wx (hb0.trans (hx.mono hb0.size))).1 HC.out (HW.out wx (hb0.trans (hx.mono hb0.size))).2.2.2)
  have CA := Lib.hid (fun wx (hx : Below w0.heap.size w0 wx) => lasks_any lv wx (HW.out wx (hb0.trans (hx.mono hb0.size))).2.2.1)
  have CK := Lib.hid (fun wx (hx : Below w0.heap.size w0 wx) => akept_any _ l V h B b wx (HW.out wx (hb0.trans (hx.mono hb0.size))).1 HC.out (HW.out wx (hb0.trans (hx.mono hb0.size))).2.1 (HW.out wx (hb0.trans (hx.mono hb0.size))).2.2.2)
  have kd := (Below.refl w0.heap.size w0).drew
  have hka := askN_lt lv
  have hkk : keptN h l V < 64 := keptTo_lt _ _ _
  have HLK := Lib.hid (i64_andNot_nat (askN lv) (keptN h l V) (by omega) (by omega))
  clear r0 hb0 HW
  generalize rightM h l V = rt at *
  generalize askN lv = na at *
  generalize keptN h l V = nk at *
  generalize isLv lv = il at *
  cases il with
  | false =>
    have HV : Hid (false = holdsB h lv l V) := Lib.hid (by rw [HR.out]; rfl)
    clear HR
    refine wp_region_held_drew (S := fun wx => OrdB wx B h ∧ RelAt wx w.heap.size 97 V) (by kernel_rfl) (HS.out _ kd) (fun hS0 => ?_)
    refine takeG (some 9) (i := 0) (v := ?va0) rfl rfl (by kernel_rfl) (by kernel_rfl) (by kernel_rfl) (fun _ _ _ h => h) (Or.inl ⟨by rfl, ?ha0⟩) hS0 ?ra0
    case ha0 => (intro w _; go_simp; try (with_reducible rfl))
    try simp only [Act.put, List.setIfInBounds_toArray, List.set_cons_zero, List.set_cons_succ]
    refine wpAnyH_ready (rs := [1]) (by kernel_rfl) (by simp) ?_
    refine AllReadyH.cons rfl (fun K hK => ?_) AllReadyH.nil
    go_simp
    refine (CI.out _).mono ?_
    rintro e q1 ⟨rfl, rfl⟩
    show K _ _
    refine hK.out _ _ hS0 (fun _ => ?_)
    clear hK K
    refine takeG (some 11) (i := 2) (v := ?va2) rfl rfl (by kernel_rfl) (by kernel_rfl) (by kernel_rfl) (fun _ _ _ h => h) (Or.inl ⟨by rfl, ?ha2⟩) hS0 ?ra2
    case ha2 => (intro w _; go_simp; try (with_reducible rfl))
    try simp only [Act.put, List.setIfInBounds_toArray, List.set_cons_zero, List.set_cons_succ]
    refine takeG (some 12) (i := 3) (v := undef) rfl rfl (by kernel_rfl) (by kernel_rfl) (by kernel_rfl) (fun _ _ _ h => h) (Or.inr ⟨by rfl, rfl⟩) hS0 ?_
    try simp only [Act.put, List.setIfInBounds_toArray, List.set_cons_zero, List.set_cons_succ]
    refine takeG (some 13) (i := 4) (v := undef) rfl rfl (by kernel_rfl) (by kernel_rfl) (by kernel_rfl) (fun _ _ _ h => h) (Or.inr ⟨by rfl, rfl⟩) hS0 ?_
    try simp only [Act.put, List.setIfInBounds_toArray, List.set_cons_zero, List.set_cons_succ]
    refine takeG (some 14) (i := 5) (v := undef) rfl rfl (by kernel_rfl) (by kernel_rfl) (by kernel_rfl) (fun _ _ _ h => h) (Or.inr ⟨by rfl, rfl⟩) hS0 ?_
    try simp only [Act.put, List.setIfInBounds_toArray, List.set_cons_zero, List.set_cons_succ]
    refine takeG (some 15) (i := 6) (v := undef) rfl rfl (by kernel_rfl) (by kernel_rfl) (by kernel_rfl) (fun _ _ _ h => h) (Or.inr ⟨by rfl, rfl⟩) hS0 ?_
    try simp only [Act.put, List.setIfInBounds_toArray, List.set_cons_zero, List.set_cons_succ]
    refine takeG (some 16) (i := 7) (v := ?va7) rfl rfl (by kernel_rfl) (by kernel_rfl) (by kernel_rfl) (fun _ _ _ h => h) (Or.inl ⟨by rfl, ?ha7⟩) hS0 ?ra7
    case ha7 => (intro w _; go_simp; try (with_reducible rfl))
    try simp only [Act.put, List.setIfInBounds_toArray, List.set_cons_zero, List.set_cons_succ]
    refine takeG (some 17) (i := 8) (v := ?va8) rfl rfl (by kernel_rfl) (by kernel_rfl) (by kernel_rfl) (fun _ _ _ h => h) (Or.inl ⟨by rfl, ?ha8⟩) hS0 ?ra8
    case ha8 => (intro w _; go_simp; try (with_reducible rfl))
    try simp only [Act.put, List.setIfInBounds_toArray, List.set_cons_zero, List.set_cons_succ]
    refine takeG (some 18) (i := 9) (v := undef) rfl rfl (by kernel_rfl) (by kernel_rfl) (by kernel_rfl) (fun _ _ _ h => h) (Or.inr ⟨by rfl, rfl⟩) hS0 ?_
    try simp only [Act.put, List.setIfInBounds_toArray, List.set_cons_zero, List.set_cons_succ]
    refine takeG (some 19) (i := 10) (v := undef) rfl rfl (by kernel_rfl) (by kernel_rfl) (by kernel_rfl) (fun _ _ _ h => h) (Or.inr ⟨by rfl, rfl⟩) hS0 ?_
    try simp only [Act.put, List.setIfInBounds_toArray, List.set_cons_zero, List.set_cons_succ]
    refine takeG (some 20) (i := 11) (v := undef) rfl rfl (by kernel_rfl) (by kernel_rfl) (by kernel_rfl) (fun _ _ _ h => h) (Or.inr ⟨by rfl, rfl⟩) hS0 ?_
    try simp only [Act.put, List.setIfInBounds_toArray, List.set_cons_zero, List.set_cons_succ]
    refine takeG (some 21) (i := 12) (v := undef) rfl rfl (by kernel_rfl) (by kernel_rfl) (by kernel_rfl) (fun _ _ _ h => h) (Or.inr ⟨by rfl, rfl⟩) hS0 ?_
    try simp only [Act.put, List.setIfInBounds_toArray, List.set_cons_zero, List.set_cons_succ]
    refine takeG (some 22) (i := 13) (v := ?va13) rfl rfl (by kernel_rfl) (by kernel_rfl) (by kernel_rfl) (fun _ _ _ h => h) (Or.inl ⟨by rfl, ?ha13⟩) hS0 ?ra13
    case ha13 => (intro w _; go_simp; try (with_reducible rfl))
    try simp only [Act.put, List.setIfInBounds_toArray, List.set_cons_zero, List.set_cons_succ]
    refine takeG (some 23) (i := 14) (v := ?va14) rfl rfl (by kernel_rfl) (by kernel_rfl) (by kernel_rfl) (fun _ _ _ h => h) (Or.inl ⟨by rfl, ?ha14⟩) hS0 ?ra14
    case ha14 => (intro w _; go_simp; try (with_reducible rfl))
    try simp only [Act.put, List.setIfInBounds_toArray, List.set_cons_zero, List.set_cons_succ]
    refine takeG (some 24) (i := 15) (v := undef) rfl rfl (by kernel_rfl) (by kernel_rfl) (by kernel_rfl) (fun _ _ _ h => h) (Or.inr ⟨by rfl, rfl⟩) hS0 ?_
    try simp only [Act.put, List.setIfInBounds_toArray, List.set_cons_zero, List.set_cons_succ]
    refine takeG (some 25) (i := 16) (v := undef) rfl rfl (by kernel_rfl) (by kernel_rfl) (by kernel_rfl) (fun _ _ _ h => h) (Or.inr ⟨by rfl, rfl⟩) hS0 ?_
    try simp only [Act.put, List.setIfInBounds_toArray, List.set_cons_zero, List.set_cons_succ]
    refine takeG (some 26) (i := 17) (v := undef) rfl rfl (by kernel_rfl) (by kernel_rfl) (by kernel_rfl) (fun _ _ _ h => h) (Or.inr ⟨by rfl, rfl⟩) hS0 ?_
    try simp only [Act.put, List.setIfInBounds_toArray, List.set_cons_zero, List.set_cons_succ]
    refine takeG (some 27) (i := 18) (v := undef) rfl rfl (by kernel_rfl) (by kernel_rfl) (by kernel_rfl) (fun _ _ _ h => h) (Or.inr ⟨by rfl, rfl⟩) hS0 ?_
    try simp only [Act.put, List.setIfInBounds_toArray, List.set_cons_zero, List.set_cons_succ]
    refine takeG (some 28) (i := 19) (v := undef) rfl rfl (by kernel_rfl) (by kernel_rfl) (by kernel_rfl) (fun _ _ _ h => h) (Or.inr ⟨by rfl, rfl⟩) hS0 ?_
    try simp only [Act.put, List.setIfInBounds_toArray, List.set_cons_zero, List.set_cons_succ]
    refine takeG (some 29) (i := 20) (v := undef) rfl rfl (by kernel_rfl) (by kernel_rfl) (by kernel_rfl) (fun _ _ _ h => h) (Or.inr ⟨by rfl, rfl⟩) hS0 ?_
    try simp only [Act.put, List.setIfInBounds_toArray, List.set_cons_zero, List.set_cons_succ]
    refine takeG (some 30) (i := 21) (v := undef) rfl rfl (by kernel_rfl) (by kernel_rfl) (by kernel_rfl) (fun _ _ _ h => h) (Or.inr ⟨by rfl, rfl⟩) hS0 ?_
    try simp only [Act.put, List.setIfInBounds_toArray, List.set_cons_zero, List.set_cons_succ]
    refine takeG (some 31) (i := 22) (v := undef) rfl rfl (by kernel_rfl) (by kernel_rfl) (by kernel_rfl) (fun _ _ _ h => h) (Or.inr ⟨by rfl, rfl⟩) hS0 ?_
    try simp only [Act.put, List.setIfInBounds_toArray, List.set_cons_zero, List.set_cons_succ]
    refine takeG (some 32) (i := 23) (v := ?va23) rfl rfl (by kernel_rfl) (by kernel_rfl) (by kernel_rfl) (fun _ _ _ h => h) (Or.inl ⟨by rfl, ?ha23⟩) hS0 ?ra23
    case ha23 => (intro w _; go_simp; try (with_reducible rfl))
    try simp only [Act.put, List.setIfInBounds_toArray, List.set_cons_zero, List.set_cons_succ]
    refine takeG (some 8) (i := 24) (v := ?va24) rfl rfl (by kernel_rfl) (by kernel_rfl) (by kernel_rfl) (fun _ _ _ h => h) (Or.inl ⟨by rfl, ?ha24⟩) hS0 ?ra24
    case ha24 => (intro w _; go_simp; try (with_reducible rfl))
    try simp only [Act.put, List.setIfInBounds_toArray, List.set_cons_zero, List.set_cons_succ]
    refine wpAnyH_done (by kernel_rfl) ?_ _
    go_wp2_with fail
    go_ret
    exact ⟨ret_b HV.out, HB.out _ kd⟩
  | true =>
  cases hsd : soundTo h h.length with
  | false =>
    have HSD := Lib.hid hsd
    have HV : Hid (false = holdsB h lv l V) := Lib.hid (by rw [HR.out, hsd]; rfl)
    clear hsd
    clear HR
    refine wp_region_held_drew (S := fun wx => OrdB wx B h ∧ RelAt wx w.heap.size 97 V) (by kernel_rfl) (HS.out _ kd) (fun hS0 => ?_)
    refine takeG (some 9) (i := 0) (v := ?vb0) rfl rfl (by kernel_rfl) (by kernel_rfl) (by kernel_rfl) (fun _ _ _ h => h) (Or.inl ⟨by rfl, ?hb0⟩) hS0 ?rb0
    case hb0 => (intro w _; go_simp; try (with_reducible rfl))
    try simp only [Act.put, List.setIfInBounds_toArray, List.set_cons_zero, List.set_cons_succ]
    refine wpAnyH_ready (rs := [1]) (by kernel_rfl) (by simp) ?_
    refine AllReadyH.cons rfl (fun K hK => ?_) AllReadyH.nil
    go_simp
    refine (CI.out _).mono ?_
    rintro e q1 ⟨rfl, rfl⟩
    show K _ _
    refine hK.out _ _ hS0 (fun _ => ?_)
    clear hK K
    refine takeG (some 11) (i := 2) (v := ?vb2) rfl rfl (by kernel_rfl) (by kernel_rfl) (by kernel_rfl) (fun _ _ _ h => h) (Or.inl ⟨by rfl, ?hb2⟩) hS0 ?rb2
    case hb2 => (intro w _; go_simp; try (with_reducible rfl))
    try simp only [Act.put, List.setIfInBounds_toArray, List.set_cons_zero, List.set_cons_succ]
    refine takeG (some 12) (i := 3) (v := ?vb3) rfl rfl (by kernel_rfl) (by kernel_rfl) (by kernel_rfl) (fun _ _ _ h => h) (Or.inl ⟨by rfl, ?hb3⟩) hS0 ?rb3
    case hb3 => (intro w hw; have hn := hw.1.cS; rw [HSD.out] at hn; have hm := hw.1.cN; go_simp; try (with_reducible rfl))
    try simp only [Act.put, List.setIfInBounds_toArray, List.set_cons_zero, List.set_cons_succ]
    refine takeG (some 13) (i := 4) (v := ?vb4) rfl rfl (by kernel_rfl) (by kernel_rfl) (by kernel_rfl) (fun _ _ _ h => h) (Or.inl ⟨by rfl, ?hb4⟩) hS0 ?rb4
    case hb4 => (intro w hw; have hn := hw.1.cS; rw [HSD.out] at hn; have hm := hw.1.cN; go_simp; try (with_reducible rfl))
    try simp only [Act.put, List.setIfInBounds_toArray, List.set_cons_zero, List.set_cons_succ]
    refine takeG (some 14) (i := 5) (v := ?vb5) rfl rfl (by kernel_rfl) (by kernel_rfl) (by kernel_rfl) (fun _ _ _ h => h) (Or.inl ⟨by rfl, ?hb5⟩) hS0 ?rb5
    case hb5 => (intro w hw; have hn := hw.1.cS; rw [HSD.out] at hn; have hm := hw.1.cN; go_simp; try (with_reducible rfl))
    try simp only [Act.put, List.setIfInBounds_toArray, List.set_cons_zero, List.set_cons_succ]
    refine takeG (some 15) (i := 6) (v := ?vb6) rfl rfl (by kernel_rfl) (by kernel_rfl) (by kernel_rfl) (fun _ _ _ h => h) (Or.inl ⟨by rfl, ?hb6⟩) hS0 ?rb6
    case hb6 => (intro w hw; have hn := hw.1.cS; rw [HSD.out] at hn; have hm := hw.1.cN; go_simp; try (with_reducible rfl))
    try simp only [Act.put, List.setIfInBounds_toArray, List.set_cons_zero, List.set_cons_succ]
    refine takeG (some 16) (i := 7) (v := ?vb7) rfl rfl (by kernel_rfl) (by kernel_rfl) (by kernel_rfl) (fun _ _ _ h => h) (Or.inl ⟨by rfl, ?hb7⟩) hS0 ?rb7
    case hb7 => (intro w _; go_simp; try (with_reducible rfl))
    try simp only [Act.put, List.setIfInBounds_toArray, List.set_cons_zero, List.set_cons_succ]
    refine takeG (some 17) (i := 8) (v := ?vb8) rfl rfl (by kernel_rfl) (by kernel_rfl) (by kernel_rfl) (fun _ _ _ h => h) (Or.inl ⟨by rfl, ?hb8⟩) hS0 ?rb8
    case hb8 => (intro w _; go_simp; try (with_reducible rfl))
    try simp only [Act.put, List.setIfInBounds_toArray, List.set_cons_zero, List.set_cons_succ]
    refine takeG (some 18) (i := 9) (v := undef) rfl rfl (by kernel_rfl) (by kernel_rfl) (by kernel_rfl) (fun _ _ _ h => h) (Or.inr ⟨by rfl, rfl⟩) hS0 ?_
    try simp only [Act.put, List.setIfInBounds_toArray, List.set_cons_zero, List.set_cons_succ]
    refine takeG (some 19) (i := 10) (v := undef) rfl rfl (by kernel_rfl) (by kernel_rfl) (by kernel_rfl) (fun _ _ _ h => h) (Or.inr ⟨by rfl, rfl⟩) hS0 ?_
    try simp only [Act.put, List.setIfInBounds_toArray, List.set_cons_zero, List.set_cons_succ]
    refine takeG (some 20) (i := 11) (v := undef) rfl rfl (by kernel_rfl) (by kernel_rfl) (by kernel_rfl) (fun _ _ _ h => h) (Or.inr ⟨by rfl, rfl⟩) hS0 ?_
    try simp only [Act.put, List.setIfInBounds_toArray, List.set_cons_zero, List.set_cons_succ]
    refine takeG (some 21) (i := 12) (v := undef) rfl rfl (by kernel_rfl) (by kernel_rfl) (by kernel_rfl) (fun _ _ _ h => h) (Or.inr ⟨by rfl, rfl⟩) hS0 ?_
    try simp only [Act.put, List.setIfInBounds_toArray, List.set_cons_zero, List.set_cons_succ]
    refine takeG (some 22) (i := 13) (v := ?vb13) rfl rfl (by kernel_rfl) (by kernel_rfl) (by kernel_rfl) (fun _ _ _ h => h) (Or.inl ⟨by rfl, ?hb13⟩) hS0 ?rb13
    case hb13 => (intro w _; go_simp; try (with_reducible rfl))
    try simp only [Act.put, List.setIfInBounds_toArray, List.set_cons_zero, List.set_cons_succ]
    refine takeG (some 23) (i := 14) (v := ?vb14) rfl rfl (by kernel_rfl) (by kernel_rfl) (by kernel_rfl) (fun _ _ _ h => h) (Or.inl ⟨by rfl, ?hb14⟩) hS0 ?rb14
    case hb14 => (intro w _; go_simp; try (with_reducible rfl))
    try simp only [Act.put, List.setIfInBounds_toArray, List.set_cons_zero, List.set_cons_succ]
    refine takeG (some 24) (i := 15) (v := undef) rfl rfl (by kernel_rfl) (by kernel_rfl) (by kernel_rfl) (fun _ _ _ h => h) (Or.inr ⟨by rfl, rfl⟩) hS0 ?_
    try simp only [Act.put, List.setIfInBounds_toArray, List.set_cons_zero, List.set_cons_succ]
    refine takeG (some 25) (i := 16) (v := undef) rfl rfl (by kernel_rfl) (by kernel_rfl) (by kernel_rfl) (fun _ _ _ h => h) (Or.inr ⟨by rfl, rfl⟩) hS0 ?_
    try simp only [Act.put, List.setIfInBounds_toArray, List.set_cons_zero, List.set_cons_succ]
    refine takeG (some 26) (i := 17) (v := undef) rfl rfl (by kernel_rfl) (by kernel_rfl) (by kernel_rfl) (fun _ _ _ h => h) (Or.inr ⟨by rfl, rfl⟩) hS0 ?_
    try simp only [Act.put, List.setIfInBounds_toArray, List.set_cons_zero, List.set_cons_succ]
    refine takeG (some 27) (i := 18) (v := undef) rfl rfl (by kernel_rfl) (by kernel_rfl) (by kernel_rfl) (fun _ _ _ h => h) (Or.inr ⟨by rfl, rfl⟩) hS0 ?_
    try simp only [Act.put, List.setIfInBounds_toArray, List.set_cons_zero, List.set_cons_succ]
    refine takeG (some 28) (i := 19) (v := undef) rfl rfl (by kernel_rfl) (by kernel_rfl) (by kernel_rfl) (fun _ _ _ h => h) (Or.inr ⟨by rfl, rfl⟩) hS0 ?_
    try simp only [Act.put, List.setIfInBounds_toArray, List.set_cons_zero, List.set_cons_succ]
    refine takeG (some 29) (i := 20) (v := undef) rfl rfl (by kernel_rfl) (by kernel_rfl) (by kernel_rfl) (fun _ _ _ h => h) (Or.inr ⟨by rfl, rfl⟩) hS0 ?_
    try simp only [Act.put, List.setIfInBounds_toArray, List.set_cons_zero, List.set_cons_succ]
    refine takeG (some 30) (i := 21) (v := undef) rfl rfl (by kernel_rfl) (by kernel_rfl) (by kernel_rfl) (fun _ _ _ h => h) (Or.inr ⟨by rfl, rfl⟩) hS0 ?_
    try simp only [Act.put, List.setIfInBounds_toArray, List.set_cons_zero, List.set_cons_succ]
    refine takeG (some 31) (i := 22) (v := undef) rfl rfl (by kernel_rfl) (by kernel_rfl) (by kernel_rfl) (fun _ _ _ h => h) (Or.inr ⟨by rfl, rfl⟩) hS0 ?_
    try simp only [Act.put, List.setIfInBounds_toArray, List.set_cons_zero, List.set_cons_succ]
    refine takeG (some 32) (i := 23) (v := ?vb23) rfl rfl (by kernel_rfl) (by kernel_rfl) (by kernel_rfl) (fun _ _ _ h => h) (Or.inl ⟨by rfl, ?hb23⟩) hS0 ?rb23
    case hb23 => (intro w _; go_simp; try (with_reducible rfl))
    try simp only [Act.put, List.setIfInBounds_toArray, List.set_cons_zero, List.set_cons_succ]
    refine takeG (some 8) (i := 24) (v := ?vb24) rfl rfl (by kernel_rfl) (by kernel_rfl) (by kernel_rfl) (fun _ _ _ h => h) (Or.inl ⟨by rfl, ?hb24⟩) hS0 ?rb24
    case hb24 => (intro w _; go_simp; try (with_reducible rfl))
    try simp only [Act.put, List.setIfInBounds_toArray, List.set_cons_zero, List.set_cons_succ]
    refine wpAnyH_done (by kernel_rfl) ?_ _
    go_wp2_with fail
    go_ret
    exact ⟨ret_b HV.out, HB.out _ kd⟩
  | true =>
  have HSD := Lib.hid hsd
  cases rt with
  | false =>
    have HV : Hid (false = holdsB h lv l V) := Lib.hid (by rw [HR.out, hsd]; rfl)
    clear hsd
    clear HR
    refine wp_region_held_drew (S := fun wx => OrdB wx B h ∧ RelAt wx w.heap.size 97 V) (by kernel_rfl) (HS.out _ kd) (fun hS0 => ?_)
    refine takeG (some 9) (i := 0) (v := ?vc0) rfl rfl (by kernel_rfl) (by kernel_rfl) (by kernel_rfl) (fun _ _ _ h => h) (Or.inl ⟨by rfl, ?hc0⟩) hS0 ?rc0
    case hc0 => (intro w _; go_simp; try (with_reducible rfl))
    try simp only [Act.put, List.setIfInBounds_toArray, List.set_cons_zero, List.set_cons_succ]
    refine wpAnyH_ready (rs := [1]) (by kernel_rfl) (by simp) ?_
    refine AllReadyH.cons rfl (fun K hK => ?_) AllReadyH.nil
    go_simp
    refine (CI.out _).mono ?_
    rintro e q1 ⟨rfl, rfl⟩
    show K _ _
    refine hK.out _ _ hS0 (fun _ => ?_)
    clear hK K
    refine takeG (some 11) (i := 2) (v := ?vc2) rfl rfl (by kernel_rfl) (by kernel_rfl) (by kernel_rfl) (fun _ _ _ h => h) (Or.inl ⟨by rfl, ?hc2⟩) hS0 ?rc2
    case hc2 => (intro w _; go_simp; try (with_reducible rfl))
    try simp only [Act.put, List.setIfInBounds_toArray, List.set_cons_zero, List.set_cons_succ]
    refine takeG (some 12) (i := 3) (v := ?vc3) rfl rfl (by kernel_rfl) (by kernel_rfl) (by kernel_rfl) (fun _ _ _ h => h) (Or.inl ⟨by rfl, ?hc3⟩) hS0 ?rc3
    case hc3 => (intro w hw; have hn := hw.1.cS; rw [HSD.out] at hn; have hm := hw.1.cN; go_simp; try (with_reducible rfl))
    try simp only [Act.put, List.setIfInBounds_toArray, List.set_cons_zero, List.set_cons_succ]
    refine takeG (some 13) (i := 4) (v := ?vc4) rfl rfl (by kernel_rfl) (by kernel_rfl) (by kernel_rfl) (fun _ _ _ h => h) (Or.inl ⟨by rfl, ?hc4⟩) hS0 ?rc4
    case hc4 => (intro w hw; have hn := hw.1.cS; rw [HSD.out] at hn; have hm := hw.1.cN; go_simp; try (with_reducible rfl))
    try simp only [Act.put, List.setIfInBounds_toArray, List.set_cons_zero, List.set_cons_succ]
    refine takeG (some 14) (i := 5) (v := ?vc5) rfl rfl (by kernel_rfl) (by kernel_rfl) (by kernel_rfl) (fun _ _ _ h => h) (Or.inl ⟨by rfl, ?hc5⟩) hS0 ?rc5
    case hc5 => (intro w hw; have hn := hw.1.cS; rw [HSD.out] at hn; have hm := hw.1.cN; go_simp; try (with_reducible rfl))
    try simp only [Act.put, List.setIfInBounds_toArray, List.set_cons_zero, List.set_cons_succ]
    refine takeG (some 15) (i := 6) (v := ?vc6) rfl rfl (by kernel_rfl) (by kernel_rfl) (by kernel_rfl) (fun _ _ _ h => h) (Or.inl ⟨by rfl, ?hc6⟩) hS0 ?rc6
    case hc6 => (intro w hw; have hn := hw.1.cS; rw [HSD.out] at hn; have hm := hw.1.cN; go_simp; try (with_reducible rfl))
    try simp only [Act.put, List.setIfInBounds_toArray, List.set_cons_zero, List.set_cons_succ]
    refine takeG (some 16) (i := 7) (v := ?vc7) rfl rfl (by kernel_rfl) (by kernel_rfl) (by kernel_rfl) (fun _ _ _ h => h) (Or.inl ⟨by rfl, ?hc7⟩) hS0 ?rc7
    case hc7 => (intro w _; go_simp; try (with_reducible rfl))
    try simp only [Act.put, List.setIfInBounds_toArray, List.set_cons_zero, List.set_cons_succ]
    refine takeG (some 17) (i := 8) (v := ?vc8) rfl rfl (by kernel_rfl) (by kernel_rfl) (by kernel_rfl) (fun _ _ _ h => h) (Or.inl ⟨by rfl, ?hc8⟩) hS0 ?rc8
    case hc8 => (intro w _; go_simp; try (with_reducible rfl))
    try simp only [Act.put, List.setIfInBounds_toArray, List.set_cons_zero, List.set_cons_succ]
    refine takeG (some 18) (i := 9) (v := ?vc9) rfl rfl (by kernel_rfl) (by kernel_rfl) (by kernel_rfl) (fun _ _ _ h => h) (Or.inl ⟨by rfl, ?hc9⟩) hS0 ?rc9
    case hc9 => (intro w _; go_simp; try (with_reducible rfl))
    try simp only [Act.put, List.setIfInBounds_toArray, List.set_cons_zero, List.set_cons_succ]
    refine takeG (some 19) (i := 10) (v := ?vc10) rfl rfl (by kernel_rfl) (by kernel_rfl) (by kernel_rfl) (fun _ _ _ h => h) (Or.inl ⟨by rfl, ?hc10⟩) hS0 ?rc10
    case hc10 => (intro w _; go_simp; try (with_reducible rfl))
    try simp only [Act.put, List.setIfInBounds_toArray, List.set_cons_zero, List.set_cons_succ]
    refine takeG (some 20) (i := 11) (v := _) rfl rfl (by kernel_rfl) (by kernel_rfl) (by kernel_rfl) (fun _ _ _ h => h) (yields_rel (by rfl) _ rfl rfl (fun wx hx => hx.2)) hS0 ?_
    try simp only [Act.put, List.setIfInBounds_toArray, List.set_cons_zero, List.set_cons_succ]
    refine wpAnyH_ready (rs := [12]) (by kernel_rfl) (by simp) ?_
    refine AllReadyH.cons rfl (fun K hK => ?_) AllReadyH.nil
    go_simp
    refine (CR.out _ kd).mono ?_
    rintro e q2 ⟨rfl, hq2⟩
    show K _ _
    have k2 := below_then kd hq2
    have s2 := HS.out _ k2
    refine hK.out _ _ s2 (fun _ => ?_)
    clear hK K
    refine takeG (some 22) (i := 13) (v := ?vc13) rfl rfl (by kernel_rfl) (by kernel_rfl) (by kernel_rfl) (fun _ _ _ h => h) (Or.inl ⟨by rfl, ?hc13⟩) s2 ?rc13
    case hc13 => (intro w _; go_simp; try (with_reducible rfl))
    try simp only [Act.put, List.setIfInBounds_toArray, List.set_cons_zero, List.set_cons_succ]
    refine takeG (some 23) (i := 14) (v := ?vc14) rfl rfl (by kernel_rfl) (by kernel_rfl) (by kernel_rfl) (fun _ _ _ h => h) (Or.inl ⟨by rfl, ?hc14⟩) s2 ?rc14
    case hc14 => (intro w _; go_simp; try (with_reducible rfl))
    try simp only [Act.put, List.setIfInBounds_toArray, List.set_cons_zero, List.set_cons_succ]
    refine takeG (some 24) (i := 15) (v := undef) rfl rfl (by kernel_rfl) (by kernel_rfl) (by kernel_rfl) (fun _ _ _ h => h) (Or.inr ⟨by rfl, rfl⟩) s2 ?_
    try simp only [Act.put, List.setIfInBounds_toArray, List.set_cons_zero, List.set_cons_succ]
    refine takeG (some 25) (i := 16) (v := undef) rfl rfl (by kernel_rfl) (by kernel_rfl) (by kernel_rfl) (fun _ _ _ h => h) (Or.inr ⟨by rfl, rfl⟩) s2 ?_
    try simp only [Act.put, List.setIfInBounds_toArray, List.set_cons_zero, List.set_cons_succ]
    refine takeG (some 26) (i := 17) (v := undef) rfl rfl (by kernel_rfl) (by kernel_rfl) (by kernel_rfl) (fun _ _ _ h => h) (Or.inr ⟨by rfl, rfl⟩) s2 ?_
    try simp only [Act.put, List.setIfInBounds_toArray, List.set_cons_zero, List.set_cons_succ]
    refine takeG (some 27) (i := 18) (v := undef) rfl rfl (by kernel_rfl) (by kernel_rfl) (by kernel_rfl) (fun _ _ _ h => h) (Or.inr ⟨by rfl, rfl⟩) s2 ?_
    try simp only [Act.put, List.setIfInBounds_toArray, List.set_cons_zero, List.set_cons_succ]
    refine takeG (some 28) (i := 19) (v := undef) rfl rfl (by kernel_rfl) (by kernel_rfl) (by kernel_rfl) (fun _ _ _ h => h) (Or.inr ⟨by rfl, rfl⟩) s2 ?_
    try simp only [Act.put, List.setIfInBounds_toArray, List.set_cons_zero, List.set_cons_succ]
    refine takeG (some 29) (i := 20) (v := undef) rfl rfl (by kernel_rfl) (by kernel_rfl) (by kernel_rfl) (fun _ _ _ h => h) (Or.inr ⟨by rfl, rfl⟩) s2 ?_
    try simp only [Act.put, List.setIfInBounds_toArray, List.set_cons_zero, List.set_cons_succ]
    refine takeG (some 30) (i := 21) (v := undef) rfl rfl (by kernel_rfl) (by kernel_rfl) (by kernel_rfl) (fun _ _ _ h => h) (Or.inr ⟨by rfl, rfl⟩) s2 ?_
    try simp only [Act.put, List.setIfInBounds_toArray, List.set_cons_zero, List.set_cons_succ]
    refine takeG (some 31) (i := 22) (v := undef) rfl rfl (by kernel_rfl) (by kernel_rfl) (by kernel_rfl) (fun _ _ _ h => h) (Or.inr ⟨by rfl, rfl⟩) s2 ?_
    try simp only [Act.put, List.setIfInBounds_toArray, List.set_cons_zero, List.set_cons_succ]
    refine takeG (some 32) (i := 23) (v := ?vc23) rfl rfl (by kernel_rfl) (by kernel_rfl) (by kernel_rfl) (fun _ _ _ h => h) (Or.inl ⟨by rfl, ?hc23⟩) s2 ?rc23
    case hc23 => (intro w _; go_simp; try (with_reducible rfl))
    try simp only [Act.put, List.setIfInBounds_toArray, List.set_cons_zero, List.set_cons_succ]
    refine takeG (some 8) (i := 24) (v := ?vc24) rfl rfl (by kernel_rfl) (by kernel_rfl) (by kernel_rfl) (fun _ _ _ h => h) (Or.inl ⟨by rfl, ?hc24⟩) s2 ?rc24
    case hc24 => (intro w _; go_simp; try (with_reducible rfl))
    try simp only [Act.put, List.setIfInBounds_toArray, List.set_cons_zero, List.set_cons_succ]
    refine wpAnyH_done (by kernel_rfl) ?_ _
    go_wp2_with fail
    go_ret
    exact ⟨ret_b HV.out, HB.out _ k2⟩
  | true =>
  by_cases h0 : lackN na nk = 0
  · have HV : Hid (true = holdsB h lv l V) := Lib.hid (by rw [HR.out, hsd, decide_eq_true h0]; rfl)
    have hlk : bits .andNot .i64 (na : Int) (nk : Int) = 0 := by rw [HLK.out]; exact congrArg Nat.cast h0
    clear HR h0 hsd
    refine wp_region_held_drew (S := fun wx => OrdB wx B h ∧ RelAt wx w.heap.size 97 V) (by kernel_rfl) (HS.out _ kd) (fun hS0 => ?_)
    refine takeG (some 9) (i := 0) (v := ?vd0) rfl rfl (by kernel_rfl) (by kernel_rfl) (by kernel_rfl) (fun _ _ _ h => h) (Or.inl ⟨by rfl, ?hd0⟩) hS0 ?rd0
    case hd0 => (intro w _; go_simp; try (with_reducible rfl))
    try simp only [Act.put, List.setIfInBounds_toArray, List.set_cons_zero, List.set_cons_succ]
    refine wpAnyH_ready (rs := [1]) (by kernel_rfl) (by simp) ?_
    refine AllReadyH.cons rfl (fun K hK => ?_) AllReadyH.nil
    go_simp
    refine (CI.out _).mono ?_
    rintro e q1 ⟨rfl, rfl⟩
    show K _ _
    refine hK.out _ _ hS0 (fun _ => ?_)
    clear hK K
    refine takeG (some 11) (i := 2) (v := ?vd2) rfl rfl (by kernel_rfl) (by kernel_rfl) (by kernel_rfl) (fun _ _ _ h => h) (Or.inl ⟨by rfl, ?hd2⟩) hS0 ?rd2
    case hd2 => (intro w _; go_simp; try (with_reducible rfl))
    try simp only [Act.put, List.setIfInBounds_toArray, List.set_cons_zero, List.set_cons_succ]
    refine takeG (some 12) (i := 3) (v := ?vd3) rfl rfl (by kernel_rfl) (by kernel_rfl) (by kernel_rfl) (fun _ _ _ h => h) (Or.inl ⟨by rfl, ?hd3⟩) hS0 ?rd3
    case hd3 => (intro w hw; have hn := hw.1.cS; rw [HSD.out] at hn; have hm := hw.1.cN; go_simp; try (with_reducible rfl))
    try simp only [Act.put, List.setIfInBounds_toArray, List.set_cons_zero, List.set_cons_succ]
    refine takeG (some 13) (i := 4) (v := ?vd4) rfl rfl (by kernel_rfl) (by kernel_rfl) (by kernel_rfl) (fun _ _ _ h => h) (Or.inl ⟨by rfl, ?hd4⟩) hS0 ?rd4
    case hd4 => (intro w hw; have hn := hw.1.cS; rw [HSD.out] at hn; have hm := hw.1.cN; go_simp; try (with_reducible rfl))
    try simp only [Act.put, List.setIfInBounds_toArray, List.set_cons_zero, List.set_cons_succ]
    refine takeG (some 14) (i := 5) (v := ?vd5) rfl rfl (by kernel_rfl) (by kernel_rfl) (by kernel_rfl) (fun _ _ _ h => h) (Or.inl ⟨by rfl, ?hd5⟩) hS0 ?rd5
    case hd5 => (intro w hw; have hn := hw.1.cS; rw [HSD.out] at hn; have hm := hw.1.cN; go_simp; try (with_reducible rfl))
    try simp only [Act.put, List.setIfInBounds_toArray, List.set_cons_zero, List.set_cons_succ]
    refine takeG (some 15) (i := 6) (v := ?vd6) rfl rfl (by kernel_rfl) (by kernel_rfl) (by kernel_rfl) (fun _ _ _ h => h) (Or.inl ⟨by rfl, ?hd6⟩) hS0 ?rd6
    case hd6 => (intro w hw; have hn := hw.1.cS; rw [HSD.out] at hn; have hm := hw.1.cN; go_simp; try (with_reducible rfl))
    try simp only [Act.put, List.setIfInBounds_toArray, List.set_cons_zero, List.set_cons_succ]
    refine takeG (some 16) (i := 7) (v := ?vd7) rfl rfl (by kernel_rfl) (by kernel_rfl) (by kernel_rfl) (fun _ _ _ h => h) (Or.inl ⟨by rfl, ?hd7⟩) hS0 ?rd7
    case hd7 => (intro w _; go_simp; try (with_reducible rfl))
    try simp only [Act.put, List.setIfInBounds_toArray, List.set_cons_zero, List.set_cons_succ]
    refine takeG (some 17) (i := 8) (v := ?vd8) rfl rfl (by kernel_rfl) (by kernel_rfl) (by kernel_rfl) (fun _ _ _ h => h) (Or.inl ⟨by rfl, ?hd8⟩) hS0 ?rd8
    case hd8 => (intro w _; go_simp; try (with_reducible rfl))
    try simp only [Act.put, List.setIfInBounds_toArray, List.set_cons_zero, List.set_cons_succ]
    refine takeG (some 18) (i := 9) (v := ?vd9) rfl rfl (by kernel_rfl) (by kernel_rfl) (by kernel_rfl) (fun _ _ _ h => h) (Or.inl ⟨by rfl, ?hd9⟩) hS0 ?rd9
    case hd9 => (intro w _; go_simp; try (with_reducible rfl))
    try simp only [Act.put, List.setIfInBounds_toArray, List.set_cons_zero, List.set_cons_succ]
    refine takeG (some 19) (i := 10) (v := ?vd10) rfl rfl (by kernel_rfl) (by kernel_rfl) (by kernel_rfl) (fun _ _ _ h => h) (Or.inl ⟨by rfl, ?hd10⟩) hS0 ?rd10
    case hd10 => (intro w _; go_simp; try (with_reducible rfl))
    try simp only [Act.put, List.setIfInBounds_toArray, List.set_cons_zero, List.set_cons_succ]
    refine takeG (some 20) (i := 11) (v := _) rfl rfl (by kernel_rfl) (by kernel_rfl) (by kernel_rfl) (fun _ _ _ h => h) (yields_rel (by rfl) _ rfl rfl (fun wx hx => hx.2)) hS0 ?_
    try simp only [Act.put, List.setIfInBounds_toArray, List.set_cons_zero, List.set_cons_succ]
    refine wpAnyH_ready (rs := [12]) (by kernel_rfl) (by simp) ?_
    refine AllReadyH.cons rfl (fun K hK => ?_) AllReadyH.nil
    go_simp
    refine (CR.out _ kd).mono ?_
    rintro e q2 ⟨rfl, hq2⟩
    show K _ _
    have k2 := below_then kd hq2
    have s2 := HS.out _ k2
    refine hK.out _ _ s2 (fun _ => ?_)
    clear hK K
    refine takeG (some 22) (i := 13) (v := ?vd13) rfl rfl (by kernel_rfl) (by kernel_rfl) (by kernel_rfl) (fun _ _ _ h => h) (Or.inl ⟨by rfl, ?hd13⟩) s2 ?rd13
    case hd13 => (intro w _; go_simp; try (with_reducible rfl))
    try simp only [Act.put, List.setIfInBounds_toArray, List.set_cons_zero, List.set_cons_succ]
    refine takeG (some 23) (i := 14) (v := ?vd14) rfl rfl (by kernel_rfl) (by kernel_rfl) (by kernel_rfl) (fun _ _ _ h => h) (Or.inl ⟨by rfl, ?hd14⟩) s2 ?rd14
    case hd14 => (intro w _; go_simp; try (with_reducible rfl))
    try simp only [Act.put, List.setIfInBounds_toArray, List.set_cons_zero, List.set_cons_succ]
    refine takeG (some 24) (i := 15) (v := ?vd15) rfl rfl (by kernel_rfl) (by kernel_rfl) (by kernel_rfl) (fun _ _ _ h => h) (Or.inl ⟨by rfl, ?hd15⟩) s2 ?rd15
    case hd15 => (intro w _; go_simp; try (with_reducible rfl))
    try simp only [Act.put, List.setIfInBounds_toArray, List.set_cons_zero, List.set_cons_succ]
    refine takeG (some 26) (i := 17) (v := ?vd17) rfl rfl (by kernel_rfl) (by kernel_rfl) (by kernel_rfl) (fun _ _ _ h => h) (Or.inl ⟨by rfl, ?hd17⟩) s2 ?rd17
    case hd17 => (intro w _; go_simp; try (with_reducible rfl))
    try simp only [Act.put, List.setIfInBounds_toArray, List.set_cons_zero, List.set_cons_succ]
    refine takeG (some 27) (i := 18) (v := ?vd18) rfl rfl (by kernel_rfl) (by kernel_rfl) (by kernel_rfl) (fun _ _ _ h => h) (Or.inl ⟨by rfl, ?hd18⟩) s2 ?rd18
    case hd18 => (intro w _; go_simp; try (with_reducible rfl))
    try simp only [Act.put, List.setIfInBounds_toArray, List.set_cons_zero, List.set_cons_succ]
    refine takeG (some 28) (i := 19) (v := _) rfl rfl (by kernel_rfl) (by kernel_rfl) (by kernel_rfl) (fun _ _ _ h => h) (yields_rel (by rfl) _ rfl rfl (fun wx hx => hx.2)) s2 ?_
    try simp only [Act.put, List.setIfInBounds_toArray, List.set_cons_zero, List.set_cons_succ]
    refine wpAnyH_ready (rs := [16]) (by kernel_rfl) (by simp) ?_
    refine AllReadyH.cons rfl (fun K hK => ?_) AllReadyH.nil
    go_simp
    refine (CA.out _ k2).mono ?_
    rintro e q3 ⟨rfl, rfl⟩
    show K _ _
    refine hK.out _ _ s2 (fun _ => ?_)
    clear hK K
    refine wpAnyH_ready (rs := [20]) (by kernel_rfl) (by simp) ?_
    refine AllReadyH.cons rfl (fun K hK => ?_) AllReadyH.nil
    go_simp
    refine (CK.out _ k2).mono ?_
    rintro e q4 ⟨rfl, hq4⟩
    show K _ _
    have k4 := below_then k2 hq4
    have s4 := HS.out _ k4
    refine hK.out _ _ s4 (fun _ => ?_)
    clear hK K
    refine takeG (some 30) (i := 21) (v := ?vd21) rfl rfl (by kernel_rfl) (by kernel_rfl) (by kernel_rfl) (fun _ _ _ h => h) (Or.inl ⟨by rfl, ?hd21⟩) s4 ?rd21
    case hd21 => (intro w _; go_simp; try (with_reducible rfl))
    try simp only [Act.put, List.setIfInBounds_toArray, List.set_cons_zero, List.set_cons_succ]
    refine takeG (some 31) (i := 22) (v := ?vd22) rfl rfl (by kernel_rfl) (by kernel_rfl) (by kernel_rfl) (fun _ _ _ h => h) (Or.inl ⟨by rfl, ?hd22⟩) s4 ?rd22
    case hd22 => (intro w _; go_simp; try (with_reducible rfl))
    try simp only [Act.put, List.setIfInBounds_toArray, List.set_cons_zero, List.set_cons_succ]
    refine takeG (some 32) (i := 23) (v := ?vd23) rfl rfl (by kernel_rfl) (by kernel_rfl) (by kernel_rfl) (fun _ _ _ h => h) (Or.inl ⟨by rfl, ?hd23⟩) s4 ?rd23
    case hd23 => (intro w _; go_simp; try (with_reducible rfl))
    try simp only [Act.put, List.setIfInBounds_toArray, List.set_cons_zero, List.set_cons_succ]
    refine takeG (some 8) (i := 24) (v := ?vd24) rfl rfl (by kernel_rfl) (by kernel_rfl) (by kernel_rfl) (fun _ _ _ h => h) (Or.inl ⟨by rfl, ?hd24⟩) s4 ?rd24
    case hd24 => (intro w _; go_simp; try (with_reducible rfl))
    try simp only [Act.put, List.setIfInBounds_toArray, List.set_cons_zero, List.set_cons_succ]
    refine wpAnyH_done (by kernel_rfl) ?_ _
    go_wp2_with fail
    go_ret
    exact ⟨ret_b HV.out, HB.out _ k4⟩
  · have HV : Hid (false = holdsB h lv l V) := Lib.hid (by rw [HR.out, hsd, decide_eq_false h0]; rfl)
    obtain ⟨z, hz⟩ : ∃ z, z = lackN na nk := ⟨_, rfl⟩
    have hlk : bits .andNot .i64 (na : Int) (nk : Int) = (z : Int) := by rw [HLK.out, hz]; rfl
    have hz0 : ¬ (z : Int) = 0 := by rw [hz]; omega
    clear HR h0 hz hsd
    refine wp_region_held_drew (S := fun wx => OrdB wx B h ∧ RelAt wx w.heap.size 97 V) (by kernel_rfl) (HS.out _ kd) (fun hS0 => ?_)
    refine takeG (some 9) (i := 0) (v := ?ve0) rfl rfl (by kernel_rfl) (by kernel_rfl) (by kernel_rfl) (fun _ _ _ h => h) (Or.inl ⟨by rfl, ?he0⟩) hS0 ?re0
    case he0 => (intro w _; go_simp; try (with_reducible rfl))
    try simp only [Act.put, List.setIfInBounds_toArray, List.set_cons_zero, List.set_cons_succ]
    refine wpAnyH_ready (rs := [1]) (by kernel_rfl) (by simp) ?_
    refine AllReadyH.cons rfl (fun K hK => ?_) AllReadyH.nil
    go_simp
    refine (CI.out _).mono ?_
    rintro e q1 ⟨rfl, rfl⟩
    show K _ _
    refine hK.out _ _ hS0 (fun _ => ?_)
    clear hK K
    refine takeG (some 11) (i := 2) (v := ?ve2) rfl rfl (by kernel_rfl) (by kernel_rfl) (by kernel_rfl) (fun _ _ _ h => h) (Or.inl ⟨by rfl, ?he2⟩) hS0 ?re2
    case he2 => (intro w _; go_simp; try (with_reducible rfl))
    try simp only [Act.put, List.setIfInBounds_toArray, List.set_cons_zero, List.set_cons_succ]
    refine takeG (some 12) (i := 3) (v := ?ve3) rfl rfl (by kernel_rfl) (by kernel_rfl) (by kernel_rfl) (fun _ _ _ h => h) (Or.inl ⟨by rfl, ?he3⟩) hS0 ?re3
    case he3 => (intro w hw; have hn := hw.1.cS; rw [HSD.out] at hn; have hm := hw.1.cN; go_simp; try (with_reducible rfl))
    try simp only [Act.put, List.setIfInBounds_toArray, List.set_cons_zero, List.set_cons_succ]
    refine takeG (some 13) (i := 4) (v := ?ve4) rfl rfl (by kernel_rfl) (by kernel_rfl) (by kernel_rfl) (fun _ _ _ h => h) (Or.inl ⟨by rfl, ?he4⟩) hS0 ?re4
    case he4 => (intro w hw; have hn := hw.1.cS; rw [HSD.out] at hn; have hm := hw.1.cN; go_simp; try (with_reducible rfl))
    try simp only [Act.put, List.setIfInBounds_toArray, List.set_cons_zero, List.set_cons_succ]
    refine takeG (some 14) (i := 5) (v := ?ve5) rfl rfl (by kernel_rfl) (by kernel_rfl) (by kernel_rfl) (fun _ _ _ h => h) (Or.inl ⟨by rfl, ?he5⟩) hS0 ?re5
    case he5 => (intro w hw; have hn := hw.1.cS; rw [HSD.out] at hn; have hm := hw.1.cN; go_simp; try (with_reducible rfl))
    try simp only [Act.put, List.setIfInBounds_toArray, List.set_cons_zero, List.set_cons_succ]
    refine takeG (some 15) (i := 6) (v := ?ve6) rfl rfl (by kernel_rfl) (by kernel_rfl) (by kernel_rfl) (fun _ _ _ h => h) (Or.inl ⟨by rfl, ?he6⟩) hS0 ?re6
    case he6 => (intro w hw; have hn := hw.1.cS; rw [HSD.out] at hn; have hm := hw.1.cN; go_simp; try (with_reducible rfl))
    try simp only [Act.put, List.setIfInBounds_toArray, List.set_cons_zero, List.set_cons_succ]
    refine takeG (some 16) (i := 7) (v := ?ve7) rfl rfl (by kernel_rfl) (by kernel_rfl) (by kernel_rfl) (fun _ _ _ h => h) (Or.inl ⟨by rfl, ?he7⟩) hS0 ?re7
    case he7 => (intro w _; go_simp; try (with_reducible rfl))
    try simp only [Act.put, List.setIfInBounds_toArray, List.set_cons_zero, List.set_cons_succ]
    refine takeG (some 17) (i := 8) (v := ?ve8) rfl rfl (by kernel_rfl) (by kernel_rfl) (by kernel_rfl) (fun _ _ _ h => h) (Or.inl ⟨by rfl, ?he8⟩) hS0 ?re8
    case he8 => (intro w _; go_simp; try (with_reducible rfl))
    try simp only [Act.put, List.setIfInBounds_toArray, List.set_cons_zero, List.set_cons_succ]
    refine takeG (some 18) (i := 9) (v := ?ve9) rfl rfl (by kernel_rfl) (by kernel_rfl) (by kernel_rfl) (fun _ _ _ h => h) (Or.inl ⟨by rfl, ?he9⟩) hS0 ?re9
    case he9 => (intro w _; go_simp; try (with_reducible rfl))
    try simp only [Act.put, List.setIfInBounds_toArray, List.set_cons_zero, List.set_cons_succ]
    refine takeG (some 19) (i := 10) (v := ?ve10) rfl rfl (by kernel_rfl) (by kernel_rfl) (by kernel_rfl) (fun _ _ _ h => h) (Or.inl ⟨by rfl, ?he10⟩) hS0 ?re10
    case he10 => (intro w _; go_simp; try (with_reducible rfl))
    try simp only [Act.put, List.setIfInBounds_toArray, List.set_cons_zero, List.set_cons_succ]
    refine takeG (some 20) (i := 11) (v := _) rfl rfl (by kernel_rfl) (by kernel_rfl) (by kernel_rfl) (fun _ _ _ h => h) (yields_rel (by rfl) _ rfl rfl (fun wx hx => hx.2)) hS0 ?_
    try simp only [Act.put, List.setIfInBounds_toArray, List.set_cons_zero, List.set_cons_succ]
    refine wpAnyH_ready (rs := [12]) (by kernel_rfl) (by simp) ?_
    refine AllReadyH.cons rfl (fun K hK => ?_) AllReadyH.nil
    go_simp
    refine (CR.out _ kd).mono ?_
    rintro e q2 ⟨rfl, hq2⟩
    show K _ _
    have k2 := below_then kd hq2
    have s2 := HS.out _ k2
    refine hK.out _ _ s2 (fun _ => ?_)
    clear hK K
    refine takeG (some 22) (i := 13) (v := ?ve13) rfl rfl (by kernel_rfl) (by kernel_rfl) (by kernel_rfl) (fun _ _ _ h => h) (Or.inl ⟨by rfl, ?he13⟩) s2 ?re13
    case he13 => (intro w _; go_simp; try (with_reducible rfl))
    try simp only [Act.put, List.setIfInBounds_toArray, List.set_cons_zero, List.set_cons_succ]
    refine takeG (some 23) (i := 14) (v := ?ve14) rfl rfl (by kernel_rfl) (by kernel_rfl) (by kernel_rfl) (fun _ _ _ h => h) (Or.inl ⟨by rfl, ?he14⟩) s2 ?re14
    case he14 => (intro w _; go_simp; try (with_reducible rfl))
    try simp only [Act.put, List.setIfInBounds_toArray, List.set_cons_zero, List.set_cons_succ]
    refine takeG (some 24) (i := 15) (v := ?ve15) rfl rfl (by kernel_rfl) (by kernel_rfl) (by kernel_rfl) (fun _ _ _ h => h) (Or.inl ⟨by rfl, ?he15⟩) s2 ?re15
    case he15 => (intro w _; go_simp; try (with_reducible rfl))
    try simp only [Act.put, List.setIfInBounds_toArray, List.set_cons_zero, List.set_cons_succ]
    refine takeG (some 26) (i := 17) (v := ?ve17) rfl rfl (by kernel_rfl) (by kernel_rfl) (by kernel_rfl) (fun _ _ _ h => h) (Or.inl ⟨by rfl, ?he17⟩) s2 ?re17
    case he17 => (intro w _; go_simp; try (with_reducible rfl))
    try simp only [Act.put, List.setIfInBounds_toArray, List.set_cons_zero, List.set_cons_succ]
    refine takeG (some 27) (i := 18) (v := ?ve18) rfl rfl (by kernel_rfl) (by kernel_rfl) (by kernel_rfl) (fun _ _ _ h => h) (Or.inl ⟨by rfl, ?he18⟩) s2 ?re18
    case he18 => (intro w _; go_simp; try (with_reducible rfl))
    try simp only [Act.put, List.setIfInBounds_toArray, List.set_cons_zero, List.set_cons_succ]
    refine takeG (some 28) (i := 19) (v := _) rfl rfl (by kernel_rfl) (by kernel_rfl) (by kernel_rfl) (fun _ _ _ h => h) (yields_rel (by rfl) _ rfl rfl (fun wx hx => hx.2)) s2 ?_
    try simp only [Act.put, List.setIfInBounds_toArray, List.set_cons_zero, List.set_cons_succ]
    refine wpAnyH_ready (rs := [16]) (by kernel_rfl) (by simp) ?_
    refine AllReadyH.cons rfl (fun K hK => ?_) AllReadyH.nil
    go_simp
    refine (CA.out _ k2).mono ?_
    rintro e q3 ⟨rfl, rfl⟩
    show K _ _
    refine hK.out _ _ s2 (fun _ => ?_)
    clear hK K
    refine wpAnyH_ready (rs := [20]) (by kernel_rfl) (by simp) ?_
    refine AllReadyH.cons rfl (fun K hK => ?_) AllReadyH.nil
    go_simp
    refine (CK.out _ k2).mono ?_
    rintro e q4 ⟨rfl, hq4⟩
    show K _ _
    have k4 := below_then k2 hq4
    have s4 := HS.out _ k4
    refine hK.out _ _ s4 (fun _ => ?_)
    clear hK K
    refine takeG (some 30) (i := 21) (v := ?ve21) rfl rfl (by kernel_rfl) (by kernel_rfl) (by kernel_rfl) (fun _ _ _ h => h) (Or.inl ⟨by rfl, ?he21⟩) s4 ?re21
    case he21 => (intro w _; go_simp; try (with_reducible rfl))
    try simp only [Act.put, List.setIfInBounds_toArray, List.set_cons_zero, List.set_cons_succ]
    refine takeG (some 31) (i := 22) (v := ?ve22) rfl rfl (by kernel_rfl) (by kernel_rfl) (by kernel_rfl) (fun _ _ _ h => h) (Or.inl ⟨by rfl, ?he22⟩) s4 ?re22
    case he22 => (intro w _; go_simp; try (with_reducible rfl))
    try simp only [Act.put, List.setIfInBounds_toArray, List.set_cons_zero, List.set_cons_succ]
    refine takeG (some 32) (i := 23) (v := ?ve23) rfl rfl (by kernel_rfl) (by kernel_rfl) (by kernel_rfl) (fun _ _ _ h => h) (Or.inl ⟨by rfl, ?he23⟩) s4 ?re23
    case he23 => (intro w _; go_simp; try (with_reducible rfl))
    try simp only [Act.put, List.setIfInBounds_toArray, List.set_cons_zero, List.set_cons_succ]
    refine takeG (some 8) (i := 24) (v := ?ve24) rfl rfl (by kernel_rfl) (by kernel_rfl) (by kernel_rfl) (fun _ _ _ h => h) (Or.inl ⟨by rfl, ?he24⟩) s4 ?re24
    case he24 => (intro w _; go_simp; try (with_reducible rfl))
    try simp only [Act.put, List.setIfInBounds_toArray, List.set_cons_zero, List.set_cons_succ]
    refine wpAnyH_done (by kernel_rfl) ?_ _
    go_wp2_with fail
    go_ret
    exact ⟨ret_b (((beq_eq_false_iff_ne).2 hz0).trans HV.out), HB.out _ k4⟩
end Go.Proofs.YtecpeegbfeijaaaGreatDoor

namespace Go.Proofs.YtecpeegbfeijaaaGreatDoor
set_option maxRecDepth 100000

theorem must_mono {S S' A : Mat} {tr tr' pf pf' : Bool} (hS : ∀ i j, S i j = true → S' i j = true) (ht : tr = true → tr' = true) (hp : pf = true → pf' = true) {i j : Nat} (h : Must S A tr pf i j) : Must S' A tr' pf' i j := by
  induction h with
  | base h => exact .base (hS _ _ h)
  | trans h1 hm _ _ ih1 ih2 => exact .trans (ht h1) hm ih1 ih2
  | pre h1 hm ha _ ih => exact .pre (hp h1) hm ha ih
theorem must_in {S A : Mat} {tr pf : Bool} {V : Nat → Nat → Prop} (hS : ∀ i j, i < 64 → j < 64 → S i j = true → V i j) (ht : tr = true → ∀ i m j, i < 64 → m < 64 → j < 64 → V i m → V m j → V i j)
    (hp : pf = true → ∀ i m j, i < 64 → m < 64 → j < 64 → A i m = true → V m j → V i j) {i j : Nat} (h : Must S A tr pf i j) (hi : i < 64) (hj : j < 64) : V i j := by
  induction h with
  | base h => exact hS _ _ hi hj h
  | trans h1 hm _ _ ih1 ih2 => exact ht h1 _ _ _ hi hm hj (ih1 hi hm) (ih2 hm hj)
  | pre h1 hm ha _ ih => exact hp h1 _ _ _ hi hm hj ha (ih hm hj)
theorem must_closed {S S' A : Mat} {tr tr' pf pf' tot : Bool} (hA : ∀ i j, i < 64 → j < 64 → Must S A tr pf i j → A i j = true) (hAt : ∀ i m j, i < 64 → m < 64 → j < 64 → A i m = true → A m j = true → A i j = true)
    (htot : tot = true → ∀ i j, i < 64 → j < 64 → A i j = true → S i j = true) (hS : ∀ i j, i < 64 → j < 64 → S' i j = true → S i j = true ∨ (tot = true ∧ A i j = true))
    (ht : tr' = true → tr = true ∨ pf = true ∨ tot = true) (hp : pf' = true → pf = true ∨ tot = true) {i j : Nat} (h : Must S' A tr' pf' i j) (hi : i < 64) (hj : j < 64) : Must S A tr pf i j := by
  refine must_in (V := fun i j => Must S A tr pf i j) ?_ ?_ ?_ h hi hj
  · intro i j hi hj h
    rcases hS i j hi hj h with h | ⟨h1, h2⟩
    · exact .base h
    · exact .base (htot h1 i j hi hj h2)
  · intro h i m j hi hm hj h1 h2
    rcases ht h with h | h | h
    · exact .trans h hm h1 h2
    · exact .pre h hm (hA i m hi hm h1) h2
    · exact .base (htot h i j hi hj (hAt i m j hi hm hj (hA i m hi hm h1) (hA m j hm hj h2)))
  · intro h i m j hi hm hj h1 h2
    rcases hp h with h | h
    · exact .pre h hm h1 h2
    · exact .base (htot h i j hi hj (hAt i m j hi hm hj h1 (hA m j hm hj h2)))
end Go.Proofs.YtecpeegbfeijaaaGreatDoor

namespace Go.Proofs.YtecpeegbfeijaaaGreatDoor
set_option maxRecDepth 100000
open Go.RowKit

/-- One stands ahead of another one in a row. -/
def Ahead : List Int → Int → Int → Prop
  | [], _, _ => False
  | c :: L, a, b => Ahead L a b ∨ (c = a ∧ b ∈ L)
theorem Ahead.mem {a b : Int} : ∀ {L : List Int}, Ahead L a b → a ∈ L ∧ b ∈ L
  | [], h => h.elim
  | c :: L, h => by
    rcases h with h | ⟨rfl, h⟩
    · exact ⟨List.mem_cons_of_mem _ (Ahead.mem h).1, List.mem_cons_of_mem _ (Ahead.mem h).2⟩
    · exact ⟨List.mem_cons_self, List.mem_cons_of_mem _ h⟩
theorem ahead_at {a b : Int} : ∀ {L : List Int}, Ahead L a b ↔ ∃ i, i < L.length ∧ L.getD i 0 = a ∧ b ∈ L.drop (i + 1)
  | [] => by simp [Ahead]
  | c :: L => by
    unfold Ahead
    rw [ahead_at]
    constructor
    · rintro (⟨i, hi, h1, h2⟩ | ⟨rfl, h⟩)
      · exact ⟨i + 1, by simpa using hi, by simpa using h1, by simpa using h2⟩
      · exact ⟨0, by simp, by simp, by simpa using h⟩
    · rintro ⟨i, hi, h1, h2⟩
      cases i with
      | zero => exact .inr ⟨by simpa using h1, by simpa using h2⟩
      | succ i => exact .inl ⟨i, by simpa using hi, by simpa using h1, by simpa using h2⟩
theorem Ahead.trans {a m b : Int} : ∀ {L : List Int}, Ahead L a m → Ahead L m b → ¬ Ahead L m m → Ahead L a b
  | [], h, _, _ => h.elim
  | c :: L, h, k, hno => by
    rcases h with h | ⟨rfl, h⟩
    · rcases k with k | ⟨rfl, k⟩
      · exact .inl (Ahead.trans h k fun x => hno (.inl x))
      · exact absurd (.inr ⟨rfl, h.mem.2⟩) hno
    · rcases k with k | ⟨rfl, k⟩
      · exact .inr ⟨rfl, k.mem.2⟩
      · exact .inr ⟨rfl, k⟩
theorem behB_iff (L : List Int) (j : Nat) : behB L j = true ↔ (j : Int) ∈ L := by
  unfold behB
  rw [List.any_eq_true]
  constructor
  · rintro ⟨a, ha, e⟩; rw [beq_iff_eq] at e; exact e ▸ ha
  · intro h; exact ⟨_, h, by simp⟩
theorem chainR_iff (i j : Nat) : ∀ (L : List Int), chainR L i j = true ↔ Ahead L i j
  | [] => by simp [chainR, noR, Ahead]
  | c :: L => by
    show (chainR L i j || (c == (i : Int) && behB L j)) = true ↔ _
    rw [Bool.or_eq_true, Bool.and_eq_true, chainR_iff i j L, beq_iff_eq, behB_iff]; rfl
end Go.Proofs.YtecpeegbfeijaaaGreatDoor

namespace Go.Proofs.YtecpeegbfeijaaaGreatDoor
set_option maxRecDepth 100000
open Go.RowKit

theorem bc_of {h : List TxnV} (hc : checkI h = 0) {i : Nat} (hi : i < h.length) : h[i].b < h[i].c := by
  have h1 := (rowR_iff.1 (may_rows (may_of hc) i hi)).1
  unfold mayT at h1
  simp only [Bool.and_eq_true, decide_eq_true_eq] at h1
  omega
theorem ses_tim {h : List TxnV} (hc : checkI h = 0) {i k : Nat} (hi : i < h.length) (hk : k < h.length) (hik : i < k) (hs : h[i].s = h[k].s) : h[i].c < h[k].b := by
  have h1 := (rowR_iff.1 (may_rows (may_of hc) k hk)).2.1
  have h2 : h[i] ∈ h.take k := by
    rw [List.mem_take_iff_getElem]
    exact ⟨i, by omega, rfl⟩
  obtain ⟨⟨_, _, h3, _⟩, h4⟩ := (apartB_iff _ _).1 (List.all_eq_true.1 h1 _ h2)
  by_cases e : h[k].b < h[i].c
  · exact absurd ⟨hs, e⟩ h4
  · omega
theorem ses_in_tim {h : List TxnV} (hc : checkI h = 0) : inM (sesM h) (timM h) = true := by
  unfold inM inMTo
  rw [List.all_eq_true]
  intro i hi
  have hi := List.mem_range.1 hi
  rw [inB_iff (isSet_mkS _)]
  intro j hj hb
  rw [testBit_mkS] at hb ⊢
  simp only [hj, decide_true, Bool.true_and] at hb ⊢
  obtain ⟨h1, h2, h3⟩ := (prsTo_iff (sesP h) h.length i j hi hj h.length).1 hb
  refine (prsTo_iff (timP h) h.length i j hi hj h.length).2 ⟨h1, h2, ?_⟩
  unfold sesP at h3
  unfold timP
  rw [sAt_eq h1, sAt_eq h2] at h3
  simp only [Bool.and_eq_true, decide_eq_true_eq] at h3
  rw [cAt_eq h1, bAt_eq h2]
  exact decide_eq_true (ses_tim hc h1 h2 h3.1 h3.2)
end Go.Proofs.YtecpeegbfeijaaaGreatDoor
