/- The walk of the levels of some bits. Conditions: the bits are a number below 65536. -/
import Derived.Test.YtecofmcfniicoaaDoorTblG
import Derived.Laws.BitsAllLaws
namespace Go.Proofs.YtecofmcfniicoaaDoor
set_option maxRecDepth 100000
open Go.RowKit

theorem u16_bit (s k : Nat) (hs : s < 65536) : bits .and .u16 ((s : Int) / 2 ^ k) 1 = (if s.testBit k then 1 else 0) := by
  have e1 : ((s : Int) / 2 ^ k) = ((s / 2 ^ k : Nat) : Int) := by simp
  have hle : s / 2 ^ k ≤ s := Nat.div_le_self _ _
  rw [e1, show (1 : Int) = ((1 : Nat) : Int) from rfl, u16_and_nat _ 1 (by omega) (by omega), Nat.and_one_is_mod, Nat.testBit_eq_decide_div_mod_eq]
  rcases Nat.mod_two_eq_zero_or_one (s / 2 ^ k) with h | h <;> rw [h] <;> simp
/-- The bits below k; the levels of a row below k. -/
def bvTo (r : Nat → Bool) (k : Nat) : Nat → Bool := fun i => decide (i < k) && r i
def lvTo (r : Nat → Bool) (k : Nat) : List Nat := (List.range k).filter r
theorem lvTo_succ (r : Nat → Bool) (k : Nat) : lvTo r (k + 1) = lvTo r k ++ (if r k then [k] else []) := by
  unfold lvTo
  rw [List.range_succ, List.filter_append]
  congr 1
  cases h : r k <;> simp [h]
theorem lvTo_len (r : Nat → Bool) (k : Nat) : (lvTo r k).length ≤ k := by
  unfold lvTo
  have := List.length_filter_le r (List.range k)
  simpa using this
theorem bvTo_hit {r : Nat → Bool} {k : Nat} (h : r k = true) : rSet (bvTo r k) k true = bvTo r (k + 1) := by
  funext i
  unfold rSet bvTo
  by_cases e : i = k
  · subst e; simp [h]
  · rw [if_neg e]
    congr 1
    rw [Bool.eq_iff_iff, decide_eq_true_eq, decide_eq_true_eq]; omega
theorem bvTo_miss {r : Nat → Bool} {k : Nat} (h : r k = false) : bvTo r (k + 1) = bvTo r k := by
  funext i
  unfold bvTo
  by_cases e : i = k
  · subst e; simp [h]
  · congr 1
    rw [Bool.eq_iff_iff, decide_eq_true_eq, decide_eq_true_eq]; omega
theorem bvTo_all (r : Nat → Bool) : rowB (bvTo r 12) = rowB r := rowB_congr fun i hi => by unfold bvTo; rw [decide_eq_true hi]; rfl
theorem results_rowB2 {fn : Func} {p u : Tmp} (h : fn.results = #[.cell p 36, .tmp u]) (tmps : Array Value) (w : World) (g : Nat) (r : Nat → Bool)
    (hp : tmps.getD p undef = .pointer (some ⟨g, 0, none⟩)) (hg : BRow w g r) : (results fn tmps).run Tryd.prog w = .ok (.tuple #[.agg (rowB r), tmps.getD u undef]) w := by
  have hp' : tmps[p]?.getD undef = .pointer (some ⟨g, 0, none⟩) := by simpa using hp
  simp [results, h, hp', asAddr, run_loadVar_row w g _ 36 (rowB r) _ _ hg Tryd.underlying36 rfl (infoRow' _)]
theorem owns_cell {w : World} {base : Nat} {e : TypeId} {v : Value} {n : Nat} {xs : List Value} (h : w.ownsRow base e 1 v n xs) {g i : Nat} (hg : g < base) (x : Value) : (w.setCell ⟨g, i, none⟩ x).ownsRow base e 1 v n xs := by
  refine h.kept (row := some g) ⟨rfl, rfl, rfl, by simp, fun k hk hne => ?_⟩ (.inr fun e2 => ?_)
  · exact heap_setCell_other w ⟨g, i, none⟩ k x (fun e3 => hne (by rw [e3]))
  · have := (h.lt g e2).1; omega
set_option maxHeartbeats 2000000 in
theorem of10_any (s : Nat) (w : World) (hs : s < 65536) : Calls Tryd.prog 23 #[.int .u16 s] w fun e w' => ∃ v, e = .returned (.tuple #[.agg (rowB fun i => s.testBit i), v]) ∧ Ints w' v ((lvTo (fun i => s.testBit i) 12).map Int.ofNat) ∧ Below w.heap.size w w' := by
  obtain ⟨i0, hi, hz0, hz1, hz2⟩ := info_parts infoIntL
  have HBit := Lib.hid (fun k => u16_bit s k hs)
  clear hs
  obtain ⟨r, hr⟩ : ∃ r : Nat → Bool, r = fun i => s.testBit i := ⟨_, rfl⟩
  have HR : Hid (∀ k, s.testBit k = r k) := Lib.hid (fun k => by rw [hr])
  rw [← hr]
  clear hr
  go_enter Tryd.func23, Tryd.ntmps23
  go_wp2_with fail
  go_loopw [5, 7] (fun v i wr => ∃ k : Nat, k ≤ 12 ∧ i = .int .i64 k ∧ wr.ownsRow (w.heap.size + 2) 3 1 v (lvTo r k).length (natV (lvTo r k)) ∧ BRow wr (w.heap.size + 1) (bvTo r k) ∧ BRow wr w.heap.size noB ∧ Below w.heap.size w wr ∧ w.heap.size + 2 ≤ wr.heap.size) (fun _ i _ => 12 - (intOf i).toNat)
  case atStart =>
    refine ⟨0, by omega, rfl, World.ownsRow_nil _ _ _ _, ?_, ?_, ?_, by simp⟩
    · exact BRow.made _ _ (by simp) (rowB_none.symm.trans (rowB_congr fun i _ => by unfold bvTo; simp [noB]))
    · exact (BRow.made w noB rfl rowB_none.symm).alloc _
    · exact ((Below.refl w.heap.size w).alloc (Nat.le_refl _) _).alloc (by simp) _
  case round =>
    obtain ⟨k, hk, rfl, hown, h1, h0, hb, hgr⟩ := hrel
    have hll := lvTo_len r k
    by_cases hlt : k < 12
    · have hki : (k : Int) < 12 := by omega
      have hbt := HBit.out k
      rw [HR.out k] at hbt
      have HL := Lib.hid (lvTo_succ r k)
      have hc1 := h1.cell hlt
      have hf1 := h1.free k
      cases hrk : r k
      · rw [hrk] at hbt HL
        have HM : Hid (lvTo r (k + 1) = lvTo r k) := Lib.hid (by rw [HL.out]; simp)
        have HV := Lib.hid (bvTo_miss hrk)
        clear HL hrk
        simp only [Bool.false_eq_true, if_false] at hbt
        go_wp2_with fail
        go_roundw
        case rel => exact ⟨k + 1, by omega, by go_num, by rw [HM.out]; exact hown, by rw [HV.out]; exact h1, h0, hb, hgr⟩
        case measure => simp [intOf]; omega
      · rw [hrk] at hbt HL
        have HM : Hid (lvTo r (k + 1) = lvTo r k ++ [k]) := Lib.hid (by rw [HL.out]; simp)
        have HV := Lib.hid (bvTo_hit hrk)
        clear HL hrk
        simp only [if_true] at hbt
        have H1 := Lib.hid (h1.store k true)
        have H0 := Lib.hid (h0.other (k := ⟨w.heap.size + 1, k, none⟩) (by simp) (.bool true))
        have HB := Lib.hid (hb.setCell (p := ⟨w.heap.size + 1, k, none⟩) (by simp) (.bool true))
        have hownS := owns_cell (i := k) hown (g := w.heap.size + 1) (by omega) (.bool true)
        have hgr2 : w.heap.size + 2 ≤ (wr.setCell ⟨w.heap.size + 1, k, none⟩ (.bool true)).heap.size := by simpa using hgr
        clear hown h1 h0 hb
        go_wp2_with (at_builtin; refine wpList_append_own _ rfl _ _ 40 rfl (w.heap.size + 2) 3 i0 (.int .i64 0) 1 8 Tryd.underlying40 hi hz0 hz1 hz2 rfl (by decide) _ _ _ rfl (hownS.alloc _) ⟨_, 0, none⟩ 1 1 [.int .i64 (k : Int)] rfl rfl ?c1 ?c2 ?c3 ?c4 ?c5 ?_)
        case c1 =>
          have e : wr.heap.size = (wr.setCell ⟨w.heap.size + 1, k, none⟩ (.bool true)).heap.size := by simp
          rw [e]
          exact cell_one_new _ _ _
        case c2 => intro u hu; simp at hu; subst hu; rfl
        case c3 => unfold maxLen; omega
        case c4 => omega
        case c5 => simp; omega
        · intro v' w7 hown' hgrow _
          have hb' := below_app0 HB.out (Nat.le_refl _) hownS (by omega) hgrow
          have h7 := (H1.out.alloc _).kept hgrow (fun e => by have := (hownS.lt _ e.symm).1; omega)
          have h8 := (H0.out.alloc _).kept hgrow (fun e => by have := (hownS.lt _ e.symm).1; omega)
          have hgr7 : w.heap.size + 2 ≤ w7.heap.size := by have := hgrow.size; simp at this; omega
          clear hownS hgrow hgr2
          rw [HV.out] at h7
          go_wp2_with fail
          go_roundw
          case rel =>
            refine ⟨k + 1, by omega, by go_num, ?_, h7, h8, hb', hgr7⟩
            rw [HM.out, natV_snoc, List.length_append]
            exact hown'
          case measure => simp [intOf]; omega
    · have hkn : k = 12 := by omega
      subst hkn
      have HO : Hid (Ints (wr.setRow w.heap.size (rowB r)) u5 ((lvTo r 12).map Int.ofNat)) := Lib.hid (by
        have h := hown.kept (w' := wr.setRow w.heap.size (rowB r)) (row := some w.heap.size) ⟨rfl, rfl, rfl, by simp, fun k _ hk => setRow_other wr w.heap.size k _ (fun e => hk (by rw [e]))⟩ (.inr fun e2 => by have := (hown.lt _ e2).1; omega)
        exact Ints.of_owns (n := (lvTo r 12).length) (by unfold natV at h; rw [List.map_map]; exact h))
      have h1' := h1.congr (bvTo_all r)
      clear h1 hown
      go_wp2_with (first
        | (with_reducible refine wpList_load_rowB h1' rfl _ rfl rfl ?_)
        | (with_reducible refine wpList_store_rowB h0 r rfl _ _ rfl rfl rfl ?_))
      have h3 := h0.setRow r
      have hb3 := below_setRow (cs := rowB r) hb (Nat.le_refl _)
      exact bodyPost_ret (results_rowB2 (p := 2) (u := 3) rfl _ _ _ _ rfl h3) rfl ⟨_, rfl, HO.out, hb3⟩
end Go.Proofs.YtecofmcfniicoaaDoor
