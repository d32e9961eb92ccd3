/- Walks and plain facts that the proof of the statement RenameKeeps uses, joined: FueC FueF PlaE MemA MemC BruB SeaA SeaE OrdAJ MemD MemF SeaF AxhG. Conditions: each theorem's own. -/
import Derived.Deep.QuietTactic
import Derived.BigQuiet
import Derived.OwnWalk
import Derived.Laws.BytesArg
import Derived.Deep.CutRange
import Derived.Test.YtnhkjehfmbfmmaaGreatDoorPRenameKeeps0
import Derived.Test.YtnhkjehfmbfmmaaGreatDoorPRenameKeeps1
import Derived.Test.YtnhkjehfmbfmmaaGreatDoorPRenameKeeps2
import Derived.Test.YtnhkjehfmbfmmaaGreatDoorPRenameKeeps4
namespace Go.Proofs.YtnhkjehfmbfmmaaGreatDoor
set_option maxHeartbeats 32000000
set_option maxRecDepth 100000
set_option linter.unusedSimpArgs false
set_option linter.unusedVariables false
open Lib (hid)
section
open Go.RowKit
structure MtAt (w : World) (S f u : Nat) : Prop where
 cF : w.cell? ⟨S, 0, none⟩ = some (.int .i64 (f : Int))
 cU : w.cell? ⟨S, 1, none⟩ = some (.int .i64 (u : Int))
 fU : w.frozen? ⟨S, 1, none⟩ = false
 le : f ≤ 4611686018427387904
 uM : u ≤ 4611686018427387904
 ue : f ≠ 4611686018427387904 → u ≤ f
theorem MtAt.lt {w : World} {S f u : Nat} (h : MtAt w S f u) : S < w.heap.size := by
 have h1 := h.cF
 unfold World.cell? at h1
 cases ho : w.heap[S]? with
 | none => simp [ho] at h1
 | some o => exact (Array.getElem?_eq_some_iff.1 ho).1
theorem MtAt.below {w w' : World} {S f u B : Nat} (h : MtAt w S f u) (hb : Below B w w') (hB : S < B) : MtAt w' S f u :=
 ⟨(hb.cell (p := ⟨S, 0, none⟩) hB).trans h.cF, (hb.cell (p := ⟨S, 1, none⟩) hB).trans h.cU, (hb.frozen (p := ⟨S, 1, none⟩) hB).trans h.fU, h.le, h.uM, h.ue⟩
theorem MtAt.more {w : World} {S f u : Nat} (h : MtAt w S f u) (hu : u + 1 ≤ 4611686018427387904) (hf : f ≠ 4611686018427387904 → u + 1 ≤ f) : MtAt (w.setCell ⟨S, 1, none⟩ (.int .i64 ((u + 1 : Nat) : Int))) S f (u + 1) := by
 refine ⟨?_, World.cell?_setCell_same _ _ _ h.cU, by rw [World.frozen?_setCell]; exact h.fU, h.le, hu, hf⟩
 rw [World.cell?_setCell_other _ _ _ _ (by simp)]; exact h.cF
theorem MtAt.made (w : World) {x : Int} {f : Nat} (t : TypeId) (hx : x = (f : Int)) (hf : f ≤ 4611686018427387904) : MtAt (w.alloc (.cells #[.int .i64 x, .int .i64 0] t)) w.heap.size f 0 := by
 subst hx
 have hh := heap_alloc_new w (.cells #[.int .i64 (f : Int), .int .i64 0] t)
 refine ⟨?_, ?_, frozen_of_row _ _ _ _ _ hh, hf, by omega, fun _ => by omega⟩
 ·rw [cell_of_row _ _ _ _ _ _ hh]; rfl
 ·rw [cell_of_row _ _ _ _ _ _ hh]; rfl
theorem fnew_any (n : Int) (w : World) :
  Calls Tryz.prog 94 #[.int .i64 n] w fun e w' => ∃ S, e = .returned (.pointer (some ⟨S, 0, none⟩)) ∧ MtAt w' S (fuelN n) 0 ∧ w.heap.size ≤ S ∧ Below w.heap.size w w' := by
 have HV : Hid (min (max n 0) 4611686018427387904 = ((fuelN n : Nat) : Int)) := hid (by unfold fuelN; omega)
 have HL := hid (fuel_le n)
 go_enter Tryz.func94, Tryz.ntmps94
 have HM : Hid (∀ x : Int, x = min (max n 0) 4611686018427387904 → MtAt (w.alloc (.cells #[.int .i64 x, .int .i64 0] 199)) w.heap.size (fuelN n) 0) := hid (fun x hx => MtAt.made w 199 (by rw [hx]; exact HV.out) HL.out)
 have HB : Hid (∀ o, Below w.heap.size w (w.alloc o)) := hid (fun o => (Below.refl _ _).alloc (Nat.le_refl _) _)
 clear HV HL
 go_wp2_with fail
 all_goals
  go_ret
  exact ⟨_, rfl, HM.out _ (by omega), Nat.le_refl _, HB.out _⟩
theorem fleft_any (S f u : Nat) (w : World) (h : MtAt w S f u) :
  Calls Tryz.prog 319 #[.pointer (some ⟨S, 0, none⟩)] w fun e w' => e = .returned (.int .i64 ((mleftN f u : Nat) : Int)) ∧ Below w.heap.size w w' := by
 have h0 := h.cF
 have h1 := h.cU
 have hf := h.le
 have hu := h.uM
 by_cases e : f = 4611686018427387904
 ·have HV : Hid ((4611686018427387904 : Int) = ((mleftN f u : Nat) : Int)) := hid (by unfold mleftN; rw [if_pos e]; rfl)
  have e1 : ((f : Int) == 4611686018427387904) = true := by rw [beq_iff_eq]; omega
  clear h hf e
  go_enter Tryz.func319, Tryz.ntmps319
  go_wp2_with fail
  go_ret
  exact ⟨ret_i HV.out, Below.refl _ _⟩
 ·have hle := h.ue e
  have HV : Hid ((f : Int) - (u : Int) = ((mleftN f u : Nat) : Int)) := hid (by unfold mleftN; rw [if_neg e]; omega)
  have e1 : ((f : Int) == 4611686018427387904) = false := by rw [beq_eq_false_iff_ne]; omega
  clear h e
  go_enter Tryz.func319, Tryz.ntmps319
  go_wp2_with fail
  go_quiet (fail)
  go_wp2_with fail
  go_ret
  exact ⟨ret_i HV.out, below_drewN (Below.refl _ _) _⟩
theorem fspend_no (S f u : Nat) (w : World) (h : MtAt w S f u) (h0 : mleftN f u = 0) :
  Calls Tryz.prog 320 #[.pointer (some ⟨S, 0, none⟩)] w fun e w' => e = .returned (.bool false) ∧ Below w.heap.size w w' := by
 have C1 := hid (fleft_any S f u w h)
 rw [h0] at C1
 clear h h0
 go_enter Tryz.func320, Tryz.ntmps320
 go_wp2_with fail
 refine C1.out.mono ?_
 rintro e w1 ⟨rfl, hb⟩
 go_wp2_with fail
 go_ret
 exact ⟨rfl, hb⟩
end

section
open Go.RowKit
theorem fspend_own (S f u : Nat) (w : World) (h : MtAt w S f u) (h0 : mleftN f u ≠ 0) (hM : u + 1 ≤ 4611686018427387904) :
  Calls Tryz.prog 320 #[.pointer (some ⟨S, 0, none⟩)] w fun e w' => e = .returned (.bool true) ∧ MtAt w' S f (u + 1) ∧ w.grownBy w' (some S) := by
 have C1 := hid (fleft_any S f u w h)
 have hf : f ≠ 4611686018427387904 → u + 1 ≤ f := fun e => by unfold mleftN at h0; rw [if_neg e] at h0; omega
 have H2 : Hid (∀ wx, Below w.heap.size w wx → MtAt wx S f u ∧ ∀ x, w.grownBy (wx.setCell ⟨S, 1, none⟩ x) (some S)) := hid (fun wx hb => ⟨h.below hb h.lt, fun x => by
  have hs : Below 0 wx (wx.setCell ⟨S, 1, none⟩ x) := (Below.refl 0 wx).setCell (Nat.zero_le _) x
  exact ⟨hs.os.trans hb.os, hs.tape.trans hb.tape, hs.output.trans hb.output, Nat.le_trans hb.size hs.size, fun k hk hne => (Below.heap_setCell wx ⟨S, 1, none⟩ x k (fun e => hne (congrArg some e))).trans (hb.block k hk)⟩⟩)
 have HF := hid hf
 have hne : (((mleftN f u : Nat) : Int) == 0) = false := by rw [beq_eq_false_iff_ne]; omega
 clear h h0 hf
 generalize mleftN f u = x at *
 go_enter Tryz.func320, Tryz.ntmps320
 go_wp2_with fail
 refine C1.out.mono ?_
 rintro e w1 ⟨rfl, hb⟩
 obtain ⟨q, hb2⟩ := H2.out _ hb
 have HQ := hid (q.more hM HF.out)
 have h1 := q.cU
 have h2 := q.fU
 have HB := hid (hb2 (.int .i64 ((u + 1 : Nat) : Int)))
 clear q hb2 hb
 go_wp2_with fail
 go_ret
 exact ⟨rfl, HQ.out, HB.out⟩
end

section
open Go.RowKit
theorem row_perm {n : Nat} (hn : n ≤ 64) {L : List Nat} (h : L.Perm (List.range n)) : rowOkA (n : Int) (L.map Int.ofNat) = true := by
 have hl : (L.map Int.ofNat).length = n := by rw [List.length_map, h.length_eq, List.length_range]
 unfold rowOkA
 rw [hl, decide_eq_true rfl, Bool.true_and, decide_eq_true_eq, setL_eq]
 refine set_ext (isSet_ofL _) ?_ fun i hi => ?_
 ·unfold belowS IsSet
  split
  ·omega
  ·split
   ·omega
   ·have := Nat.pow_lt_pow_right (a := 2) (by omega) (show (n : Int).toNat < 64 by omega)
    omega
 ·rw [testBit_ofL, decide_eq_true hi, Bool.true_and]
  have e1 : hasL (L.map Int.ofNat) (i : Int) = decide (i < n) := by
   unfold hasL
   rw [Bool.eq_iff_iff, List.any_eq_true, decide_eq_true_eq]
   constructor
   ·rintro ⟨a, ha, e⟩
    obtain ⟨k, hk, rfl⟩ := List.mem_map.1 ha
    have := List.mem_range.1 (h.mem_iff.1 hk)
    rw [beq_iff_eq] at e
    have : k = i := Int.ofNat.inj e
    omega
   ·intro hin
    exact ⟨(i : Int), List.mem_map.2 ⟨i, h.mem_iff.2 (List.mem_range.2 hin), rfl⟩, by simp⟩
  rw [e1]
  unfold belowS
  by_cases h0 : (n : Int) ≤ 0
  ·rw [if_pos h0, Nat.zero_testBit]
   exact decide_eq_false (by omega)
  ·rw [if_neg h0]
   by_cases h64 : 64 ≤ (n : Int)
   ·rw [if_pos h64]
    have : n = 64 := by omega
    subst this
    rw [show (18446744073709551615 : Nat) = 2 ^ 64 - 1 from rfl, Nat.testBit_two_pow_sub_one]
   ·rw [if_neg h64, Int.toNat_natCast, Nat.testBit_two_pow_sub_one]
theorem least_kept {h : List TxnV} {x : Nat} {l : List Int} {R : Mat} (hlt : x < 64) (hR : LeastIs h x l R) : lackN x (keptN h l R) = 0 := by
 have hx : x < 9223372036854775808 := by omega
 rw [lack_iff]
 intro k hb
 have hk6 : k < 6 := by
  apply Decidable.byContradiction
  intro hge
  have hp : (64 : Nat) ≤ 2 ^ k := by
   have := Nat.pow_le_pow_right (n := 2) (by omega) (show 6 ≤ k by omega)
   omega
  rw [Nat.testBit_lt_two_pow (by omega)] at hb
  cases hb
 rw [kept_bit h l R hk6, inM_iff]
 intro i j hi hj hm
 have h7 : k = 0 ∨ k = 1 ∨ k = 2 ∨ k = 3 ∨ k = 4 ∨ k = 5 := by omega
 rcases h7 with rfl | rfl | rfl | rfl | rfl | rfl
 ·exact least_base hx hR hi hj (.inr (.inl ⟨hb, hm⟩))
 ·obtain ⟨q, hq, a1, a2⟩ := (thenR_iff R R i j).1 hm
  exact (hR i j hi hj).2 (.trans (by rw [trB_bit _ hx]; exact hb) hq ((hR i q hi hq).1 a1) ((hR q j hq hj).1 a2))
 ·obtain ⟨q, hq, a1, a2⟩ := (thenR_iff _ R i j).1 hm
  exact (hR i j hi hj).2 (.pre (by rw [pfB_bit _ hx]; exact hb) hq a1 ((hR q j hq hj).1 a2))
 ·exact least_base hx hR hi hj (.inr (.inr (.inr (.inl ⟨hb, hm⟩))))
 ·exact least_base hx hR hi hj (.inr (.inr (.inr (.inr ⟨hb, hm⟩))))
 ·exact least_base hx hR hi hj (.inr (.inr (.inl ⟨hb, hm⟩)))
section
variable {h : List TxnV} {C : Nat}
theorem good_row (hc : checkI h = 0) {r : List Nat} (hnd : r.Nodup) (hlt : ∀ k ∈ r, k < h.length) (g : goodR h C r) : RowG h C r :=
 ⟨hnd, fun k hk => by have := hlt k hk; have := (check_zero hc).1; omega, fun k hk => (g k hk).1⟩
theorem sees_col {r : List Nat} {k : Nat} (hk : k < 64) : seeTo (seesR h C r) (k : Int) 64 = plSee h C r k := by
 refine set_ext (seeTo_set _ _ _) (plSee_set h C r k) fun j hj => ?_
 rw [seeTo_bit _ _ _ _ (Nat.le_refl 64), decide_eq_true hj, Bool.true_and, hasR_nat _ _ _ hj hk]; rfl
theorem seeTo_congr {R S : Mat} (h : ∀ i j, i < 64 → j < 64 → R i j = S i j) {k : Nat} (hk : k < 64) : seeTo R (k : Int) 64 = seeTo S (k : Int) 64 := by
 refine set_ext (seeTo_set _ _ _) (seeTo_set _ _ _) fun j hj => ?_
 rw [seeTo_bit _ _ _ _ (Nat.le_refl 64), seeTo_bit _ _ _ _ (Nat.le_refl 64), hasR_nat _ _ _ hj hk, hasR_nat _ _ _ hj hk, h j k hj hk]
theorem good_right (hc : checkI h = 0) {r : List Nat} (g : RowG h C r) (hC : C < 9223372036854775808) (hlt : ∀ k ∈ r, k < h.length) {k : Nat} (hk : k ∈ r) :
  (readsOf h k).all (readOk h (r.reverse.map Int.ofNat) (seesR h C r) k) = readsP h (aheadL r) (plSee h C r k) k := by
 unfold readsP
 have hkn := hlt k hk
 have h64 := (check_zero hc).1
 refine all_congr _ fun x hx => ?_
 unfold readOk
 rw [sees_col (by omega)]
 refine read_last hc g.nd g.lt hkn (fun j hj => aheadL_mem g.lt (sees_ahead g.lt g.nd g.base hj)) hx fun n e => ?_
 rw [sees_fix g k hk]
 refine wld4_base ?_
 rcases read_from hc hkn hx with q | ⟨m, hm, q, _, _⟩
 ·rw [e] at q; omega
 ·have : n = m := by rw [e] at q; exact Int.ofNat.inj q
  subst this
  exact from_base hC h64 hkn hm hx q
theorem good_holds (hc : checkI h = 0) {lv : Int} (hlv : isLv lv = true) {r : List Nat} (hp : r.reverse.Perm (List.range h.length)) {R : Mat} (hR : LeastIs h (askN lv) (r.reverse.map Int.ofNat) R) :
  (holdsB h lv (r.reverse.map Int.ofNat) R = true ↔ soundTo h h.length = true ∧ goodR h (clI ((askN lv : Nat) : Int)) r) ∧
  (holdsB h lv (r.reverse.map Int.ofNat) R = true → ∀ j k, j < 64 → k < 64 → R j k = (plSee h (clI ((askN lv : Nat) : Int)) r k).testBit j) := by
 have h64 := (check_zero hc).1
 have hnd : r.Nodup := by
  have := (List.Perm.nodup_iff hp).2 List.nodup_range
  exact (List.reverse_perm r).nodup_iff.1 this
 have hmem : ∀ k, k ∈ r ↔ k < h.length := fun k => by rw [← List.mem_reverse, hp.mem_iff, List.mem_range]
 have hlt : ∀ k ∈ r, k < h.length := fun k hk => (hmem k).1 hk
 have hlt64 : ∀ k ∈ r, k < 64 := fun k hk => by have := hlt k hk; omega
 have hx := askN_lt lv
 have hx' : askN lv < 9223372036854775808 := by omega
 have hy : clI ((askN lv : Nat) : Int) < 9223372036854775808 := by have := clI_lt ((askN lv : Nat) : Int); omega
 obtain ⟨b0, b1, b2, b3, b4, b5⟩ := clI_bits (askN lv)
 generalize hCe : clI ((askN lv : Nat) : Int) = C at *
 have hNL : (r.reverse.map Int.ofNat).Nodup := nodup_ofNat ((List.reverse_perm r).nodup_iff.2 hnd)
 have hrow : rowOkA (h.length : Int) (r.reverse.map Int.ofNat) = true := row_perm h64 hp
 -- of a good row
 have K : RowG h C r → inM R (chainR (r.reverse.map Int.ofNat)) = true → ∀ j k, j < 64 → k < 64 → R j k = (plSee h C r k).testBit j := by
  intro g hin
  have hS : LeastIs h (clI ((askN lv : Nat) : Int)) (r.reverse.map Int.ofNat) (seesR h C r) := by rw [hCe]; exact sees_least g hy (fun k hk => (hmem k).2 hk)
  exact rowsA_inj (least_closed hc hNL hx' hR hS hin)
 have G : holdsB h lv (r.reverse.map Int.ofNat) R = true → RowG h C r := by
  intro hh
  unfold holdsB at hh
  simp only [Bool.and_eq_true] at hh
  obtain ⟨_, _, hr, _⟩ := hh
  unfold rightM at hr
  simp only [Bool.and_eq_true] at hr
  have hin := (inM_iff _ _).1 hr.2.1
  refine ⟨hnd, hlt64, fun k hk j hj => ?_⟩
  have hk64 := hlt64 k hk
  obtain ⟨hj64, hb⟩ := (baseN_bit hk64).1 hj
  rw [← ahead_chain hnd hlt64]
  refine hin j k hj64 hk64 ?_
  rw [baseM_iff h C hy] at hb
  rcases hb with hb | ⟨c0, hb⟩ | ⟨c5, hb⟩
  ·exact least_base hx' hR hj64 hk64 (.inl hb)
  ·rw [b0, Bool.or_eq_true] at c0
   rcases c0 with c0 | c0
   ·exact least_base hx' hR hj64 hk64 (.inr (.inl ⟨c0, hb⟩))
   ·exact least_base hx' hR hj64 hk64 (.inr (.inr (.inl ⟨c0, (inM_iff _ _).1 (ses_in_tim hc) j k hj64 hk64 hb⟩)))
  ·rw [b5] at c5
   exact least_base hx' hR hj64 hk64 (.inr (.inr (.inl ⟨c5, hb⟩)))
 have RT : RowG h C r → (∀ j k, j < 64 → k < 64 → R j k = (plSee h C r k).testBit j) → (rightTo h (r.reverse.map Int.ofNat) R h.length = true ↔ ∀ k ∈ r, readsP h (aheadL r) (plSee h C r k) k = true) := by
  intro g e
  have e2 : ∀ k ∈ r, (readsOf h k).all (readOk h (r.reverse.map Int.ofNat) R k) = readsP h (aheadL r) (plSee h C r k) k := by
   intro k hk
   rw [← good_right hc g hy hlt hk]
   refine all_congr _ fun x _ => ?_
   unfold readOk
   rw [seeTo_congr (R := R) (S := seesR h C r) e (hlt64 k hk)]
  unfold rightTo
  rw [List.all_eq_true]
  constructor
  ·intro q k hk
   rw [← e2 k hk]
   exact q k (List.mem_range.2 (hlt k hk))
  ·intro q k hk
   have hk := (hmem k).2 (List.mem_range.1 hk)
   rw [e2 k hk]
   exact q k hk
 have HH : holdsB h lv (r.reverse.map Int.ofNat) R = true → inM R (chainR (r.reverse.map Int.ofNat)) = true := by
  intro hh
  unfold holdsB rightM at hh
  simp only [Bool.and_eq_true] at hh
  exact hh.2.2.1.2.1
 refine ⟨⟨fun hh => ?_, fun ⟨hs, hg⟩ => ?_⟩, fun hh => K (G hh) (HH hh)⟩
 ·have g := G hh
  have e := K g (HH hh)
  have hh2 := hh
  unfold holdsB rightM at hh2
  simp only [Bool.and_eq_true] at hh2
  refine ⟨hh2.2.1, fun k hk => ⟨g.base k hk, (RT g e).1 hh2.2.2.1.2.2 k hk⟩⟩
 ·have g := good_row hc hnd hlt hg
  have hS := sees_least g hy (fun k hk => (hmem k).2 hk)
  have hin : inM R (chainR (r.reverse.map Int.ofNat)) = true := by
   refine inM_trans (least_mono (y := C) hx' hy (fun k hk => ?_) hR hS) ?_
   ·have hk6 : k < 6 := by
     apply Decidable.byContradiction
     intro hge
     have hp : (64 : Nat) ≤ 2 ^ k := by
      have := Nat.pow_le_pow_right (n := 2) (by omega) (show 6 ≤ k by omega)
      omega
     rw [Nat.testBit_lt_two_pow (by omega)] at hk
     cases hk
    have h7 : k = 0 ∨ k = 1 ∨ k = 2 ∨ k = 3 ∨ k = 4 ∨ k = 5 := by omega
    rcases h7 with rfl | rfl | rfl | rfl | rfl | rfl
    ·rw [b0, hk]; rfl
    ·rw [b1, hk]; rfl
    ·rw [b2, hk]; rfl
    ·rw [b3, hk]; rfl
    ·rw [b4, hk]
    ·rw [b5, hk]
   ·rw [inM_iff]
    intro j k _ _ hs
    rw [ahead_chain hnd hlt64]
    exact sees_ahead g.lt g.nd g.base hs
  have e := K g hin
  unfold holdsB rightM
  rw [hlv, hs, hrow, hin, (RT g e).2 fun k hk => (hg k hk).2, least_kept hx hR]; rfl
end
end

section
open Go.RowKit
def wAllN (h : List TxnV) : Nat := mkS fun j => decide (j < h.length) && !(keysOf (opsAt h j)).isEmpty
theorem wAll_set (h : List TxnV) : IsSet (wAllN h) := isSet_mkS _
theorem wAll_bit {h : List TxnV} {j : Nat} : (wAllN h).testBit j = true ↔ j < 64 ∧ j < h.length ∧ keysOf (opsAt h j) ≠ [] := by
 unfold wAllN
 rw [testBit_mkS]
 simp
theorem wrt_all {h : List TxnV} {y : Int} {j : Nat} (hj : (wrtN h y).testBit j = true) : (wAllN h).testBit j = true := by
 unfold wrtN at hj
 rw [testBit_mkS] at hj
 simp only [Bool.and_eq_true, decide_eq_true_eq] at hj
 exact wAll_bit.2 ⟨hj.1, hj.2.1, fun e => by rw [e] at hj; cases hj.2.2⟩
theorem riv_all {h : List TxnV} (hc : checkI h = 0) {i k : Nat} (hr : (rivN h i).testBit k = true) : (wAllN h).testBit i = true ∧ (wAllN h).testBit k = true := by
 have h64 := (check_zero hc).1
 obtain ⟨hk, hr⟩ := rivN_bit.1 hr
 unfold rivB rivR at hr
 simp only [Bool.and_eq_true, decide_eq_true_eq, List.any_eq_true, List.mem_range] at hr
 obtain ⟨hi, hk2, _, n, _, h1, h2⟩ := hr
 have a1 := (keysOf_iff hc hi (n : Int)).2 h1
 have a2 := (keysOf_iff hc hk2 (n : Int)).2 h2
 exact ⟨wAll_bit.2 ⟨by omega, hi, fun e => by rw [e] at a1; cases a1⟩, wAll_bit.2 ⟨hk, hk2, fun e => by rw [e] at a2; cases a2⟩⟩
structure Sim (h : List TxnV) (C : Nat) (r s : List Nat) : Prop where
 mem : ∀ j, j ∈ r ↔ j ∈ s
 wr : ∀ k j, (wAllN h).testBit k = true → (wAllN h).testBit j = true → ((aheadL r k).testBit j = true ↔ (aheadL s k).testBit j = true)
 pf : C.testBit 2 = true → C.testBit 4 = false → ∀ k j, (wAllN h).testBit j = true → ((aheadL r k).testBit j = true ↔ (aheadL s k).testBit j = true)
section
variable {h : List TxnV} {C : Nat} {r s : List Nat}
theorem Sim.all (q : Sim h C r s) (hr : ∀ k ∈ r, k < 64) : plS r = plS s := by
 apply Nat.eq_of_testBit_eq
 intro j
 rw [plS_bit j r hr, plS_bit j s (fun k hk => hr k ((q.mem k).2 hk)), Bool.eq_iff_iff, decide_eq_true_eq, decide_eq_true_eq]
 exact q.mem j
theorem Sim.cons (q : Sim h C r s) (hr : ∀ k ∈ r, k < 64) (i : Nat) : Sim h C (i :: r) (i :: s) := by
 have e := q.all hr
 refine ⟨fun j => by rw [List.mem_cons, List.mem_cons, q.mem], fun k j a b => ?_, fun a b k j c => ?_⟩
 ·unfold aheadL; split
  ·rw [e]
  ·exact q.wr k j a b
 ·unfold aheadL; split
  ·rw [e]
  ·exact q.pf a b k j c
theorem wld2_bit {b pl rv j : Nat} (h4 : C.testBit 4 = false) : (wld2 b pl rv C).testBit j = true ↔ b.testBit j = true ∨ (C.testBit 3 = true ∧ rv.testBit j = true ∧ pl.testBit j = true) := by
 have e1 : wld1 b pl C = b := by unfold wld1; rw [h4]; rfl
 unfold wld2
 rw [e1]
 cases C.testBit 3 with
 | false => simp
 | true => simp [Nat.testBit_or, Nat.testBit_and]
theorem RowG.hin (g : RowG h C r) : ∀ k j, (plSee h C r k).testBit j = true → (aheadL r k).testBit j = true := fun _ _ hj => sees_ahead g.lt g.nd g.base hj
theorem Sim.sees (hc : checkI h = 0) (q : Sim h C r s) (g : RowG h C r) (g' : RowG h C s) (h4 : C.testBit 4 = false) (h2 : C.testBit 2 = false) : ∀ (t p : List Nat), p ++ t = r → ∀ k ∈ t, plSee h C r k = plSee h C s k
 | [], _, _, _, hk => by cases hk
 | i :: t, p, e, k, hk => by
  have ih := Sim.sees hc q g g' h4 h2 t (p ++ [i]) (by rw [List.append_assoc]; exact e)
  rcases List.mem_cons.1 hk with rfl | hk
  ·have hkr : k ∈ r := by rw [← e]; simp
   have hks := (q.mem k).1 hkr
   have hnd : (p ++ k :: t).Nodup := by rw [e]; exact g.nd
   have hat : aheadL r k = plS t := by
    rw [← e, aheadL_drop hnd (List.mem_cons_self ..)]; unfold aheadL; rw [if_pos rfl]
   have ht64 : ∀ a ∈ t, a < 64 := fun a ha => g.lt a (by rw [← e]; simp [ha])
   rw [sees_fix g k hkr, sees_fix g' k hks]
   have e2 : wld2 (baseN h C k) (aheadL r k) (rivN h k) C = wld2 (baseN h C k) (aheadL s k) (rivN h k) C := by
    apply Nat.eq_of_testBit_eq
    intro j
    rw [Bool.eq_iff_iff, wld2_bit h4, wld2_bit h4]
    refine or_congr Iff.rfl (and_congr_right fun _ => and_congr_right fun hr => ?_)
    obtain ⟨a, b⟩ := riv_all hc hr
    exact q.wr k j a b
   have e3 : wld3 (baseN h C k) (aheadL r k) (rivN h k) C (plSee h C r) = wld3 (baseN h C k) (aheadL s k) (rivN h k) C (plSee h C s) := by
    unfold wld3
    rw [← e2, joinN_congr (F := plSee h C r) (G := plSee h C s) fun m _ hm => ih m ?_]
    have := wld2_in (g.base k hkr) hm
    rw [hat] at this
    exact plS_mem ht64 this
   unfold wld4
   rw [if_neg (by rw [h2]; simp), if_neg (by rw [h2]; simp)]
   exact e3
  ·exact ih k hk
theorem nextN_in (g : RowG h C r) {i : Nat} (hb : ∀ j, (baseN h C i).testBit j = true → (plS r).testBit j = true) {j : Nat} (hj : (nextN h C r i).testBit j = true) : (plS r).testBit j = true :=
 wld4_in hb (fun k j _ hj => ahead_in g.lt (g.hin k j hj)) (fun _ _ _ hj => ahead_in g.lt hj) hj
theorem next_prefix (g : RowG h C r) (h2 : C.testBit 2 = true) (i j : Nat) : (nextN h C r i).testBit j = true ↔
  (wld2 (baseN h C i) (plS r) (rivN h i) C).testBit j = true ∨ ∃ m, (wld2 (baseN h C i) (plS r) (rivN h i) C).testBit m = true ∧ m < 64 ∧ (aheadL r m).testBit j = true := by
 unfold nextN
 constructor
 ·intro hj
  have h3 : ∀ x, (wld3 (baseN h C i) (plS r) (rivN h i) C (plSee h C r)).testBit x = true → (wld2 (baseN h C i) (plS r) (rivN h i) C).testBit x = true ∨ ∃ m, (wld2 (baseN h C i) (plS r) (rivN h i) C).testBit m = true ∧ m < 64 ∧ (aheadL r m).testBit x = true := by
   intro x hx
   unfold wld3 at hx
   split at hx
   ·rw [Nat.testBit_or, Bool.or_eq_true, joinN_iff] at hx
    rcases hx with hx | ⟨m, hm, a, b⟩
    ·exact .inl hx
    ·exact .inr ⟨m, a, hm, g.hin m x b⟩
   ·exact .inl hx
  unfold wld4 at hj
  rw [if_pos h2, Nat.testBit_or, Bool.or_eq_true, joinN_iff] at hj
  rcases hj with hj | ⟨m, hm, a, b⟩
  ·exact h3 j hj
  ·rcases h3 m a with q | ⟨m2, q, hm2, q2⟩
   ·exact .inr ⟨m, q, hm, b⟩
   ·exact .inr ⟨m2, q, hm2, aheadL_trans g.nd g.lt q2 b⟩
 ·rintro (hj | ⟨m, a, hm, b⟩)
  ·exact wld4_up (wld3_up hj)
  ·unfold wld4
   rw [if_pos h2, Nat.testBit_or, Bool.or_eq_true, joinN_iff]
   exact .inr ⟨m, hm, wld3_up a, b⟩
theorem Sim.next (hc : checkI h = 0) (q : Sim h C r s) (g : RowG h C r) (g' : RowG h C s) {i : Nat} (hb : ∀ j, (baseN h C i).testBit j = true → (plS r).testBit j = true) {j : Nat} (hj : (wAllN h).testBit j = true) :
  (nextN h C r i).testBit j = true ↔ (nextN h C s i).testBit j = true := by
 have e := q.all g.lt
 cases h4 : C.testBit 4 with
 | true => exact ⟨fun a => wld4_all h4 (by rw [← e]; exact nextN_in g hb a), fun a => wld4_all h4 (by rw [e]; exact nextN_in g' (by rw [← e]; exact hb) a)⟩
 | false =>
  cases h2 : C.testBit 2 with
  | true =>
   rw [next_prefix g h2, next_prefix g' h2, ← e]
   exact or_congr Iff.rfl ⟨fun ⟨m, a, b, c⟩ => ⟨m, a, b, (q.pf h2 h4 m j hj).1 c⟩, fun ⟨m, a, b, c⟩ => ⟨m, a, b, (q.pf h2 h4 m j hj).2 c⟩⟩
  | false =>
   have hs := Sim.sees hc q g g' h4 h2 r [] rfl
   have e3 : wld3 (baseN h C i) (plS r) (rivN h i) C (plSee h C r) = wld3 (baseN h C i) (plS r) (rivN h i) C (plSee h C s) := by
    unfold wld3
    rw [joinN_congr (F := plSee h C r) (G := plSee h C s) fun m _ hm => hs m (plS_mem g.lt (wld2_in hb hm))]
   unfold nextN wld4
   rw [h2, ← e, e3]
   simp only [Bool.false_eq_true, if_false]
theorem lack_bits (a b : Nat) : decide (lackN a b = 0) = true ↔ ∀ k, a.testBit k = true → b.testBit k = true := by rw [decide_eq_true_eq, lack_iff]
theorem Sim.try (hc : checkI h = 0) (q : Sim h C r s) (g : RowG h C r) (g' : RowG h C s) (i : Nat) : tryP h C r i = tryP h C s i := by
 have e := q.all g.lt
 have h64 := (check_zero hc).1
 unfold tryP
 by_cases hi : i < h.length
 ·rw [decide_eq_true hi, Bool.true_and, Bool.true_and, show decide (i ∈ r) = decide (i ∈ s) by simp only [q.mem i], ← e]
  congr 1
  cases hbb : inB (baseN h C i) (plS r) with
  | false => rfl
  | true =>
   have hb := (inB_bits (baseN_set h C i)).1 hbb
   rw [Bool.true_and, Bool.true_and]
   unfold readsP
   refine all_congr _ fun x hx => ?_
   have hrf := read_from hc hi hx
   unfold readP readW
   by_cases h0 : 0 ≤ x.2
   ·rw [if_pos h0, if_pos h0, Bool.eq_iff_iff, lack_bits, lack_bits]
    rcases hrf with hrf | ⟨n, hn, hx2, hni, hw⟩
    ·omega
    have hWn := wrt_all hw
    rw [hx2, Int.toNat_natCast]
    have side : ∀ (a b : List Nat), (∀ k, (wAllN h).testBit k = true → ((nextN h C a i).testBit k = true → (nextN h C b i).testBit k = true)) → (∀ k, (wAllN h).testBit k = true → ((aheadL b n).testBit k = true → (aheadL a n).testBit k = true)) →
      (∀ k, (nextN h C b i &&& wrtN h x.1).testBit k = true → (withS (aheadL b n) (n : Int)).testBit k = true) → (∀ k, (nextN h C a i &&& wrtN h x.1).testBit k = true → (withS (aheadL a n) (n : Int)).testBit k = true) := by
     intro a b hab hba hB k hk
     rw [Nat.testBit_and, Bool.and_eq_true] at hk
     have hW := wrt_all hk.2
     have := hB k (by rw [Nat.testBit_and, Bool.and_eq_true]; exact ⟨hab k hW hk.1, hk.2⟩)
     rw [testBit_withS] at this ⊢
     simp only [Bool.or_eq_true] at this ⊢
     exact this.imp (hba k hW) id
    exact ⟨side s r (fun k hk a => (q.next hc g g' hb hk).2 a) (fun k hk a => (q.wr n k hWn hk).1 a), side r s (fun k hk a => (q.next hc g g' hb hk).1 a) (fun k hk a => (q.wr n k hWn hk).2 a)⟩
   ·rw [if_neg h0, if_neg h0, Bool.eq_iff_iff, decide_eq_true_eq, decide_eq_true_eq]
    have side : ∀ (a b : List Nat), (∀ k, (wAllN h).testBit k = true → ((nextN h C a i).testBit k = true → (nextN h C b i).testBit k = true)) → nextN h C b i &&& wrtN h x.1 = 0 → nextN h C a i &&& wrtN h x.1 = 0 := by
     intro a b hab hB
     apply Nat.eq_of_testBit_eq
     intro k
     rw [Nat.zero_testBit, Nat.testBit_and]
     cases hw : (wrtN h x.1).testBit k with
     | false => rw [Bool.and_false]
     | true =>
      cases hn : (nextN h C a i).testBit k with
      | false => rfl
      | true =>
       have : (nextN h C b i &&& wrtN h x.1).testBit k = true := by rw [Nat.testBit_and, hab k (wrt_all hw) hn, hw]; rfl
       rw [hB, Nat.zero_testBit] at this; cases this
    exact ⟨side s r (fun k hk a => (q.next hc g g' hb hk).2 a), side r s (fun k hk a => (q.next hc g g' hb hk).1 a)⟩
 ·rw [decide_eq_false hi]; rfl
end
end

section
open Go.RowKit
def wrOf (h : List TxnV) (r : List Nat) : List Nat := r.filter fun i => (wAllN h).testBit i
def aheadC (h : List TxnV) : List Nat → Nat → Nat
 | [], _ => 0
 | i :: r, k => if k = i then (wrOf h r).length else aheadC h r k
def reachB (C : Nat) : Bool := C.testBit 2 && !C.testBit 4
def keyL (h : List TxnV) (C : Nat) (r : List Nat) : List Nat := (wrOf h r).reverse ++ if reachB C then (lst (lackN (plS r) (wAllN h))).map (aheadC h r) else []
def byteB (l : List Nat) : ByteArray := ⟨(l.map fun n => UInt8.ofNat n).toArray⟩
def keyB (h : List TxnV) (C : Nat) (r : List Nat) : ByteArray := byteB (keyL h C r)
theorem byteB_inj : ∀ {l m : List Nat}, (∀ n ∈ l, n < 256) → (∀ n ∈ m, n < 256) → byteB l = byteB m → l = m := by
 intro l m hl hm e
 have e2 : (l.map fun n => UInt8.ofNat n) = m.map fun n => UInt8.ofNat n := by
  unfold byteB at e
  injection e with e
  injection e
 clear e
 induction l generalizing m with
 | nil => cases m with
  | nil => rfl
  | cons b m => cases e2
 | cons a l ih =>
  cases m with
  | nil => cases e2
  | cons b m =>
   rw [List.map_cons, List.map_cons] at e2
   injection e2 with h1 h2
   have ha := hl a (List.mem_cons_self ..)
   have hb := hm b (List.mem_cons_self ..)
   have h3 := congrArg UInt8.toNat h1
   rw [UInt8.toNat_ofNat', UInt8.toNat_ofNat', Nat.mod_eq_of_lt ha, Nat.mod_eq_of_lt hb] at h3
   rw [h3, ih (fun n hn => hl n (List.mem_cons_of_mem _ hn)) (fun n hn => hm n (List.mem_cons_of_mem _ hn)) h2]
section
variable {h : List TxnV} {C : Nat} {r s : List Nat}
theorem wrOf_cons (i : Nat) (r : List Nat) : wrOf h (i :: r) = if (wAllN h).testBit i then i :: wrOf h r else wrOf h r := by
 unfold wrOf; rw [List.filter_cons]
theorem mem_wrOf {j : Nat} : j ∈ wrOf h r ↔ j ∈ r ∧ (wAllN h).testBit j = true := by unfold wrOf; rw [List.mem_filter]
theorem wrOf_le : (wrOf h r).length ≤ r.length := List.length_filter_le _ _
theorem aheadC_le : ∀ (r : List Nat) (k : Nat), aheadC h r k ≤ r.length
 | [], _ => by unfold aheadC; omega
 | i :: r, k => by
  unfold aheadC
  have h1 := wrOf_le (h := h) (r := r)
  have h2 := aheadC_le r k
  split <;> (simp only [List.length_cons]; omega)
theorem ahead_wr : ∀ (r : List Nat), (∀ k ∈ r, k < 64) → ∀ (k j : Nat), (wAllN h).testBit k = true → (wAllN h).testBit j = true → ((aheadL r k).testBit j = true ↔ (aheadL (wrOf h r) k).testBit j = true)
 | [], _, k, j, _, _ => by unfold wrOf; rfl
 | i :: r, hlt, k, j, hk, hj => by
  have hlt' : ∀ a ∈ r, a < 64 := fun a ha => hlt a (List.mem_cons_of_mem _ ha)
  have ih := ahead_wr r hlt' k j hk hj
  rw [wrOf_cons]
  by_cases e : k = i
  ·subst e
   rw [if_pos hk]
   unfold aheadL
   rw [if_pos rfl, if_pos rfl, plS_bit j r hlt', plS_bit j (wrOf h r) (fun a ha => hlt' a (mem_wrOf.1 ha).1), decide_eq_true_eq, decide_eq_true_eq, mem_wrOf]
   exact ⟨fun q => ⟨q, hj⟩, And.left⟩
  ·have e1 : aheadL (i :: r) k = aheadL r k := by rw [aheadL]; exact if_neg e
   rw [e1]
   split
   ·have e2 : aheadL (i :: wrOf h r) k = aheadL (wrOf h r) k := by rw [aheadL]; exact if_neg e
    rw [e2]; exact ih
   ·exact ih
theorem ahead_suf : ∀ (r : List Nat), r.Nodup → ∀ k ∈ r, ∃ q, aheadL r k = plS q ∧ (∀ a ∈ q, a ∈ r) ∧ wrOf h q <:+ wrOf h r ∧ (wrOf h q).length = aheadC h r k
 | [], _, k, hk => by cases hk
 | i :: r, hnd, k, hk => by
  obtain ⟨hi, hnd'⟩ := List.nodup_cons.1 hnd
  have hsuf : wrOf h r <:+ wrOf h (i :: r) := by
   rw [wrOf_cons]; split
   ·exact List.suffix_cons ..
   ·exact List.suffix_refl _
  by_cases e : k = i
  ·refine ⟨r, ?_, fun a ha => List.mem_cons_of_mem _ ha, hsuf, ?_⟩
   ·rw [aheadL]; exact if_pos e
   ·rw [aheadC]; exact (if_pos e).symm
  ·obtain ⟨q, h1, h2, h3, h4⟩ := ahead_suf r hnd' k ((List.mem_cons.1 hk).resolve_left e)
   refine ⟨q, ?_, fun a ha => List.mem_cons_of_mem _ (h2 a ha), h3.trans hsuf, ?_⟩
   ·rw [aheadL]; exact (if_neg e).trans h1
   ·rw [aheadC]; exact h4.trans (if_neg e).symm
theorem ahead_none : ∀ (r : List Nat) (k : Nat), k ∉ r → aheadL r k = 0
 | [], _, _ => rfl
 | i :: r, k, hk => by
  rw [aheadL]
  rw [if_neg (fun e => hk (by rw [e]; exact List.mem_cons_self ..))]
  exact ahead_none r k fun q => hk (List.mem_cons_of_mem _ q)
theorem mem_of_plS (hr : ∀ k ∈ r, k < 64) (hs : ∀ k ∈ s, k < 64) (hp : plS r = plS s) (j : Nat) : j ∈ r ↔ j ∈ s := by
 have h1 := plS_bit j r hr
 have h2 := plS_bit j s hs
 rw [hp, h2] at h1
 simp only [decide_eq_decide] at h1
 exact h1.symm
theorem keyL_lt (hr : ∀ k ∈ r, k < 64) (hl : r.length ≤ 64) : ∀ n ∈ keyL h C r, n < 256 := by
 intro n hn
 unfold keyL at hn
 rcases List.mem_append.1 hn with hn | hn
 ·have := hr n (mem_wrOf.1 (List.mem_reverse.1 hn)).1; omega
 ·split at hn
  ·obtain ⟨k, _, rfl⟩ := List.mem_map.1 hn
   have := aheadC_le (h := h) r k; omega
  ·cases hn
theorem wrOf_perm (hr : r.Nodup) (hs : s.Nodup) (hm : ∀ j, j ∈ r ↔ j ∈ s) : (wrOf h r).length = (wrOf h s).length :=
 (((List.perm_ext_iff_of_nodup hr hs).2 hm).filter _).length_eq
theorem sim_of_key (hr : ∀ k ∈ r, k < 64) (hs : ∀ k ∈ s, k < 64) (hlr : r.length ≤ 64) (hls : s.length ≤ 64) (nr : r.Nodup) (ns : s.Nodup) (hp : plS r = plS s) (hk : keyB h C r = keyB h C s) : Sim h C r s := by
 have hm := mem_of_plS hr hs hp
 have hk := byteB_inj (keyL_lt hr hlr) (keyL_lt hs hls) hk
 unfold keyL at hk
 rw [hp] at hk
 obtain ⟨e1, e2⟩ := List.append_inj hk (by rw [List.length_reverse, List.length_reverse]; exact wrOf_perm nr ns hm)
 have e1 : wrOf h r = wrOf h s := List.reverse_inj.1 e1
 have hw : ∀ k j, (wAllN h).testBit k = true → (wAllN h).testBit j = true → ((aheadL r k).testBit j = true ↔ (aheadL s k).testBit j = true) := fun k j a b => by
  rw [ahead_wr r hr k j a b, ahead_wr s hs k j a b, e1]
 refine ⟨hm, hw, fun h2 h4 k j hj => ?_⟩
 cases hkw : (wAllN h).testBit k with
 | true => exact hw k j hkw hj
 | false =>
  by_cases hkr : k ∈ r
  ·have hks := (hm k).1 hkr
   have hpf : reachB C = true := by unfold reachB; rw [h2, h4]; rfl
   rw [if_pos hpf, if_pos hpf] at e2
   have hkl : k ∈ lst (lackN (plS s) (wAllN h)) := by
    refine mem_lst.2 ⟨hr k hkr, ?_⟩
    unfold lackN
    rw [Nat.testBit_xor, Nat.testBit_and, hkw, Bool.and_false, Bool.xor_false, plS_bit k s hs, decide_eq_true_eq]
    exact hks
   have e3 : aheadC h r k = aheadC h s k := (List.map_inj_left.1 e2) k hkl
   obtain ⟨q, a1, a2, a3, a4⟩ := ahead_suf (h := h) r nr k hkr
   obtain ⟨u, b1, b2, b3, b4⟩ := ahead_suf (h := h) s ns k hks
   rw [← e1] at b3
   have hqu : wrOf h q = wrOf h u := (List.suffix_of_suffix_length_le a3 b3 (by omega)).eq_of_length (by omega)
   rw [a1, b1, plS_bit j q (fun a ha => hr a (a2 a ha)), plS_bit j u (fun a ha => hs a (b2 a ha)), decide_eq_true_eq, decide_eq_true_eq]
   have h1 := mem_wrOf (h := h) (r := q) (j := j)
   have h2 := mem_wrOf (h := h) (r := u) (j := j)
   rw [hqu] at h1
   exact ⟨fun x => (h2.1 (h1.2 ⟨x, hj⟩)).1, fun x => (h1.1 (h2.2 ⟨x, hj⟩)).1⟩
  ·rw [ahead_none r k hkr, ahead_none s k (fun q => hkr ((hm k).2 q))]
end
end

section
def exts (many : Nat) : Nat → List Nat → List (List Nat)
 | 0, r => [r]
 | k + 1, r => (List.range many).flatMap fun i => if i ∈ r then [] else exts many k (r ++ [i])
def extsTo (many k : Nat) (r : List Nat) (j : Nat) : List (List Nat) := (List.range j).flatMap fun i => if i ∈ r then [] else exts many k (r ++ [i])
theorem extsTo_succ (many k : Nat) (r : List Nat) (j : Nat) : extsTo many k r (j + 1) = extsTo many k r j ++ if j ∈ r then [] else exts many k (r ++ [j]) := by
 unfold extsTo; rw [List.range_succ, List.flatMap_append]; simp
theorem extsTo_zero (many k : Nat) (r : List Nat) : extsTo many k r 0 = [] := rfl
theorem exts_all (many k : Nat) (r : List Nat) : exts many (k + 1) r = extsTo many k r many := rfl
theorem mem_exts {many : Nat} : ∀ {k : Nat} {r x : List Nat}, x ∈ exts many k r → (r.Nodup → x.Nodup) ∧ ((∀ i ∈ r, i < many) → ∀ i ∈ x, i < many) ∧ x.length = r.length + k ∧ r <+: x
 | 0, r, x, h => by
  obtain rfl : x = r := by simpa [exts] using h
  exact ⟨id, id, rfl, List.prefix_rfl⟩
 | k + 1, r, x, h => by
  simp only [exts, List.mem_flatMap, List.mem_range] at h
  obtain ⟨i, hi, hx⟩ := h
  split at hx
  ·cases hx
  ·next hn =>
   obtain ⟨a, b, c, d⟩ := mem_exts hx
   refine ⟨fun hr => a (by rw [List.nodup_append]; refine ⟨hr, by simp, fun u hu v hv e => ?_⟩; simp at hv; subst hv; subst e; exact hn hu), fun hr => b fun u hu => ?_, ?_, (List.prefix_append _ _).trans d⟩
   ·rcases List.mem_append.1 hu with hu | hu
    ·exact hr u hu
    ·simp at hu; omega
   ·rw [c, List.length_append, List.length_singleton]; omega
def ordersN (n : Nat) : List (List Nat) := exts n n []
end

section
open Go.RowKit
instance memDec (q : Nat × ByteArray) (M : List (Nat × ByteArray)) : Decidable (q ∈ M) := @List.instDecidableMemOfLawfulBEq _ instBEqOfDecidableEq inferInstance q M
theorem any_alike {α : Type} {p q : α → Bool} : ∀ (l : List α), (∀ a ∈ l, p a = q a) → l.any p = l.any q
 | [], _ => rfl
 | a :: l, h => by rw [List.any_cons, List.any_cons, h a (List.mem_cons_self ..), any_alike l fun b hb => h b (List.mem_cons_of_mem _ hb)]
section
variable {h : List TxnV} {C n : Nat}
theorem tryP_parts {r : List Nat} {i : Nat} (ht : tryP h C r i = true) : i < h.length ∧ i ∉ r ∧ (∀ j, (baseN h C i).testBit j = true → (plS r).testBit j = true) := by
 unfold tryP at ht
 simp only [Bool.and_eq_true, decide_eq_true_eq, Bool.not_eq_true', decide_eq_false_iff_not] at ht
 exact ⟨ht.1, ht.2.1, (inB_bits (baseN_set h C i)).1 ht.2.2.1⟩
theorem RowG.push {r : List Nat} (g : RowG h C r) (h64 : h.length ≤ 64) {i : Nat} (ht : tryP h C r i = true) : RowG h C (i :: r) := by
 obtain ⟨h1, h2, h3⟩ := tryP_parts ht
 refine ⟨List.nodup_cons.2 ⟨h2, g.nd⟩, fun k hk => ?_, fun k hk j hj => ?_⟩
 ·rcases List.mem_cons.1 hk with rfl | hk
  ·omega
  ·exact g.lt k hk
 ·by_cases e : k = i
  ·subst e; rw [aheadL, if_pos rfl]; exact h3 j hj
  ·rw [aheadL_tail e]; exact g.base k ((List.mem_cons.1 hk).resolve_left e) j hj
theorem RowG.nil : RowG h C [] := ⟨List.nodup_nil, fun _ hk => (by cases hk), fun _ hk => (by cases hk)⟩
def firstE (h : List TxnV) (C n : Nat) : Nat → List Nat → Option (List Nat)
 | 0, r => some r
 | k + 1, r => (List.range n).findSome? fun j => if tryP h C r j = true then firstE h C n k (j :: r) else none
theorem firstE_alike (hc : checkI h = 0) : ∀ (k : Nat) (r s : List Nat), Sim h C r s → RowG h C r → RowG h C s → (firstE h C n k r).isSome = (firstE h C n k s).isSome
 | 0, _, _, _, _, _ => rfl
 | k + 1, r, s, q, g, g' => by
  have h64 := (check_zero hc).1
  have key : ∀ l : List Nat, (l.findSome? fun j => if tryP h C r j = true then firstE h C n k (j :: r) else none).isSome = (l.findSome? fun j => if tryP h C s j = true then firstE h C n k (j :: s) else none).isSome := by
   intro l
   rw [List.isSome_findSome?, List.isSome_findSome?]
   refine any_alike l fun j _ => ?_
   have e := q.try hc g g' j
   cases ht : tryP h C r j with
   | false => rw [← e, ht]; rfl
   | true =>
    have ht' : tryP h C s j = true := by rw [← e]; exact ht
    rw [if_pos rfl, if_pos ht']
    exact firstE_alike hc k (j :: r) (j :: s) (q.cons g.lt j) (g.push h64 ht) (g'.push h64 ht')
  exact key _
def Bad (h : List TxnV) (C n : Nat) (M : List (Nat × ByteArray)) : Prop := ∀ q ∈ M, ∃ (r : List Nat) (k : Nat), RowG h C r ∧ r.length + k = n ∧ q = (plS r, keyB h C r) ∧ firstE h C n k r = none
theorem Bad.nil : Bad h C n [] := fun _ hq => by cases hq
theorem Bad.fails (hc : checkI h = 0) (hn : n = h.length) {M : List (Nat × ByteArray)} (hM : Bad h C n M) {r : List Nat} {k : Nat} (g : RowG h C r) (hk : r.length + k = n) (hq : (plS r, keyB h C r) ∈ M) : firstE h C n k r = none := by
 have h64 := (check_zero hc).1
 obtain ⟨s, k', g', hk', e, hf⟩ := hM _ hq
 have e1 : plS r = plS s := congrArg Prod.fst e
 have e2 : keyB h C r = keyB h C s := congrArg Prod.snd e
 have hq := sim_of_key g.lt g'.lt (by omega) (by omega) g.nd g'.nd e1 e2
 have hl : r.length = s.length := ((List.perm_ext_iff_of_nodup g.nd g'.nd).2 hq.mem).length_eq
 obtain rfl : k = k' := by omega
 have := firstE_alike (n := n) hc k r s hq g g'
 rw [hf] at this
 exact Option.isNone_iff_eq_none.1 (by simpa using this)
abbrev Srch := Option (List Nat) × List (Nat × ByteArray) × Nat
def srchStep (F : List Nat → List (Nat × ByteArray) → Srch) (h : List TxnV) (C : Nat) (r : List Nat) (st : Srch) (j : Nat) : Srch :=
 match st.1 with
 | some _ => st
 | none => if j ∈ r then st else if tryP h C r j = true then ((F (j :: r) st.2.1).1, (F (j :: r) st.2.1).2.1, st.2.2 + 1 + (F (j :: r) st.2.1).2.2) else (none, st.2.1, st.2.2 + 1)
def srchTo (F : List Nat → List (Nat × ByteArray) → Srch) (h : List TxnV) (C : Nat) (r : List Nat) (M : List (Nat × ByteArray)) (j : Nat) : Srch := (List.range j).foldl (srchStep F h C r) (none, M, 0)
def srchEnd (h : List TxnV) (C : Nat) (r : List Nat) (st : Srch) : Srch := match st.1 with
 | some _ => st
 | none => (none, (plS r, keyB h C r) :: st.2.1, st.2.2)
def srch (h : List TxnV) (C n : Nat) : Nat → List Nat → List (Nat × ByteArray) → Srch
 | 0, r, M => (some r, M, 0)
 | k + 1, r, M => if (plS r, keyB h C r) ∈ M then (none, M, 0) else srchEnd h C r (srchTo (srch h C n k) h C r M n)
theorem srchTo_succ (F : List Nat → List (Nat × ByteArray) → Srch) (r : List Nat) (M : List (Nat × ByteArray)) (j : Nat) : srchTo F h C r M (j + 1) = srchStep F h C r (srchTo F h C r M j) j := by
 unfold srchTo; rw [List.range_succ, List.foldl_append]; rfl
section
variable {F : List Nat → List (Nat × ByteArray) → Srch} {r : List Nat} {st : Srch} {j : Nat}
theorem step_found {x : List Nat} (h1 : st.1 = some x) : srchStep F h C r st j = st := by unfold srchStep; rw [h1]
theorem step_in (h1 : st.1 = none) (hj : j ∈ r) : srchStep F h C r st j = st := by unfold srchStep; rw [h1]; simp only [if_pos hj]
theorem step_no (h1 : st.1 = none) (hj : j ∉ r) (ht : tryP h C r j = false) : srchStep F h C r st j = (none, st.2.1, st.2.2 + 1) := by unfold srchStep; rw [h1, ht]; simp [hj]
theorem step_yes (h1 : st.1 = none) (hj : j ∉ r) (ht : tryP h C r j = true) : srchStep F h C r st j = ((F (j :: r) st.2.1).1, (F (j :: r) st.2.1).2.1, st.2.2 + 1 + (F (j :: r) st.2.1).2.2) := by unfold srchStep; rw [h1, ht]; simp [hj]
theorem srchTo_found {M : List (Nat × ByteArray)} {i : Nat} {x : List Nat} (h1 : (srchTo F h C r M i).1 = some x) : ∀ d, srchTo F h C r M (i + d) = srchTo F h C r M i
 | 0 => rfl
 | d + 1 => by
  have ih := srchTo_found h1 d
  rw [← Nat.add_assoc, srchTo_succ, ih, step_found h1]
theorem srchTo_found_le {M : List (Nat × ByteArray)} {i j : Nat} (hij : i ≤ j) {x : List Nat} (h1 : (srchTo F h C r M i).1 = some x) : srchTo F h C r M j = srchTo F h C r M i := by
 obtain ⟨d, rfl⟩ := Nat.le.dest hij; exact srchTo_found h1 d
theorem step_cost : st.2.2 ≤ (srchStep F h C r st j).2.2 := by
 unfold srchStep
 split
 ·exact Nat.le_refl _
 ·split
  ·exact Nat.le_refl _
  ·split
   ·show st.2.2 ≤ st.2.2 + 1 + _; omega
   ·show st.2.2 ≤ st.2.2 + 1; omega
theorem srchTo_cost {M : List (Nat × ByteArray)} {i j : Nat} (hij : i ≤ j) : (srchTo F h C r M i).2.2 ≤ (srchTo F h C r M j).2.2 := by
 induction hij with
 | refl => exact Nat.le_refl _
 | step _ ih => rw [srchTo_succ]; exact Nat.le_trans ih step_cost
end
theorem srch_in {k : Nat} {r : List Nat} {M : List (Nat × ByteArray)} (hq : (plS r, keyB h C r) ∈ M) : srch h C n (k + 1) r M = (none, M, 0) := by rw [srch]; exact if_pos hq
theorem srch_go {k : Nat} {r : List Nat} {M : List (Nat × ByteArray)} (hq : (plS r, keyB h C r) ∉ M) : srch h C n (k + 1) r M = srchEnd h C r (srchTo (srch h C n k) h C r M n) := by rw [srch]; exact if_neg hq
theorem srchEnd_cost {r : List Nat} {st : Srch} : (srchEnd h C r st).2.2 = st.2.2 ∧ (srchEnd h C r st).1 = st.1 := by
 unfold srchEnd
 split
 ·exact ⟨rfl, rfl⟩
 ·rename_i e; exact ⟨rfl, e.symm⟩
theorem srch_keys : ∀ (k : Nat) (r : List Nat) (M : List (Nat × ByteArray)), (srch h C n k r M).2.1.length ≤ M.length + (srch h C n k r M).2.2 + 1
 | 0, r, M => by unfold srch; show M.length ≤ _; omega
 | k + 1, r, M => by
  by_cases hq : (plS r, keyB h C r) ∈ M
  ·rw [srch_in hq]; show M.length ≤ _; omega
  ·rw [srch_go hq]
   have key : ∀ j, (srchTo (srch h C n k) h C r M j).2.1.length ≤ M.length + (srchTo (srch h C n k) h C r M j).2.2 := by
    intro j
    induction j with
    | zero => exact Nat.le_refl _
    | succ j ih =>
     rw [srchTo_succ]
     generalize srchTo (srch h C n k) h C r M j = st at *
     unfold srchStep
     split
     ·exact ih
     ·split
      ·exact ih
      ·split
       ·have := srch_keys k (j :: r) st.2.1
        show List.length (srch h C n k (j :: r) st.2.1).2.1 ≤ M.length + (st.2.2 + 1 + (srch h C n k (j :: r) st.2.1).2.2)
        omega
       ·show st.2.1.length ≤ M.length + (st.2.2 + 1); omega
   have := key n
   generalize srchTo (srch h C n k) h C r M n = st at *
   unfold srchEnd
   split
   ·omega
   ·show st.2.1.length + 1 ≤ M.length + st.2.2 + 1; omega
def trN : Nat → Nat
 | 0 => 0
 | k + 1 => (k + 1) * (1 + trN k)
theorem free_count {r : List Nat} (hnd : r.Nodup) (hlt : ∀ i ∈ r, i < n) : ((List.range n).filter fun j => !decide (j ∈ r)).length + r.length = n := by
 have h1 : ((List.range n).filter fun j => decide (j ∈ r)).Perm r := by
  refine (List.perm_ext_iff_of_nodup (List.nodup_range.filter _) hnd).2 fun j => ?_
  simp only [List.mem_filter, List.mem_range, decide_eq_true_eq]
  exact ⟨And.right, fun q => ⟨hlt j q, q⟩⟩
 have h2 : ((List.range n).filter fun j => decide (j ∈ r)).length + ((List.range n).filter fun j => !decide (j ∈ r)).length = (List.range n).length := by
  rw [← List.countP_eq_length_filter, ← List.countP_eq_length_filter]
  have := List.length_eq_countP_add_countP (fun j => decide (j ∈ r)) (l := List.range n)
  rw [this]
  congr 1
  refine List.countP_congr fun j _ => ?_
  cases decide (j ∈ r) <;> simp
 rw [h1.length_eq, List.length_range] at h2
 omega
theorem srch_tries : ∀ (k : Nat) (r : List Nat) (M : List (Nat × ByteArray)), r.Nodup → (∀ i ∈ r, i < n) → r.length + k = n → h.length = n → (srch h C n k r M).2.2 ≤ trN k
 | 0, r, M, _, _, _, _ => Nat.le_refl _
 | k + 1, r, M, hnd, hlt, hl, hh => by
  by_cases hq : (plS r, keyB h C r) ∈ M
  ·rw [srch_in hq]; exact Nat.zero_le _
  ·rw [srch_go hq, srchEnd_cost.1]
   have key : ∀ j, j ≤ n → (srchTo (srch h C n k) h C r M j).2.2 ≤ ((List.range j).filter fun j => !decide (j ∈ r)).length * (1 + trN k) := by
    intro j
    induction j with
    | zero => intro _; exact Nat.zero_le _
    | succ j ih =>
     intro hj
     have ih := ih (by omega)
     rw [srchTo_succ, List.range_succ, List.filter_append, List.length_append]
     generalize srchTo (srch h C n k) h C r M j = st at *
     by_cases hjr : j ∈ r
     ·rw [show (List.filter (fun j => !decide (j ∈ r)) [j]).length = 0 by simp [hjr], Nat.add_zero]
      cases h1 : st.1 with
      | some x => rw [step_found h1]; exact ih
      | none => rw [step_in h1 hjr]; exact ih
     ·rw [show (List.filter (fun j => !decide (j ∈ r)) [j]).length = 1 by simp [hjr], Nat.add_mul, Nat.one_mul]
      cases h1 : st.1 with
      | some x => rw [step_found h1]; omega
      | none =>
       cases ht : tryP h C r j with
       | false => rw [step_no h1 hjr ht]; show st.2.2 + 1 ≤ _; omega
       | true =>
        rw [step_yes h1 hjr ht]
        have := srch_tries k (j :: r) st.2.1 (List.nodup_cons.2 ⟨hjr, hnd⟩) (fun i hi => by rcases List.mem_cons.1 hi with rfl | hi; exact hj; exact hlt i hi) (by simp only [List.length_cons]; omega) hh
        show st.2.2 + 1 + (srch h C n k (j :: r) st.2.1).2.2 ≤ _
        omega
   have hf := free_count hnd hlt
   have := key n (Nat.le_refl _)
   rw [show ((List.range n).filter fun j => !decide (j ∈ r)).length = k + 1 by omega] at this
   exact this
theorem srch_right (hc : checkI h = 0) (hn : n = h.length) : ∀ (k : Nat) (r : List Nat) (M : List (Nat × ByteArray)), RowG h C r → r.length + k = n → Bad h C n M → (srch h C n k r M).1 = firstE h C n k r ∧ Bad h C n (srch h C n k r M).2.1
 | 0, r, M, _, _, hM => ⟨rfl, hM⟩
 | k + 1, r, M, g, hl, hM => by
  have h64 := (check_zero hc).1
  by_cases hq : (plS r, keyB h C r) ∈ M
  ·rw [srch_in hq]; exact ⟨(Bad.fails hc hn hM g hl hq).symm, hM⟩
  ·rw [srch_go hq]
   have key : ∀ j, (srchTo (srch h C n k) h C r M j).1 = ((List.range j).findSome? fun j => if tryP h C r j = true then firstE h C n k (j :: r) else none) ∧ Bad h C n (srchTo (srch h C n k) h C r M j).2.1 := by
    intro j
    induction j with
    | zero => exact ⟨rfl, hM⟩
    | succ j ih =>
     obtain ⟨i1, i2⟩ := ih
     rw [srchTo_succ, List.range_succ, List.findSome?_append, ← i1]
     generalize srchTo (srch h C n k) h C r M j = st at *
     cases h1 : st.1 with
     | some x => rw [step_found h1, h1]; exact ⟨rfl, i2⟩
     | none =>
      rw [Option.none_or, List.findSome?_singleton]
      by_cases hjr : j ∈ r
      ·have ht : tryP h C r j = false := by
        cases ht : tryP h C r j with
        | false => rfl
        | true => exact ((tryP_parts ht).2.1 hjr).elim
       rw [step_in h1 hjr, ht, h1]
       exact ⟨rfl, i2⟩
      ·cases ht : tryP h C r j with
       | false => rw [step_no h1 hjr ht]; exact ⟨rfl, i2⟩
       | true =>
        rw [step_yes h1 hjr ht, if_pos rfl]
        exact srch_right hc hn k (j :: r) st.2.1 (g.push h64 ht) (by simp only [List.length_cons]; omega) i2
   obtain ⟨k1, k2⟩ := key n
   have hk : firstE h C n (k + 1) r = (srchTo (srch h C n k) h C r M n).1 := k1.symm
   generalize srchTo (srch h C n k) h C r M n = st at *
   refine ⟨by rw [hk]; exact srchEnd_cost.2, ?_⟩
   unfold srchEnd
   split
   ·exact k2
   ·rename_i e
    intro q hqm
    rcases List.mem_cons.1 hqm with rfl | hqm
    ·exact ⟨r, k + 1, g, hl, rfl, hk.trans e⟩
    ·exact k2 q hqm
end
end

section
open Go.RowKit
def memF (M : List (Nat × ByteArray)) : Nat → ByteArray → Bool := fun p s => decide ((p, s) ∈ M)
theorem memF_nil : memF [] = fun _ _ => false := by funext p s; unfold memF; simp
theorem memF_cons (M : List (Nat × ByteArray)) (p : Nat) (s : ByteArray) : (fun q u => decide (q = p ∧ u = s) || memF M q u) = memF ((p, s) :: M) := by
 funext q u
 unfold memF
 rw [Bool.eq_iff_iff]
 simp
def Lasts (F U c : Nat) : Prop := F = 4611686018427387904 ∨ U + c ≤ F
theorem left_zero {F U : Nat} (h : mleftN F U = 0) : F ≠ 4611686018427387904 ∧ F ≤ U := by
 unfold mleftN at h
 split at h
 ·cases h
 ·rename_i e; exact ⟨e, by omega⟩
structure SeaStep (S Mb T : Nat) (vr vr' : Value) (w w' : World) : Prop where
 os : w'.os = w.os
 tape : w'.tape = w.tape
 output : w'.output = w.output
 size : w.heap.size ≤ w'.heap.size
 block : ∀ k, k < w.heap.size → k ≠ S → k ≠ Mb → k ≠ T → vr.ownBlock ≠ some k → w'.heap[k]? = w.heap[k]?
 own : ∀ g, vr'.ownBlock = some g → vr.ownBlock = some g ∨ w.heap.size ≤ g
section
variable {S Mb T : Nat} {vr vr' v1 v2 v3 : Value} {w w' w1 w2 w3 : World}
theorem SeaStep.of_below (hb : Below w.heap.size w w') : SeaStep S Mb T vr vr w w' := ⟨hb.os, hb.tape, hb.output, hb.size, fun k hk _ _ _ _ => hb.block k hk, fun _ hg => .inl hg⟩
theorem SeaStep.of_step (k : PlStep S vr vr' w w') : SeaStep S Mb T vr vr' w w' := ⟨k.os, k.tape, k.output, k.size, fun j hj a _ _ e => k.block j hj a e, k.own⟩
theorem SeaStep.of_meter (k : w.grownBy w' (some T)) : SeaStep S Mb T vr vr w w' := ⟨k.os, k.tape, k.output, k.size, fun j hj _ _ c _ => k.block j hj (fun e => c (by injection e)), fun _ hg => .inl hg⟩
theorem SeaStep.of_memo (k : w.grownBy w' (some Mb)) : SeaStep S Mb T vr vr w w' := ⟨k.os, k.tape, k.output, k.size, fun j hj _ c _ _ => k.block j hj (fun e => c (by injection e)), fun _ hg => .inl hg⟩
theorem SeaStep.trans (h : SeaStep S Mb T v1 v2 w1 w2) (k : SeaStep S Mb T v2 v3 w2 w3) : SeaStep S Mb T v1 v3 w1 w3 := by
 refine ⟨k.os.trans h.os, k.tape.trans h.tape, k.output.trans h.output, Nat.le_trans h.size k.size, fun j hj a c d hv => ?_, fun g hg => ?_⟩
 ·refine (k.block j (Nat.lt_of_lt_of_le hj h.size) a c d (fun e => ?_)).trans (h.block j hj a c d hv)
  rcases h.own j e with q | q
  ·exact hv q
  ·omega
 ·rcases k.own g hg with q | q
  ·exact h.own g q
  ·exact .inr (Nat.le_trans h.size q)
end
structure SrAt (w : World) (X S B Mb T : Nat) : Prop where
 c0 : w.cell? ⟨X, 0, none⟩ = some (.pointer (some ⟨S, 0, none⟩))
 c1 : w.cell? ⟨X, 1, none⟩ = some (.pointer (some ⟨B, 0, none⟩))
 c2 : w.cell? ⟨X, 2, none⟩ = some (.map (some Mb))
 c3 : w.cell? ⟨X, 3, none⟩ = some (.iface 152 (.pointer (some ⟨T, 0, none⟩)))
theorem SrAt.lt {w : World} {X S B Mb T : Nat} (h : SrAt w X S B Mb T) : X < w.heap.size := block_lt h.c0
theorem SrAt.block {w w' : World} {X S B Mb T : Nat} (h : SrAt w X S B Mb T) (hb : w'.heap[X]? = w.heap[X]?) : SrAt w' X S B Mb T :=
 ⟨(World.cell?_of_block (a := ⟨X, 0, none⟩) hb).trans h.c0, (World.cell?_of_block (a := ⟨X, 1, none⟩) hb).trans h.c1, (World.cell?_of_block (a := ⟨X, 2, none⟩) hb).trans h.c2, (World.cell?_of_block (a := ⟨X, 3, none⟩) hb).trans h.c3⟩
theorem MtAt.block {w w' : World} {S f u : Nat} (h : MtAt w S f u) (hb : w'.heap[S]? = w.heap[S]?) : MtAt w' S f u :=
 ⟨(World.cell?_of_block (a := ⟨S, 0, none⟩) hb).trans h.cF, (World.cell?_of_block (a := ⟨S, 1, none⟩) hb).trans h.cU, (World.frozen?_of_block (a := ⟨S, 1, none⟩) hb).trans h.fU, h.le, h.uM, h.ue⟩
structure Sea (w0 : World) (N S B b : Nat) (h : List TxnV) (C X Mb T F : Nat) (vb : Value) (r : List Nat) (vr : Value) (aF sF : Nat → Nat) (M : List (Nat × ByteArray)) (U : Nat) (w : World) : Prop where
 p : PlX w0 N S B b h C r vb vr aF sF w
 x : SrAt w X S B Mb T
 m : MemM w Mb M.length (memF M)
 t : MtAt w T F U
 ap : ∀ g, PlOf S vb vr g → g ≠ X ∧ g ≠ Mb ∧ g ≠ T
 ne : X ≠ Mb ∧ X ≠ T ∧ Mb ≠ T
 lo : w0.heap.size ≤ X ∧ w0.heap.size ≤ Mb ∧ w0.heap.size ≤ T
section
variable {w0 w w' : World} {N S B b : Nat} {h : List TxnV} {C X Mb T F : Nat} {vb : Value} {r : List Nat} {vr : Value} {aF sF : Nat → Nat} {M : List (Nat × ByteArray)} {U : Nat}
theorem Sea.below (q : Sea w0 N S B b h C X Mb T F vb r vr aF sF M U w) (hb : Below w.heap.size w w') : Sea w0 N S B b h C X Mb T F vb r vr aF sF M U w' :=
 ⟨q.p.below hb, q.x.block (hb.block X q.x.lt), q.m.block (hb.block Mb q.m.lt), q.t.block (hb.block T q.t.lt), q.ap, q.ne, q.lo⟩
theorem Sea.spend (q : Sea w0 N S B b h C X Mb T F vb r vr aF sF M U w) (hO : OrdIs w0 B b h) (ht : Tab w0) (hg : w.grownBy w' (some T)) (hm : MtAt w' T F (U + 1)) : Sea w0 N S B b h C X Mb T F vb r vr aF sF M (U + 1) w' := by
 have n1 : some X ≠ some T := fun e => q.ne.2.1 (by injection e)
 have n2 : some Mb ≠ some T := fun e => q.ne.2.2 (by injection e)
 exact ⟨q.p.apart hO ht (ApartQ.of_grown hg) (fun k hk => by rw [hk]; exact q.lo.2.2) (fun e => (q.ap S (.inl rfl)).2.2 e) (fun g hg2 e => (q.ap g (.inr (.inl hg2))).2.2 e) (fun g hg2 e => (q.ap g (.inr (.inr hg2))).2.2 e),
  q.x.block (hg.block X q.x.lt n1), q.m.block (hg.block Mb q.m.lt n2), hm, q.ap, q.ne, q.lo⟩
theorem Sea.add (q : Sea w0 N S B b h C X Mb T F vb r vr aF sF M U w) (hO : OrdIs w0 B b h) (ht : Tab w0) (hg : w.grownBy w' (some Mb)) {M' : List (Nat × ByteArray)} (hm : MemM w' Mb M'.length (memF M')) : Sea w0 N S B b h C X Mb T F vb r vr aF sF M' U w' := by
 have n1 : some X ≠ some Mb := fun e => q.ne.1 (by injection e)
 have n2 : some T ≠ some Mb := fun e => q.ne.2.2 (by injection e with e; exact e.symm)
 exact ⟨q.p.apart hO ht (ApartQ.of_grown hg) (fun k hk => by rw [hk]; exact q.lo.2.1) (fun e => (q.ap S (.inl rfl)).2.1 e) (fun g hg2 e => (q.ap g (.inr (.inl hg2))).2.1 e) (fun g hg2 e => (q.ap g (.inr (.inr hg2))).2.1 e),
  q.x.block (hg.block X q.x.lt n1), hm, q.t.block (hg.block T q.t.lt n2), q.ap, q.ne, q.lo⟩
theorem Sea.step (q : Sea w0 N S B b h C X Mb T F vb r vr aF sF M U w) {r' : List Nat} {vr' : Value} {aF' sF' : Nat → Nat} (p' : PlX w0 N S B b h C r' vb vr' aF' sF' w') (k : PlStep S vr vr' w w') : Sea w0 N S B b h C X Mb T F vb r' vr' aF' sF' M U w' := by
 have hb : ∀ g, g < w.heap.size → (g = X ∨ g = Mb ∨ g = T) → w'.heap[g]? = w.heap[g]? := fun g hl hg => by
  refine k.block g hl (fun e => ?_) (fun e => ?_)
  ·have := q.ap g (.inl e); omega
  ·have := q.ap g (.inr (.inr e)); omega
 refine ⟨p', q.x.block (hb X q.x.lt (.inl rfl)), q.m.block (hb Mb q.m.lt (.inr (.inl rfl))), q.t.block (hb T q.t.lt (.inr (.inr rfl))), fun g hg => ?_, q.ne, q.lo⟩
 rcases hg with hg | hg | hg
 ·exact q.ap g (.inl hg)
 ·exact q.ap g (.inr (.inl hg))
 ·rcases k.own g hg with e | e
  ·exact q.ap g (.inr (.inr e))
  ·have := q.x.lt; have := q.m.lt; have := q.t.lt; omega
end
end

section
open Go.RowKit
def WrsIs (F : Int → Option Nat) (h : List TxnV) : Prop := ∀ y j, ((F y).getD 0).testBit j = (decide (j < h.length) && decide (y ∈ keysOf (opsAt h j)))
theorem wrsIs_of {h : List TxnV} {K : List KRow} (hc : checkI h = 0) (hK : K.map (·.2) = keysTo h h.length) : WrsIs (wrsTo K K.length) h := fun y j => by
 have h64 := (check_zero hc).1
 have hl := keys_len hK
 rw [wrsTo_bit K j y K.length (by omega) (Nat.le_refl _), hl]
 by_cases hj : j < h.length
 ·rw [keys_at hK hj]
 ·simp [hj]
theorem ordis_map {w : World} {B b : Nat} {h : List TxnV} (hO : OrdIs w B b h) (hc : checkI h = 0) : ∃ bm m c F, w.cell? ⟨B, 193, none⟩ = some (.map (some bm)) ∧ MapI eS Tryz.prog 3 w bm m F c ∧ AllSet F ∧ WrsIs F h := by
 obtain ⟨bm, m, c, vk, vr, K, R, h1, h2, h3, h4, h5, h6⟩ := hO
 exact ⟨bm, m, c, _, h1.cM, h2, h3, wrsIs_of hc h5⟩
theorem keys_in {h : List TxnV} (hc : checkI h = 0) {j : Nat} (hj : j < h.length) {y : Int} (hy : y ∈ keysOf (opsAt h j)) : 0 ≤ y ∧ y < 64 := by
 obtain ⟨_, _, _, hks⟩ := check_zero hc
 obtain ⟨o, ho, rfl⟩ := List.mem_map.1 hy
 have h3 := (refWrites_mem ho).1
 rw [opsAt_eq hj] at h3
 exact hks _ (List.getElem_mem hj) o h3
end

section
open Go.RowKit
theorem keyIM : Tryz.prog.underlying 3 = some (.int .i64) := by kernel_rfl
theorem mapISM : Tryz.prog.underlying 109 = some (.map 3 106) := by kernel_rfl
theorem eS_injM : ∀ x y : Nat, eS x = eS y → x = y := fun x y e => by
 unfold eS at e
 injection e with _ e
 exact_mod_cast e
def Alls (F : Int → Option Nat) (left : Int → Bool) (s : Nat) : Prop := IsSet s ∧ ∀ j, s.testBit j = true ↔ ∃ x u, InI x ∧ F x = some u ∧ left x = false ∧ u.testBit j = true
theorem Alls.start (F : Int → Option Nat) : Alls F (fun x => (F x).isSome) 0 := ⟨by unfold IsSet; omega, fun j => ⟨fun q => by simp at q, fun ⟨x, u, _, h1, h2, _⟩ => by
 have h2 : (F x).isSome = false := h2
 rw [h1] at h2; cases h2⟩⟩
theorem Alls.step {F : Int → Option Nat} {left : Int → Bool} {s : Nat} (h : Alls F left s) (hA : AllSet F) {x : Int} {u : Nat} (hx : InI x) (hf : F x = some u) : Alls F (fun y => left y && !decide (y = x)) (s ||| u) := by
 have hu := hA x
 rw [hf] at hu
 refine ⟨isSet_or h.1 hu, fun j => ?_⟩
 rw [Nat.testBit_or, Bool.or_eq_true, h.2 j]
 constructor
 ·rintro (⟨y, v, h1, h2, h3, h4⟩ | h4)
  ·exact ⟨y, v, h1, h2, by show (left y && _) = false; rw [h3]; rfl, h4⟩
  ·exact ⟨x, u, hx, hf, by simp, h4⟩
 ·rintro ⟨y, v, h1, h2, h3, h4⟩
  by_cases e : y = x
  ·subst e; rw [hf] at h2; cases h2; exact .inr h4
  ·have h3 : (left y && !decide (y = x)) = false := h3
   rw [decide_eq_false e] at h3
   exact .inl ⟨y, v, h1, h2, by simpa using h3, h4⟩
theorem Alls.done {F : Int → Option Nat} {left : Int → Bool} {s : Nat} {h : List TxnV} (q : Alls F left s) (hc : checkI h = 0) (hW : WrsIs F h) (hl : ∀ x, InI x → left x = false) : s = wAllN h := by
 have h64 := (check_zero hc).1
 apply Nat.eq_of_testBit_eq
 intro j
 rw [Bool.eq_iff_iff, q.2 j, wAll_bit]
 constructor
 ·rintro ⟨x, u, h1, h2, h3, h4⟩
  have := hW x j
  rw [h2, Option.getD_some, h4] at this
  have := this.symm
  simp only [Bool.and_eq_true, decide_eq_true_eq] at this
  exact ⟨by omega, this.1, fun e => by rw [e] at this; cases this.2⟩
 ·rintro ⟨h1, h2, h3⟩
  obtain ⟨y, l, e⟩ := List.exists_cons_of_ne_nil h3
  have hy : y ∈ keysOf (opsAt h j) := by rw [e]; exact List.mem_cons_self ..
  have := hW y j
  rw [decide_eq_true h2, decide_eq_true hy] at this
  have hyi := keys_in hc h2 hy
  have hI : InI y := WalkArith.wf_i64 (by omega)
  cases hF : F y with
  | none => rw [hF] at this; simp at this
  | some u => exact ⟨y, u, hI, hF, hl y hI, by rw [hF] at this; exact this⟩
theorem mwriters_any {w : World} {B b : Nat} {h : List TxnV} (hO : OrdIs w B b h) (hc : checkI h = 0) :
  Calls Tryz.prog 226 #[.pointer (some ⟨B, 0, none⟩)] w fun e w' => e = .returned (.int .u64 ((wAllN h : Nat) : Int)) ∧ Below w.heap.size w w' := by
 obtain ⟨bm, m, c, F, n0, hM, hA, hW⟩ := ordis_map hO hc
 have HD : Hid (∀ left s, (∀ x, InI x → left x = false) → Alls F left s → s = wAllN h) := hid (fun left s hl q => q.done hc hW hl)
 have HS : Hid (∀ left s x u, InI x → F x = some u → Alls F left s → Alls F (fun y => left y && !decide (y = x)) (s ||| u)) := hid (fun left s x u hx hf q => q.step hA hx hf)
 have HU : Hid (∀ x u, F x = some u → IsSet u) := hid (fun x u hf => by have := hA x; rw [hf] at this; exact this)
 have hbm := hM.lt
 clear hO hc hA hW
 go_enter Tryz.func226, Tryz.ntmps226
 go_wp2_with (first | (at_range; refine wpList_rangeI _ rfl _ 109 rfl 3 106 keyIM mapISM _ _ _ _ rfl hM ?_; intro w0 hR0 hg0 hs0) | go_in)
 try go_frame
 have hb0 := (Below.refl w.heap.size w).grown hg0 (Nat.le_refl _) (fun j hj => by cases hj)
 have hpr : w.heap.size ≤ w.heap.size := Nat.le_refl _
 clear hM hg0 hs0 n0
 go_loopw [3] (fun v wx => ∃ (left : Int → Bool) (cnt s : Nat), v = .int .u64 (s : Int) ∧ Hid (Alls F left s) ∧ RangeI eS Tryz.prog 3 wx bm w.heap.size m F left cnt ∧ Below w.heap.size w wx) (fun _ wx => wx.rangeLeft bm w.heap.size)
 case atStart => exact ⟨_, _, 0, rfl, hid (Alls.start F), hR0, hb0⟩
 case round =>
  clear hR0 hb0
  obtain ⟨left, cnt, s, rfl, HA, hR, hb⟩ := hrel
  have hs := HA.out.1
  go_wp2_with (first | (at_next; refine wpList_nextI _ rfl _ rfl 3 keyIM eS_injM _ _ _ _ _ _ rfl hR ?_ ?_) | go_in)
  ·intro hc0 hl0
   have e := HD.out _ _ hl0 HA.out
   subst e
   clear hR hs HA HD HS HU
   go_wp2_with fail
   go_ret
   exact ⟨rfl, hb⟩
  ·intro x u w1 cnt1 hx hlx hfu hR1 hlt1 hg1 hs1 hen
   have hu := HU.out x u hfu
   have HA2 := hid (HS.out _ _ _ _ hx hfu HA.out)
   have hor := bits_or_u64_nat s u hs hu
   have hb1 := hb.grown hg1 hb.size (fun j hj => by cases hj; exact hpr)
   have hle2 := hR.left_eq
   clear hR hb hg1 hs1 hlx hfu hx hu hs HA
   change Sem.run _ _ _ = Result.ok (Value.tuple #[.int .i64 x, .int .u64 (u : Int)]) _ at hen
   simp only [eS]
   go_wp2_with fail
   go_roundw
   case rel => exact ⟨_, _, _, rfl, HA2, hR1, hb1⟩
   case measure => rw [hR1.left_eq, hle2]; exact hlt1
end

section
open Go.RowKit
theorem infoByte : ((Tryz.prog.info? 5).map fun i => (i.zero, i.size, i.bytes)) = some (some (.int .u8 0), 1, 1) := by kernel_rfl
def u8V (l : List Nat) : List Value := l.map fun n : Nat => Value.int .u8 (n : Int)
def ByAt (w : World) (A : Nat) (F : Nat → Nat) : Prop := ∀ i, i < 64 → w.cell? ⟨A, i, none⟩ = some (.int .u8 ((F i : Nat) : Int)) ∧ w.frozen? ⟨A, i, none⟩ = false
section
variable {w w' : World} {A : Nat} {F : Nat → Nat}
theorem ByAt.lt (h : ByAt w A F) : A < w.heap.size := block_lt (h 0 (by omega)).1
theorem ByAt.block (h : ByAt w A F) (hb : w'.heap[A]? = w.heap[A]?) : ByAt w' A F := fun i hi =>
 ⟨(World.cell?_of_block (a := ⟨A, i, none⟩) hb).trans (h i hi).1, (World.frozen?_of_block (a := ⟨A, i, none⟩) hb).trans (h i hi).2⟩
theorem ByAt.below {B : Nat} (h : ByAt w A F) (hb : Below B w w') (hB : A < B) : ByAt w' A F := h.block (hb.block A hB)
theorem ByAt.set (h : ByAt w A F) {i : Nat} (hi : i < 64) (s : Nat) : ByAt (w.setCell ⟨A, i, none⟩ (.int .u8 (s : Int))) A (updN F i s) := fun k hk => by
 refine ⟨?_, by rw [World.frozen?_setCell]; exact (h k hk).2⟩
 unfold updN
 by_cases e : k = i
 ·subst e; rw [if_pos rfl]; exact World.cell?_setCell_same _ _ _ (h k hk).1
 ·rw [if_neg e, World.cell?_setCell_other _ _ _ _ (fun q => e (by injection q with _ q2; exact q2.symm))]
  exact (h k hk).1
theorem ByAt.made (w : World) (t : TypeId) (cs : Array Value) (h : ∀ i, i < 64 → cs[i]? = some (.int .u8 0)) : ByAt (w.alloc (.cells cs t)) w.heap.size (fun _ => 0) := fun i hi => by
 have hn := heap_alloc_new w (.cells cs t)
 exact ⟨by rw [cell_of_row _ _ _ _ _ _ hn]; exact h i hi, frozen_of_row _ _ _ _ _ hn⟩
end
theorem row_bytes {w : World} {base : Nat} {v : Value} {l : List Nat} (h : w.ownsRow base 5 1 v l.length (u8V l)) : (convert 128 9 v).run Tryz.prog w = .ok (.string (byteB l)) w := by
 rcases h.2 with ⟨rfl, h0⟩ | ⟨g, cap, cur, rfl, _, hg, h1, _, h2, h3⟩
 ·obtain rfl := List.eq_nil_of_length_eq_zero h0
  exact run_convert_bytes_nil (P := Tryz.prog) w 128 5 Tryz.underlying128 Tryz.underlying5 0 0 9 Tryz.underlying9
 ·have := run_convert_bytes_arg (P := Tryz.prog) w 128 5 Tryz.underlying128 Tryz.underlying5 g 0 l.length cap (l.map Int.ofNat) (by simp) (fun i hi => by
   rw [Nat.zero_add, cell_of_row _ _ _ _ _ _ hg]
   have e : cur.toList[i]? = (u8V l)[i]? := by rw [← h3, Nat.mul_one, List.getElem?_take, if_pos hi]
   rw [← Array.getElem?_toList, e]
   unfold u8V
   simp [List.getD, hi]) 9 Tryz.underlying9
  rw [this]
  congr 2
  unfold strOfNums byteB
  rw [List.map_map]
  rfl
def lastK (r : List Nat) (k : Nat) : List Nat := (r.reverse.take k).reverse
theorem lastK_succ (r : List Nat) (k : Nat) (hk : k < r.reverse.length) : lastK r (k + 1) = r.reverse[k] :: lastK r k := by
 unfold lastK; rw [List.take_succ_eq_append_getElem hk, List.reverse_append]; rfl
theorem lastK_all (r : List Nat) (k : Nat) (hk : k = r.length) : lastK r k = r := by
 unfold lastK; rw [List.take_of_length_le (by rw [List.length_reverse]; omega), List.reverse_reverse]
theorem aheadC_upd (h : List TxnV) (i : Nat) (r : List Nat) : aheadC h (i :: r) = updN (aheadC h r) i (wrOf h r).length := by
 funext k; unfold updN; rw [aheadC]
theorem mreaches_any (C : Nat) (hC : C < 9223372036854775808) (w : World) :
  Calls Tryz.prog 227 #[.int .i64 (C : Int)] w fun e w' => e = .returned (.bool (reachB C)) ∧ w = w' := by
 obtain ⟨q16, h16⟩ : ∃ q, bits .and .i64 (C : Int) 16 = q := ⟨_, rfl⟩
 obtain ⟨q4, h4⟩ : ∃ q, bits .and .i64 (C : Int) 4 = q := ⟨_, rfl⟩
 have e16 := bit_ne C 4 hC (by omega) h16
 have e4 := bit_ne C 2 hC (by omega) h4
 have HV : Hid (reachB C = (!decide (q4 = 0) && decide (q16 = 0))) := hid (by unfold reachB; rw [e16, e4]; cases decide (q16 = 0) <;> simp)
 clear e16 e4
 rw [HV.out]
 clear HV
 go_enter Tryz.func227, Tryz.ntmps227
 by_cases z4 : q4 = 0
 ·have b4 : (q4 != 0) = false := by simp [z4]
  go_wp2_with fail
  go_ret
  exact ⟨by simp [z4], rfl⟩
 ·have b4 : (q4 != 0) = true := by simp [z4]
  go_wp2_with fail
  go_ret
  refine ⟨?_, rfl⟩
  by_cases z16 : q16 = 0 <;> simp [z4, z16]
theorem lack_set {a b : Nat} (ha : IsSet a) : IsSet (lackN a b) := isSet_of_bits fun i hi => by
 unfold lackN
 rw [Nat.testBit_xor, Nat.testBit_and, ha.high hi]; simp
theorem zero_bytes (w : World) : ByAt (w.alloc (.cells #[.int .u8 0, .int .u8 0, .int .u8 0, .int .u8 0, .int .u8 0, .int .u8 0, .int .u8 0, .int .u8 0, .int .u8 0, .int .u8 0, .int .u8 0, .int .u8 0, .int .u8 0, .int .u8 0, .int .u8 0, .int .u8 0, .int .u8 0, .int .u8 0, .int .u8 0, .int .u8 0, .int .u8 0, .int .u8 0, .int .u8 0, .int .u8 0, .int .u8 0, .int .u8 0, .int .u8 0, .int .u8 0, .int .u8 0, .int .u8 0, .int .u8 0, .int .u8 0, .int .u8 0, .int .u8 0, .int .u8 0, .int .u8 0, .int .u8 0, .int .u8 0, .int .u8 0, .int .u8 0, .int .u8 0, .int .u8 0, .int .u8 0, .int .u8 0, .int .u8 0, .int .u8 0, .int .u8 0, .int .u8 0, .int .u8 0, .int .u8 0, .int .u8 0, .int .u8 0, .int .u8 0, .int .u8 0, .int .u8 0, .int .u8 0, .int .u8 0, .int .u8 0, .int .u8 0, .int .u8 0, .int .u8 0, .int .u8 0, .int .u8 0, .int .u8 0] 293)) w.heap.size (fun _ => 0) := ByAt.made w _ _ fun i hi => by
 rw [show (#[.int .u8 0, .int .u8 0, .int .u8 0, .int .u8 0, .int .u8 0, .int .u8 0, .int .u8 0, .int .u8 0, .int .u8 0, .int .u8 0, .int .u8 0, .int .u8 0, .int .u8 0, .int .u8 0, .int .u8 0, .int .u8 0, .int .u8 0, .int .u8 0, .int .u8 0, .int .u8 0, .int .u8 0, .int .u8 0, .int .u8 0, .int .u8 0, .int .u8 0, .int .u8 0, .int .u8 0, .int .u8 0, .int .u8 0, .int .u8 0, .int .u8 0, .int .u8 0, .int .u8 0, .int .u8 0, .int .u8 0, .int .u8 0, .int .u8 0, .int .u8 0, .int .u8 0, .int .u8 0, .int .u8 0, .int .u8 0, .int .u8 0, .int .u8 0, .int .u8 0, .int .u8 0, .int .u8 0, .int .u8 0, .int .u8 0, .int .u8 0, .int .u8 0, .int .u8 0, .int .u8 0, .int .u8 0, .int .u8 0, .int .u8 0, .int .u8 0, .int .u8 0, .int .u8 0, .int .u8 0, .int .u8 0, .int .u8 0, .int .u8 0, .int .u8 0] : Array Value) = (List.replicate 64 (Value.int .u8 0)).toArray from rfl, List.getElem?_toArray, List.getElem?_replicate, if_pos hi]
theorem hasB_bit {s : Nat} {j : Nat} (hj : j < 64) : hasB s (j : Int) = s.testBit j := by
 unfold hasB
 rw [Int.toNat_natCast, show decide (0 ≤ (j : Int) ∧ (j : Int) < 64) = true by simp; omega, Bool.true_and]
theorem own_form {w : World} {base : Nat} {e : TypeId} {size n : Nat} {v : Value} {xs : List Value} (h : w.ownsRow base e size v n xs) : ∃ ao cap, v = .slice ao n cap := by
 rcases h.2 with ⟨rfl, rfl⟩ | ⟨g, cap, cur, rfl, _⟩
 ·exact ⟨_, _, rfl⟩
 ·exact ⟨_, _, rfl⟩
theorem u8V_app (l : List Nat) (n : Nat) : u8V (l ++ [n]) = u8V l ++ [.int .u8 (n : Int)] := by unfold u8V; rw [List.map_append]; rfl
theorem wrap_u8 {n : Nat} (h : n < 256) : IntKind.u8.wrap (n : Int) = (n : Int) := by
 have : IntKind.u8.wrap (n : Int) = (n : Int) % 256 := by rfl
 rw [this]; omega
structure KyAt (w : World) (g p : Nat) (s : ByteArray) : Prop where
 c0 : w.cell? ⟨g, 0, none⟩ = some (.int .u64 (p : Int))
 c1 : w.cell? ⟨g, 1, none⟩ = some (.string s)
 f0 : w.frozen? ⟨g, 0, none⟩ = false
 f1 : w.frozen? ⟨g, 1, none⟩ = false
section
variable {w w' : World} {g p : Nat} {s : ByteArray}
theorem KyAt.lt (h : KyAt w g p s) : g < w.heap.size := block_lt h.c0
theorem KyAt.block (h : KyAt w g p s) (hb : w'.heap[g]? = w.heap[g]?) : KyAt w' g p s :=
 ⟨(World.cell?_of_block (a := ⟨g, 0, none⟩) hb).trans h.c0, (World.cell?_of_block (a := ⟨g, 1, none⟩) hb).trans h.c1, (World.frozen?_of_block (a := ⟨g, 0, none⟩) hb).trans h.f0, (World.frozen?_of_block (a := ⟨g, 1, none⟩) hb).trans h.f1⟩
theorem KyAt.below (h : KyAt w g p s) (hb : Below w.heap.size w w') : KyAt w' g p s := h.block (hb.block g h.lt)
theorem KyAt.made (w : World) : KyAt (w.alloc (.cells #[.int .u64 0, .string ⟨#[]⟩] 246)) w.heap.size 0 ⟨#[]⟩ := by
 have hn := heap_alloc_new w (.cells #[.int .u64 0, .string ⟨#[]⟩] 246)
 refine ⟨?_, ?_, frozen_of_row _ _ _ _ _ hn, frozen_of_row _ _ _ _ _ hn⟩ <;> (rw [cell_of_row _ _ _ _ _ _ hn]; rfl)
theorem KyAt.set (h : KyAt w g p s) (q : Nat) (u : ByteArray) : KyAt ((w.setCell ⟨g, 0, none⟩ (.int .u64 (q : Int))).setCell ⟨g, 1, none⟩ (.string u)) g q u := by
 refine ⟨?_, ?_, ?_, ?_⟩
 ·rw [World.cell?_setCell_other _ _ _ _ (by simp)]
  exact World.cell?_setCell_same _ _ _ h.c0
 ·exact World.cell?_setCell_same _ _ _ (by rw [World.cell?_setCell_other _ _ _ _ (by simp)]; exact h.c1)
 ·simp only [World.frozen?_setCell]; exact h.f0
 ·simp only [World.frozen?_setCell]; exact h.f1
end
structure OfB (N A : Nat) (rv : Value) (bs : List Nat) (F : Nat → Nat) (w4 wr : World) : Prop where
 own : wr.ownsRow N 5 1 rv bs.length (u8V bs)
 tab : ByAt wr A F
 gr : w4.grownBy wr (some A)
 len : bs.length ≤ 128
section
variable {N A : Nat} {rv : Value} {bs : List Nat} {F : Nat → Nat} {w4 wr w6 : World}
theorem OfB.set (q : OfB N A rv bs F w4 wr) (hA : A < N) {i : Nat} (hi : i < 64) (s : Nat) : OfB N A rv bs (updN F i s) w4 (wr.setCell ⟨A, i, none⟩ (.int .u8 (s : Int))) := by
 have hs : Below 0 wr (wr.setCell ⟨A, i, none⟩ (.int .u8 (s : Int))) := (Below.refl 0 wr).setCell (Nat.zero_le _) _
 refine ⟨pl_far q.own hA _, q.tab.set hi s, ⟨hs.os.trans q.gr.os, hs.tape.trans q.gr.tape, hs.output.trans q.gr.output, Nat.le_trans q.gr.size hs.size, fun k hk hne => ?_⟩, q.len⟩
 rw [Below.heap_setCell wr ⟨A, i, none⟩ _ k (fun e => hne (by rw [e]))]
 exact q.gr.block k hk hne
theorem OfB.app (q : OfB N A rv bs F w4 wr) (hA : A < N) (hN : N = w4.heap.size) {o : Obj} {v' : Value} {n : Nat} (hl : bs.length + 1 ≤ 128) (hown : w6.ownsRow N 5 1 v' (bs.length + 1) (u8V bs ++ [.int .u8 (n : Int)])) (hg : (wr.alloc o).grownBy w6 rv.ownBlock) : OfB N A v' (bs ++ [n]) F w4 w6 := by
 have hlo := q.own.lt
 have hAr : rv.ownBlock ≠ some A := fun e => by have := (hlo A e).1; omega
 have hAl := q.tab.lt
 have hz : wr.heap.size ≤ (wr.alloc o).heap.size := by simp
 refine ⟨by rw [u8V_app, List.length_append]; exact hown, q.tab.block ((hg.block A (by omega) (fun e => hAr e.symm)).trans (Below.heap_alloc wr o A hAl)), ⟨hg.os.trans q.gr.os, hg.tape.trans q.gr.tape, hg.output.trans q.gr.output, Nat.le_trans q.gr.size (Nat.le_trans hz hg.size), fun k hk hne => ?_⟩, by rw [List.length_append]; exact hl⟩
 have hkr : k < wr.heap.size := Nat.lt_of_lt_of_le hk q.gr.size
 rw [hg.block k (by omega) (fun e => by have := (hlo k e.symm).1; omega), Below.heap_alloc wr o k hkr]
 exact q.gr.block k hk hne
theorem OfB.below (q : OfB N A rv bs F w4 wr) (hb : Below wr.heap.size wr w6) : OfB N A rv bs F w4 w6 :=
 ⟨owns_below q.own hb, q.tab.below hb q.tab.lt, ⟨hb.os.trans q.gr.os, hb.tape.trans q.gr.tape, hb.output.trans q.gr.output, Nat.le_trans q.gr.size hb.size, fun k hk hne => (hb.block k (Nat.lt_of_lt_of_le hk q.gr.size)).trans (q.gr.block k hk hne)⟩, q.len⟩
end
section
variable {W : World} {S B b : Nat} {h : List TxnV} {C : Nat} {r : List Nat} {vb vr : Value} {aF sF : Nat → Nat} {w : World}
theorem mof_any (p : PlIs W S B b h C r vb vr aF sF w) (hc : checkI h = 0) (hC : C < 9223372036854775808) :
  Calls Tryz.prog 170 #[.pointer (some ⟨B, 0, none⟩), .pointer (some ⟨S, 0, none⟩)] w fun e w' => e = .returned (kV (plS r) (keyB h C r)) ∧ Below w.heap.size w w' := by
 have h64 := (check_zero hc).1
 obtain ⟨i0, hi, hz0, hz1, hz2⟩ := info_parts infoByte
 have hrl : r.length ≤ 64 := by have := p.len; omega
 have hlt64 : ∀ k ∈ r, k < 64 := fun k hk => by have := p.lt k hk; omega
 have P := hid p
 have CP := hid (fun wx (hx : Below w.heap.size w wx) => pplaced_any (p.below hx))
 have CW := hid (fun wx (hx : Below w.heap.size w wx) => mwriters_any (p.below hx).ord hc)
 have CR := hid (fun wx (hx : Below w.heap.size w wx) => prow_at (p.below hx) h64)
 have CA := hid (fun wx (hx : Below w.heap.size w wx) => pasks_any (p.below hx))
 have CL := hid (fun wx (hx : Below w.heap.size w wx) => list_any (lackN (plS r) (wAllN h)) wx (lack_set (plS_set r)) (p.below hx).tab)
 have CH := hid (fun (n : Int) wx => has_any (wAllN h) n wx (wAll_set h))
 have CM := hid (fun wx => mreaches_any C hC wx)
 have HLT := hid hlt64
 have HLK : Hid (bits .andNot .u64 ((plS r : Nat) : Int) ((wAllN h : Nat) : Int) = ((lackN (plS r) (wAllN h) : Nat) : Int)) := hid (bits_andNot_u64_nat _ _ (plS_set r) (wAll_set h))
 have hb0 := box_below w (.cells #[.int .u64 0, .string ⟨#[]⟩] 246)
 have hky : ∀ wx, Below (w.heap.size + 1) (w.alloc (.cells #[.int .u64 0, .string ⟨#[]⟩] 246)) wx → KyAt wx w.heap.size 0 ⟨#[]⟩ := fun wx hx => by
  exact (KyAt.made w).block (hx.block w.heap.size (Nat.lt_succ_self _))
 have hs0 : (w.alloc (.cells #[.int .u64 0, .string ⟨#[]⟩] 246)).heap.size = w.heap.size + 1 := by simp
 have HKY := hid hky
 clear p hlt64 hky
 go_enter Tryz.func170, Tryz.ntmps170
 go_upto_region 1 with fail
 generalize w.alloc (.cells #[.int .u64 0, .string ⟨#[]⟩] 246) = w0 at *
 go_wp2_with fail
 refine (CP.out _ hb0).mono ?_
 rintro e wq ⟨rfl, rfl⟩
 go_wp2_with fail
 refine (CW.out _ hb0).mono ?_
 rintro e w1 ⟨rfl, hb1⟩
 have hk1 : Below (w.heap.size + 1) w0 w1 := by rw [← hs0]; exact hb1
 have hb1 := below_then hb0 hb1
 clear hb0 CP CW
 go_upto_region 4 with fail
 have z2 := zero_bytes w1
 have hb2 := hb1.alloc hb1.size (.cells #[.int .u8 0, .int .u8 0, .int .u8 0, .int .u8 0, .int .u8 0, .int .u8 0, .int .u8 0, .int .u8 0, .int .u8 0, .int .u8 0, .int .u8 0, .int .u8 0, .int .u8 0, .int .u8 0, .int .u8 0, .int .u8 0, .int .u8 0, .int .u8 0, .int .u8 0, .int .u8 0, .int .u8 0, .int .u8 0, .int .u8 0, .int .u8 0, .int .u8 0, .int .u8 0, .int .u8 0, .int .u8 0, .int .u8 0, .int .u8 0, .int .u8 0, .int .u8 0, .int .u8 0, .int .u8 0, .int .u8 0, .int .u8 0, .int .u8 0, .int .u8 0, .int .u8 0, .int .u8 0, .int .u8 0, .int .u8 0, .int .u8 0, .int .u8 0, .int .u8 0, .int .u8 0, .int .u8 0, .int .u8 0, .int .u8 0, .int .u8 0, .int .u8 0, .int .u8 0, .int .u8 0, .int .u8 0, .int .u8 0, .int .u8 0, .int .u8 0, .int .u8 0, .int .u8 0, .int .u8 0, .int .u8 0, .int .u8 0, .int .u8 0, .int .u8 0] 293)
 have hk2 := hk1.alloc (by rw [← hs0]; exact hk1.size) (.cells #[.int .u8 0, .int .u8 0, .int .u8 0, .int .u8 0, .int .u8 0, .int .u8 0, .int .u8 0, .int .u8 0, .int .u8 0, .int .u8 0, .int .u8 0, .int .u8 0, .int .u8 0, .int .u8 0, .int .u8 0, .int .u8 0, .int .u8 0, .int .u8 0, .int .u8 0, .int .u8 0, .int .u8 0, .int .u8 0, .int .u8 0, .int .u8 0, .int .u8 0, .int .u8 0, .int .u8 0, .int .u8 0, .int .u8 0, .int .u8 0, .int .u8 0, .int .u8 0, .int .u8 0, .int .u8 0, .int .u8 0, .int .u8 0, .int .u8 0, .int .u8 0, .int .u8 0, .int .u8 0, .int .u8 0, .int .u8 0, .int .u8 0, .int .u8 0, .int .u8 0, .int .u8 0, .int .u8 0, .int .u8 0, .int .u8 0, .int .u8 0, .int .u8 0, .int .u8 0, .int .u8 0, .int .u8 0, .int .u8 0, .int .u8 0, .int .u8 0, .int .u8 0, .int .u8 0, .int .u8 0, .int .u8 0, .int .u8 0, .int .u8 0, .int .u8 0] 293)
 have hs2 : (w1.alloc (.cells #[.int .u8 0, .int .u8 0, .int .u8 0, .int .u8 0, .int .u8 0, .int .u8 0, .int .u8 0, .int .u8 0, .int .u8 0, .int .u8 0, .int .u8 0, .int .u8 0, .int .u8 0, .int .u8 0, .int .u8 0, .int .u8 0, .int .u8 0, .int .u8 0, .int .u8 0, .int .u8 0, .int .u8 0, .int .u8 0, .int .u8 0, .int .u8 0, .int .u8 0, .int .u8 0, .int .u8 0, .int .u8 0, .int .u8 0, .int .u8 0, .int .u8 0, .int .u8 0, .int .u8 0, .int .u8 0, .int .u8 0, .int .u8 0, .int .u8 0, .int .u8 0, .int .u8 0, .int .u8 0, .int .u8 0, .int .u8 0, .int .u8 0, .int .u8 0, .int .u8 0, .int .u8 0, .int .u8 0, .int .u8 0, .int .u8 0, .int .u8 0, .int .u8 0, .int .u8 0, .int .u8 0, .int .u8 0, .int .u8 0, .int .u8 0, .int .u8 0, .int .u8 0, .int .u8 0, .int .u8 0, .int .u8 0, .int .u8 0, .int .u8 0, .int .u8 0] 293)).heap.size = w1.heap.size + 1 := by simp
 have hA1 : w.heap.size + 1 ≤ w1.heap.size := by have := hk1.size; omega
 clear hb1 hk1 hs0
 generalize w1.alloc (.cells #[.int .u8 0, .int .u8 0, .int .u8 0, .int .u8 0, .int .u8 0, .int .u8 0, .int .u8 0, .int .u8 0, .int .u8 0, .int .u8 0, .int .u8 0, .int .u8 0, .int .u8 0, .int .u8 0, .int .u8 0, .int .u8 0, .int .u8 0, .int .u8 0, .int .u8 0, .int .u8 0, .int .u8 0, .int .u8 0, .int .u8 0, .int .u8 0, .int .u8 0, .int .u8 0, .int .u8 0, .int .u8 0, .int .u8 0, .int .u8 0, .int .u8 0, .int .u8 0, .int .u8 0, .int .u8 0, .int .u8 0, .int .u8 0, .int .u8 0, .int .u8 0, .int .u8 0, .int .u8 0, .int .u8 0, .int .u8 0, .int .u8 0, .int .u8 0, .int .u8 0, .int .u8 0, .int .u8 0, .int .u8 0, .int .u8 0, .int .u8 0, .int .u8 0, .int .u8 0, .int .u8 0, .int .u8 0, .int .u8 0, .int .u8 0, .int .u8 0, .int .u8 0, .int .u8 0, .int .u8 0, .int .u8 0, .int .u8 0, .int .u8 0, .int .u8 0] 293) = w2 at *
 generalize w1.heap.size = A at *
 go_wp2_with fail
 refine (CR.out _ hb2).mono ?_
 rintro e w4 ⟨v, rfl, rfl, hI, hb4⟩
 have z4 := z2.below hb4 z2.lt
 have hk4 : Below (w.heap.size + 1) w0 w4 := hk2.trans (hb4.mono (by omega))
 have hb4 := below_then hb2 hb4
 rw [hs2] at hI ⊢
 have hA : A < w4.heap.size := z4.lt
 have hAw : w.heap.size ≤ A := by omega
 have hw4 : w.heap.size + 1 ≤ w4.heap.size := by omega
 have HI := hid (fun wx (hg : w4.grownBy wx (some A)) => hI.grown hg (fun b e e2 => by
  simp only [Value.ownBlock, Option.some.injEq] at e e2
  omega))
 have HG := hid (fun wx (hg : w4.grownBy wx (some A)) => hb4.grown hg hb4.size (fun j e => by injection e with e; omega))
 have HKG := hid (fun wx (hg : w4.grownBy wx (some A)) => hk4.grown hg hw4 (fun j e => by injection e with e; omega))
 have q0 : OfB w4.heap.size A (.slice none 0 0) [] (fun _ => 0) w4 w4 := ⟨World.ownsRow_nil _ _ _ _, z4, World.grownBy.refl _ _, by simp⟩
 clear hs2 CR z2 z4 hb2 hk2 hk4 hb4 hI
 go_wp2_with fail
 go_loopw [7, 20] (fun rv iv wr => ∃ (k : Nat) (bs : List Nat) (F : Nat → Nat), k ≤ r.length ∧ iv = .int .i64 k ∧ bs.length ≤ k ∧ OfB w4.heap.size A rv bs F w4 wr ∧ Hid (bs = (wrOf h (lastK r k)).reverse ∧ F = aheadC h (lastK r k))) (fun _ iv _ => r.length - (intOf iv).toNat)
 case atStart => exact ⟨0, [], fun _ => 0, Nat.zero_le _, rfl, Nat.zero_le _, q0, hid ⟨rfl, rfl⟩⟩
 case round =>
  clear q0
  obtain ⟨k, bs, F, hk, rfl, hbk, q, HQ⟩ := hrel
  obtain ⟨ro, rc, rfl⟩ := own_form q.own
  by_cases hkl : k < r.length
  ·have hki : (k : Int) < (r.length : Int) := by omega
   have hkL : k < r.reverse.length := by rw [List.length_reverse]; exact hkl
   obtain ⟨ga, oa, hao, e0⟩ := ints_at (HI.out _ q.gr) hkL
   cases hao
   rw [Nat.zero_add] at e0
   have hi64 : r.reverse[k] < 64 := HLT.out _ (List.mem_reverse.1 (List.getElem_mem hkL))
   have HL1 := hid (lastK_succ r k hkL)
   generalize r.reverse[k] = i at *
   have hi64i : (i : Int) < 64 := by omega
   have hb64 : bs.length < 256 := by omega
   have hwl := wrap_u8 hb64
   have hwi := wrap_u8 (show i < 256 by omega)
   obtain ⟨t0, t1⟩ := q.tab i hi64
   have HS := hid (q.set hA hi64 bs.length)
   have CHI := hid (fun wx => CH.out (i : Int) wx)
   rw [hasB_bit hi64] at CHI
   clear q
   go_upto_region 8 with fail
   have q := HS.out
   clear HS t0 t1 e0
   generalize wr.setCell ⟨A, i, none⟩ (.int .u8 (bs.length : Int)) = w5 at *
   go_wp2_with fail
   refine (CHI.out _).mono ?_
   rintro e wq ⟨rfl, rfl⟩
   clear CHI
   cases hw : (wAllN h).testBit i with
   | true =>
    have HR : Hid (bs ++ [i] = (wrOf h (lastK r (k + 1))).reverse ∧ updN F i bs.length = aheadC h (lastK r (k + 1))) := hid (by
     obtain ⟨a1, a2⟩ := HQ.out
     rw [HL1.out, wrOf_cons, if_pos hw, List.reverse_cons, ← a1, aheadC_upd, ← a2, a1, List.length_reverse]
     exact ⟨rfl, rfl⟩)
    have hown := q.own
    clear HQ HL1 hw
    go_wp2_with (at_builtin; refine wpList_append_own _ rfl _ _ 128 rfl w4.heap.size 5 i0 (.int .u8 0) 1 1 Tryz.underlying128 hi hz0 hz1 hz2 rfl (by decide) _ _ _ rfl (hown.alloc _) ⟨_, 0, none⟩ 1 1 [.int .u8 (i : Int)] rfl rfl ?c1 ?c2 ?c3 ?c4 ?c5 ?_)
    try case c1 => exact cell_one_new _ _ _
    case c2 => first | rfl | (intro u hu; simp at hu; subst hu; rfl)
    case c3 => unfold maxLen; omega
    case c4 => omega
    case c5 => have := q.gr.size; simp; omega
    intro v6 w6 hown6 hg6 _
    have q := q.app hA rfl (by omega) hown6 hg6
    clear hown hown6 hg6
    go_wp2_with fail
    go_roundw
    case rel => exact ⟨k + 1, bs ++ [i], _, by omega, by go_num, by simp; omega, q, HR⟩
    case measure => simp [intOf]; omega
   | false =>
    have HR : Hid (bs = (wrOf h (lastK r (k + 1))).reverse ∧ updN F i bs.length = aheadC h (lastK r (k + 1))) := hid (by
     obtain ⟨a1, a2⟩ := HQ.out
     rw [HL1.out, wrOf_cons, hw, aheadC_upd, ← a2, a1, List.length_reverse]
     exact ⟨rfl, rfl⟩)
    clear HQ HL1 hw
    go_wp2_with fail
    go_roundw
    case rel => exact ⟨k + 1, bs, _, by omega, by go_num, by omega, q, HR⟩
    case measure => simp [intOf]; omega
  ·have hkn : k = r.length := by omega
   have HV : Hid (bs = (wrOf h r).reverse ∧ F = aheadC h r) := hid (by have := HQ.out; rwa [lastK_all r k hkn] at this)
   have hbl : bs.length ≤ 64 := by omega
   have CA1 := hid (CA.out _ (HG.out _ q.gr))
   clear HQ hkl hbk CA HI HLT
   subst hkn
   go_wp2_with fail
   refine CA1.out.mono ?_
   rintro e wq ⟨rfl, rfl⟩
   go_wp2_with fail
   refine (CM.out _).mono ?_
   rintro e wq ⟨rfl, rfl⟩
   clear CA1 CM
   cases hpf : reachB C with
   | false =>
    have HE : Hid (keyB h C r = byteB bs) := hid (by unfold keyB keyL; rw [hpf, HV.out.1]; simp)
    clear CL CH hpf
    have hcv := row_bytes q.own
    have KY := hid ((HKY.out _ (HKG.out _ q.gr)).set (plS r) (byteB bs))
    obtain ⟨y0, y1, y2, y3⟩ := HKY.out _ (HKG.out _ q.gr)
    have hZ := ((HG.out _ q.gr).setCell (p := ⟨w.heap.size, 0, none⟩) (Nat.le_refl _) (.int .u64 ((plS r : Nat) : Int))).setCell (p := ⟨w.heap.size, 1, none⟩) (Nat.le_refl _) (.string (byteB bs))
    have HZ := hid hZ
    clear hZ
    go_wp2_with fail
    obtain ⟨d0, d1, _, _⟩ := KY.out
    refine bodyPost_ret (v := .agg #[.int .u64 ((plS r : Nat) : Int), .string (byteB bs)]) ?_ rfl ⟨by rw [HE.out]; rfl, HZ.out⟩
    simp [results, Tryz.results170, go_sem, d0, d1]
   | true =>
    have CL1 := hid (CL.out _ (HG.out _ q.gr))
    have HE : Hid (keyB h C r = byteB (bs ++ (lst (lackN (plS r) (wAllN h))).map F)) := hid (by unfold keyB keyL; rw [hpf, HV.out.1, HV.out.2]; simp)
    have HLS : Hid (∀ n ∈ lst (lackN (plS r) (wAllN h)), n < 64) := hid (fun n hn => (mem_lst.1 hn).1)
    have hll : (lst (lackN (plS r) (wAllN h))).length ≤ 64 := by
     unfold lst lstTo
     exact Nat.le_trans (List.length_filter_le _ _) (by simp)
    have hlk := HLK.out
    clear CL CH hpf HV
    go_wp2_with fail
    clear hlk
    refine CL1.out.mono ?_
    rintro e w7 ⟨vl, rfl, hvl, hb7⟩
    have q := q.below hb7
    clear CL1 hb7
    generalize lst (lackN (plS r) (wAllN h)) = ls at *
    obtain ⟨lo, lc, rfl⟩ := own_form hvl
    generalize wr.heap.size = N7 at *
    go_wp2_with fail
    go_loopw [7, 46] (fun rv iv wx => ∃ (j : Nat) (cs : List Nat), j ≤ ls.length ∧ iv = .int .i64 j ∧ cs.length ≤ 64 + j ∧ OfB w4.heap.size A rv cs F w4 wx ∧ wx.ownsRow N7 3 1 (.slice lo ls.length lc) ls.length (ls.map fun i : Nat => Value.int .i64 (i : Int)) ∧ Hid (cs = bs ++ (ls.take j).map F)) (fun _ iv _ => ls.length - (intOf iv).toNat)
    case atStart => exact ⟨0, bs, Nat.zero_le _, rfl, by omega, q, hvl, hid (by simp)⟩
    case round =>
     clear q hvl
     obtain ⟨j, cs, hj, rfl, hcl, q, hvl, HC⟩ := hrel
     obtain ⟨ro, rc, rfl⟩ := own_form q.own
     by_cases hjl : j < ls.length
     ·have hji : (j : Int) < (ls.length : Int) := by omega
      obtain ⟨ga, oa, hao, e0⟩ := ints_at (Ints.of_nats hvl) hjl
      cases hao
      have hn64 := HLS.out _ (List.getElem_mem hjl)
      have HR : Hid (cs ++ [F ls[j]] = bs ++ (ls.take (j + 1)).map F) := hid (by rw [HC.out, List.take_succ_eq_append_getElem hjl, List.map_append, List.append_assoc]; rfl)
      generalize ls[j] = n at *
      have hn64i : (n : Int) < 64 := by omega
      obtain ⟨t0, t1⟩ := q.tab n hn64
      generalize F n = x at *
      have hown := q.own
      clear HC t1
      go_wp2_with (at_builtin; refine wpList_append_own _ rfl _ _ 128 rfl w4.heap.size 5 i0 (.int .u8 0) 1 1 Tryz.underlying128 hi hz0 hz1 hz2 rfl (by decide) _ _ _ rfl (hown.alloc _) ⟨_, 0, none⟩ 1 1 [.int .u8 (x : Int)] rfl rfl ?c1 ?c2 ?c3 ?c4 ?c5 ?_)
      try case c1 => exact cell_one_new _ _ _
      case c2 => first | rfl | (intro u hu; simp at hu; subst hu; rfl)
      case c3 => unfold maxLen; omega
      case c4 => omega
      case c5 => have := q.gr.size; simp; omega
      intro v6 w6 hown6 hg6 _
      have hvl := (hvl.alloc (.cells #[.int .u8 (x : Int)] 5)).kept hg6 (owns_apart (hvl.alloc (.cells #[.int .u8 (x : Int)] 5)) (hown.alloc (.cells #[.int .u8 (x : Int)] 5)) (by decide))
      have q := q.app hA rfl (by omega) hown6 hg6
      clear hown hown6 hg6 e0 t0
      go_wp2_with fail
      go_roundw
      case rel => exact ⟨j + 1, cs ++ [x], by omega, by go_num, by simp; omega, q, hvl, HR⟩
      case measure => simp [intOf]; omega
     ·have hjn : j = ls.length := by omega
      have HE : Hid (keyB h C r = byteB cs) := hid (by rw [HE.out, HC.out, List.take_of_length_le (by omega)])
      clear HC hvl hjl
      have hcv := row_bytes q.own
      have KY := hid ((HKY.out _ (HKG.out _ q.gr)).set (plS r) (byteB cs))
      obtain ⟨y0, y1, y2, y3⟩ := HKY.out _ (HKG.out _ q.gr)
      have hZ := ((HG.out _ q.gr).setCell (p := ⟨w.heap.size, 0, none⟩) (Nat.le_refl _) (.int .u64 ((plS r : Nat) : Int))).setCell (p := ⟨w.heap.size, 1, none⟩) (Nat.le_refl _) (.string (byteB cs))
      have HZ := hid hZ
      clear hZ
      go_wp2_with fail
      obtain ⟨d0, d1, _, _⟩ := KY.out
      refine bodyPost_ret (v := .agg #[.int .u64 ((plS r : Nat) : Int), .string (byteB cs)]) ?_ rfl ⟨by rw [HE.out]; rfl, HZ.out⟩
      simp [results, Tryz.results170, go_sem, d0, d1]
end
end

section
open Go.RowKit
theorem inv_spend (x : Value) (w : World) : (invoke (.fn (.method "Spend") #[]) #[.iface 152 x]).run Tryz.prog w = .ok (.enter 320 #[x]) w := by kernel_rfl
theorem keyB_len (h : List TxnV) (C : Nat) (r : List Nat) (hr : r.length ≤ 64) : (keyB h C r).size ≤ maxLen := by
 have h1 : (keyB h C r).size = (keyL h C r).length := by unfold keyB byteB ByteArray.size; simp
 have h2 : (keyL h C r).length ≤ 128 := by
  unfold keyL
  rw [List.length_append, List.length_reverse]
  have h3 := wrOf_le (h := h) (r := r)
  have h4 : (lst (lackN (plS r) (wAllN h))).length ≤ 64 := by
   unfold lst lstTo
   exact Nat.le_trans (List.length_filter_le _ _) (by simp)
  split
  ·rw [List.length_map]; omega
  ·simp; omega
 rw [h1]; unfold maxLen; omega
theorem plS_lt (r : List Nat) : plS r < 18446744073709551616 := plS_set r
theorem has_pl {r : List Nat} (hlt : ∀ k ∈ r, k < 64) {j : Nat} (hj : j < 64) : hasB (plS r) (j : Int) = decide (j ∈ r) := by
 unfold hasB
 rw [Int.toNat_natCast, plS_bit j r hlt, show decide (0 ≤ (j : Int) ∧ (j : Int) < 64) = true by simp; omega]
 simp
section
variable {w0 w : World} {N S B b : Nat} {h : List TxnV} {C : Nat} {r : List Nat} {vb vr : Value} {aF sF : Nat → Nat}
theorem xof_any (p : PlX w0 N S B b h C r vb vr aF sF w) (hc : checkI h = 0) (hC : C < 9223372036854775808) :
  Calls Tryz.prog 170 #[.pointer (some ⟨B, 0, none⟩), .pointer (some ⟨S, 0, none⟩)] w fun e w' => e = .returned (kV (plS r) (keyB h C r)) ∧ Below w.heap.size w w' := by
 obtain ⟨W, _, _, q⟩ := p; exact mof_any q hc hC
theorem PlX.ord (p : PlX w0 N S B b h C r vb vr aF sF w) : OrdIs w B b h := by obtain ⟨W, _, _, q⟩ := p; exact q.ord
theorem PlX.tab (p : PlX w0 N S B b h C r vb vr aF sF w) : Tab w := by obtain ⟨W, _, _, q⟩ := p; exact q.tab
end
theorem srchTo_keys {h : List TxnV} {C n k : Nat} {r : List Nat} {M : List (Nat × ByteArray)} (j : Nat) : (srchTo (srch h C n k) h C r M j).2.1.length ≤ M.length + (srchTo (srch h C n k) h C r M j).2.2 := by
 induction j with
 | zero => exact Nat.le_refl _
 | succ j ih =>
  rw [srchTo_succ]
  generalize srchTo (srch h C n k) h C r M j = st at *
  unfold srchStep
  split
  ·exact ih
  ·split
   ·exact ih
   ·split
    ·have := srch_keys (h := h) (C := C) (n := n) k (j :: r) st.2.1
     show List.length (srch h C n k (j :: r) st.2.1).2.1 ≤ M.length + (st.2.2 + 1 + (srch h C n k (j :: r) st.2.1).2.2)
     omega
    ·show st.2.1.length ≤ M.length + (st.2.2 + 1); omega
theorem srch_found {h : List TxnV} {C n k : Nat} {r : List Nat} {M : List (Nat × ByteArray)} {j : Nat} {x : List Nat} (hq : (plS r, keyB h C r) ∉ M) (hj : j ≤ n) (h1 : (srchTo (srch h C n k) h C r M j).1 = some x) :
  srch h C n (k + 1) r M = srchTo (srch h C n k) h C r M j := by
 rw [srch_go hq, srchTo_found_le hj h1]
 unfold srchEnd; rw [h1]
theorem srch_cost_le {h : List TxnV} {C n k : Nat} {r : List Nat} {M : List (Nat × ByteArray)} {j : Nat} (hq : (plS r, keyB h C r) ∉ M) (hj : j ≤ n) : (srchTo (srch h C n k) h C r M j).2.2 ≤ (srch h C n (k + 1) r M).2.2 := by
 rw [srch_go hq, srchEnd_cost.1]; exact srchTo_cost hj
theorem srch_none {h : List TxnV} {C n k : Nat} {r : List Nat} {M : List (Nat × ByteArray)} (hq : (plS r, keyB h C r) ∉ M) (h1 : (srchTo (srch h C n k) h C r M n).1 = none) :
  srch h C n (k + 1) r M = (none, (plS r, keyB h C r) :: (srchTo (srch h C n k) h C r M n).2.1, (srchTo (srch h C n k) h C r M n).2.2) := by
 rw [srch_go hq]; unfold srchEnd; rw [h1]
def SeaRes (w0 : World) (N S B b : Nat) (h : List TxnV) (C X Mb T F : Nat) (vb : Value) (r : List Nat) (vr : Value) (U : Nat) (w : World) (res : Srch) (e : Ending) (w' : World) : Prop :=
 ∃ vr', SeaStep S Mb T vr vr' w w' ∧
  ((Lasts F U res.2.2 ∧ e = .returned (.tuple #[.bool res.1.isSome, .int .i64 0]) ∧ ∃ aF' sF', Sea w0 N S B b h C X Mb T F vb (res.1.getD r) vr' aF' sF' res.2.1 (U + res.2.2) w') ∨
   (¬ Lasts F U res.2.2 ∧ e = .returned (.tuple #[.bool false, .int .i64 4]) ∧ MtAt w' T F F))
section
variable {w0 : World} {N S B b : Nat} {h : List TxnV} {C X Mb T F : Nat} {vb : Value}
theorem sfurther_any (hO : OrdIs w0 B b h) (ht : Tab w0) (hc : checkI h = 0) (hC : C < 9223372036854775808) : ∀ (k : Nat) (r : List Nat) (vr : Value) (aF sF : Nat → Nat) (M : List (Nat × ByteArray)) (U : Nat) (w : World), Sea w0 N S B b h C X Mb T F vb r vr aF sF M U w → r.length + k = h.length →
  M.length + (srch h C h.length k r M).2.2 + 2 ≤ 1099511627776 → (F = 4611686018427387904 → U + (srch h C h.length k r M).2.2 ≤ 4611686018427387904) →
  Calls Tryz.prog 139 #[.pointer (some ⟨X, 0, none⟩)] w fun e w' => SeaRes w0 N S B b h C X Mb T F vb r vr U w (srch h C h.length k r M) e w'
 | 0, r, vr, aF, sF, M, U, w, q, hl, _, _ => by
  have CD := hid (xdone_any q.p)
  rw [decide_eq_true (by omega : r.length = h.length)] at CD
  have Q := hid q
  have c0 := q.x.c0
  have HF : Hid (∀ wx, Below w.heap.size w wx → SeaRes w0 N S B b h C X Mb T F vb r vr U w (srch h C h.length 0 r M) (.returned (.tuple #[.bool true, .int .i64 0])) wx) := hid (fun wx hx => by
   refine ⟨vr, SeaStep.of_below hx, .inl ⟨?_, rfl, aF, sF, Q.out.below hx⟩⟩
   by_cases e : F = 4611686018427387904
   ·exact .inl e
   ·exact .inr (Q.out.t.ue e))
  clear q hO ht hc hl
  go_enter Tryz.func139, Tryz.ntmps139
  go_wp2_with fail
  refine CD.out.mono ?_
  rintro e w1 ⟨rfl, hb⟩
  go_wp2_with fail
  go_ret2
  exact HF.out _ hb
 | k + 1, r, vr, aF, sF, M, U, w, q, hl, hM, hU => by
  have h64 := (check_zero hc).1
  have IH := hid (fun r vr aF sF M U w q hl hM hU => sfurther_any hO ht hc hC k r vr aF sF M U w q hl hM hU)
  have CD := hid (xdone_any q.p)
  rw [decide_eq_false (by omega : ¬ r.length = h.length)] at CD
  have hrl : r.length ≤ 64 := by omega
  have hlt64 : ∀ a ∈ r, a < 64 := fun a ha => by have := q.p.lt.1 a ha; omega
  have hkl := keyB_len h C r hrl
  have hpl := plS_lt r
  have Q := hid q
  have HX : Hid (∀ wx, Below w.heap.size w wx → SrAt wx X S B Mb T) := hid (fun wx hx => (Q.out.below hx).x)
  have CO := hid (fun wx (hx : Below w.heap.size w wx) => xof_any (q.p.below hx) hc hC)
  have CH := hid (fun wx (hx : Below w.heap.size w wx) => mhas_any (Q.out.below hx).m hpl hkl)
  have HN : Hid (∀ wx, Below w.heap.size w wx → wx.cell? ⟨B, 0, none⟩ = some (.int .i64 (h.length : Int))) := hid (fun wx hx => ((q.p.below hx).ord).blk.cN)
  have HH : Hid (OrdIs w0 B b h ∧ Tab w0 ∧ checkI h = 0 ∧ h.length ≤ 64 ∧ r.length + (k + 1) = h.length ∧ ∀ a ∈ r, a < 64) := hid ⟨hO, ht, hc, h64, hl, hlt64⟩
  have HB : Hid (M.length + (srch h C h.length (k + 1) r M).2.2 + 2 ≤ 1099511627776 ∧ (F = 4611686018427387904 → U + (srch h C h.length (k + 1) r M).2.2 ≤ 4611686018427387904)) := hid ⟨hM, hU⟩
  have c0 := q.x.c0
  clear q hO ht hc hl hM hU hkl hpl hlt64 hrl
  go_enter Tryz.func139, Tryz.ntmps139
  go_wp2_with fail
  refine CD.out.mono ?_
  rintro e w1 ⟨rfl, hb1⟩
  clear c0 CD
  obtain ⟨PK, hPK⟩ : ∃ PK, PK = plS r := ⟨_, rfl⟩
  obtain ⟨KK, hKK⟩ : ∃ KK, KK = keyB h C r := ⟨_, rfl⟩
  rw [← hPK, ← hKK] at CO CH
  have HPK := hid hPK
  have HKK := hid hKK
  clear hPK hKK
  go_upto_region 3 with fail
  have kd := hb1.drew
  go_cut [4] from 4 to 21 (fun u wx => ∃ g, u = .pointer (some ⟨g, 0, none⟩) ∧ KyAt wx g PK KK ∧ w.heap.size ≤ g ∧ Below w.heap.size w wx)
  case first =>
   refine wp_region_held_drew (S := Below w.heap.size w) (by kernel_rfl) kd (fun hS0 => ?_)
   refine tA (some 13) 0 rfl rfl hS0 ?_
   try simp only [Act.put, zA, zB, zC]
   refine tA (some 14) 1 rfl rfl hS0 ?_
   try simp only [Act.put, zA, zB, zC]
   refine tA (some 15) 2 rfl rfl hS0 ?_
   try simp only [Act.put, zA, zB, zC]
   refine tG (some 16) 3 ?vsa3x4 rfl rfl (Or.inl ⟨by rfl, ?hsa3x4⟩) hS0 ?rsa3x4
   case hsa3x4 => (intro w hz; obtain ⟨z0, z1, z2, z3⟩ := HX.out w hz; go_simp; try (with_reducible rfl))
   try simp only [Act.put, zA, zB, zC]
   refine tA (some 17) 4 rfl rfl hS0 ?_
   try simp only [Act.put, zA, zB, zC]
   refine tA (some 18) 5 rfl rfl hS0 ?_
   try simp only [Act.put, zA, zB, zC]
   refine tA (some 19) 6 rfl rfl hS0 ?_
   try simp only [Act.put, zA, zB, zC]
   refine tG (some 20) 7 ?vsa7x8 rfl rfl (Or.inl ⟨by rfl, ?hsa7x8⟩) hS0 ?rsa7x8
   case hsa7x8 => (intro w hz; obtain ⟨z0, z1, z2, z3⟩ := HX.out w hz; go_simp; try (with_reducible rfl))
   try simp only [Act.put, zA, zB, zC]
   refine wpAnyH_ready (rs := [8, 9]) (by kernel_rfl) (by simp) ?_
   refine AllReadyH.cons rfl (fun K hK => ?_) (AllReadyH.cons rfl (fun K hK => ?_) AllReadyH.nil)
   ·
    go_simp
    refine (CO.out _ hS0).mono ?_
    rintro e y9 ⟨rfl, hy9⟩
    show K _ _
    have s9 := below_then hS0 hy9
    unfold kV
    refine hK.out _ _ s9 (fun _ => ?_)
    clear hK K
    refine rD 9 rfl (fun K hK => ?_)
    go_simp
    have l10 := s9.size
    have z10 := KyAt.made y9
    have s10 := s9.alloc s9.size (.cells #[.int .u64 0, .string ⟨#[]⟩] 246)
    refine hK.out _ _ s10 (fun _ => ?_)
    clear hK K
    generalize y9.heap.size = g at *
    generalize (y9.alloc (.cells #[.int .u64 0, .string ⟨#[]⟩] 246)) = x10 at *
    refine rD 10 rfl (fun K hK => ?_)
    obtain ⟨k0, k1, k2, k3⟩ := z10
    go_simp
    have s11 := (s10.setCell (p := ⟨g, 0, none⟩) l10 (.int .u64 (PK : Int))).setCell (p := ⟨g, 1, none⟩) l10 (.string KK)
    have z11 := KyAt.set ⟨k0, k1, k2, k3⟩ PK KK
    refine hK.out _ _ s11 (fun _ => ?_)
    clear hK K
    refine wpAnyH_done (by kernel_rfl) ?_ _
    go_wp2_with fail
    go_meet
    exact ⟨g, rfl, z11, l10, s11⟩
   ·
    go_simp
    have l12 := hb1.size
    have z12 : KyAt (w1.alloc (.cells #[.int .u64 0, .string ⟨#[]⟩] 246)).drew w1.heap.size 0 ⟨#[]⟩ := (KyAt.made w1).block rfl
    have s12 := (hb1.alloc hb1.size (.cells #[.int .u64 0, .string ⟨#[]⟩] 246)).drew
    refine hK.out _ _ s12 (fun _ => ?_)
    clear hK K
    generalize w1.heap.size = g at *
    generalize (w1.alloc (.cells #[.int .u64 0, .string ⟨#[]⟩] 246)).drew = x12 at *
    refine rD 8 rfl (fun K hK => ?_)
    go_simp
    refine (CO.out _ s12).mono ?_
    rintro e y13 ⟨rfl, hy13⟩
    show K _ _
    have s13 := below_then s12 hy13
    have z13 := z12.below hy13
    unfold kV
    refine hK.out _ _ s13 (fun _ => ?_)
    clear hK K
    refine rD 10 rfl (fun K hK => ?_)
    obtain ⟨k0, k1, k2, k3⟩ := z13
    go_simp
    have s14 := (s13.setCell (p := ⟨g, 0, none⟩) l12 (.int .u64 (PK : Int))).setCell (p := ⟨g, 1, none⟩) l12 (.string KK)
    have z14 := KyAt.set ⟨k0, k1, k2, k3⟩ PK KK
    refine hK.out _ _ s14 (fun _ => ?_)
    clear hK K
    refine wpAnyH_done (by kernel_rfl) ?_ _
    go_wp2_with fail
    go_meet
    exact ⟨g, rfl, z14, l12, s14⟩
  case rest =>
   obtain ⟨g, rfl, hK0, hgl, hb⟩ := hcut
   clear hb1 kd CO
   generalize wc = w2 at *
   have Q2 := hid (Q.out.below hb)
   have HW2 := hid hb
   have CH1 := hid (fun wx (hx : Below w2.heap.size w2 wx) => CH.out wx (below_then hb hx))
   have HX2 := hid (fun wx (hx : Below w2.heap.size w2 wx) => And.intro (HX.out wx (below_then hb hx)) (hK0.below hx))
   have HN2 := hid (fun wx (hx : Below w2.heap.size w2 wx) => HN.out wx (below_then hb hx))
   have HGL := hid hgl
   clear CH HX HN hb hK0 hgl
   have kd := (Below.refl w2.heap.size w2).drew
   go_upto_region 4 with fail
   by_cases hq : (plS r, keyB h C r) ∈ M
   ·have hmf : memF M PK KK = true := by unfold memF; rw [HPK.out, HKK.out]; exact decide_eq_true hq
    rw [hmf] at CH1
    have HF : Hid (∀ wx, Below w2.heap.size w2 wx → SeaRes w0 N S B b h C X Mb T F vb r vr U w (srch h C h.length (k + 1) r M) (.returned (.tuple #[.bool false, .int .i64 0])) wx) := hid (fun wx hx => by
     rw [srch_in hq]
     refine ⟨vr, SeaStep.of_below (below_then HW2.out hx), .inl ⟨?_, rfl, aF, sF, Q2.out.below hx⟩⟩
     by_cases e : F = 4611686018427387904
     ·exact .inl e
     ·exact .inr (Q2.out.t.ue e))
    clear HB IH hmf HN2
    refine wp_region_held_drew (S := Below w2.heap.size w2) (by kernel_rfl) kd (fun hS0 => ?_)
    refine tA (some 22) 0 rfl rfl hS0 ?_
    try simp only [Act.put, zA, zB, zC]
    refine tA (some 23) 1 rfl rfl hS0 ?_
    try simp only [Act.put, zA, zB, zC]
    refine tA (some 24) 2 rfl rfl hS0 ?_
    try simp only [Act.put, zA, zB, zC]
    refine tG (some 25) 3 ?vsb3x4 rfl rfl (Or.inl ⟨by rfl, ?hsb3x4⟩) hS0 ?rsb3x4
    case hsb3x4 => (intro w hz; obtain ⟨⟨z0, z1, z2, z3⟩, ⟨y0, y1, y2, y3⟩⟩ := HX2.out w hz; go_simp; try (with_reducible rfl))
    try simp only [Act.put, zA, zB, zC]
    refine tG (some 26) 4 ?vsb4x5 rfl rfl (Or.inl ⟨by rfl, ?hsb4x5⟩) hS0 ?rsb4x5
    case hsb4x5 => (intro w hz; obtain ⟨⟨z0, z1, z2, z3⟩, ⟨y0, y1, y2, y3⟩⟩ := HX2.out w hz; go_simp; try (with_reducible rfl))
    try simp only [Act.put, zA, zB, zC]
    refine rD 5 rfl (fun K hK => ?_)
    go_simp
    refine (CH1.out _ hS0).mono ?_
    rintro e y6 ⟨rfl, hy6⟩
    show K _ _
    have s6 := below_then hS0 hy6
    refine hK.out _ _ s6 (fun _ => ?_)
    clear hK K
    generalize y6 = w3 at *
    have hb3 := s6
    refine wpAnyH_done (by kernel_rfl) ?_ _
    go_wp2_with fail
    go_ret2
    exact HF.out _ hb3
   have hmf : memF M PK KK = false := by unfold memF; rw [HPK.out, HKK.out]; exact decide_eq_false hq
   rw [hmf] at CH1
   clear hmf
   refine wp_region_held_drew (S := Below w2.heap.size w2) (by kernel_rfl) kd (fun hS0 => ?_)
   refine tA (some 22) 0 rfl rfl hS0 ?_
   try simp only [Act.put, zA, zB, zC]
   refine tA (some 23) 1 rfl rfl hS0 ?_
   try simp only [Act.put, zA, zB, zC]
   refine tA (some 24) 2 rfl rfl hS0 ?_
   try simp only [Act.put, zA, zB, zC]
   refine tG (some 25) 3 ?vsc3x4 rfl rfl (Or.inl ⟨by rfl, ?hsc3x4⟩) hS0 ?rsc3x4
   case hsc3x4 => (intro w hz; obtain ⟨⟨z0, z1, z2, z3⟩, ⟨y0, y1, y2, y3⟩⟩ := HX2.out w hz; go_simp; try (with_reducible rfl))
   try simp only [Act.put, zA, zB, zC]
   refine tG (some 26) 4 ?vsc4x5 rfl rfl (Or.inl ⟨by rfl, ?hsc4x5⟩) hS0 ?rsc4x5
   case hsc4x5 => (intro w hz; obtain ⟨⟨z0, z1, z2, z3⟩, ⟨y0, y1, y2, y3⟩⟩ := HX2.out w hz; go_simp; try (with_reducible rfl))
   try simp only [Act.put, zA, zB, zC]
   refine rD 5 rfl (fun K hK => ?_)
   go_simp
   refine (CH1.out _ hS0).mono ?_
   rintro e y6 ⟨rfl, hy6⟩
   show K _ _
   have s6 := below_then hS0 hy6
   refine hK.out _ _ s6 (fun _ => ?_)
   clear hK K
   generalize y6 = w3 at *
   have hb3 := s6
   refine wpAnyH_done (by kernel_rfl) ?_ _
   have Q3 := hid (Q2.out.below hb3)
   have HQN := hid hq
   have HST0 : Hid (SeaStep S Mb T vr vr w w3) := hid (SeaStep.of_below (below_then HW2.out hb3))
   have HKW : Hid (∀ vr2 wx, SeaStep S Mb T vr vr2 w3 wx → KyAt wx g PK KK) := hid (fun vr2 wx hs => by
    have hk := (HX2.out _ hb3).2
    have hg := HGL.out
    have hX := Q.out.x.lt; have hMb := Q.out.m.lt; have hT := Q.out.t.lt
    have hS := Q.out.p.lowS.2.1
    exact hk.block (hs.block g hk.lt (by omega) (by omega) (by omega) (fun e => by have := (Q.out.p.own.2 g e).2; omega)))
   have HNE : Hid (g ≠ Mb) := hid (by have hg := HGL.out; have hMb := Q.out.m.lt; omega)
   have HNW : Hid (∀ vr2 wx, SeaStep S Mb T vr vr2 w3 wx → wx.cell? ⟨B, 0, none⟩ = wx.cell? ⟨B, 0, none⟩) := hid (fun _ _ _ => rfl)
   have nB := HN2.out _ hb3
   obtain ⟨c0, c1, c2, c3⟩ := Q3.out.x
   have q3 := Q3.out
   clear HX2 CH1 kd hq HN2 HNW Q2 hb3
   go_wp2_with fail
   go_loopw [35] (fun iv wr => ∃ (j : Nat) (vr2 : Value) (aF2 sF2 : Nat → Nat), j ≤ h.length ∧ iv = .int .i64 j ∧ Hid ((srchTo (srch h C h.length k) h C r M j).1 = none ∧ Lasts F U (srchTo (srch h C h.length k) h C r M j).2.2) ∧ Hid (Sea w0 N S B b h C X Mb T F vb r vr2 aF2 sF2 (srchTo (srch h C h.length k) h C r M j).2.1 (U + (srchTo (srch h C h.length k) h C r M j).2.2) wr) ∧ Hid (SeaStep S Mb T vr vr2 w3 wr)) (fun iv _ => h.length - (intOf iv).toNat)
   case atStart =>
    refine ⟨0, vr, aF, sF, Nat.zero_le _, rfl, hid ⟨rfl, ?_⟩, hid q3, hid (SeaStep.of_below (Below.refl _ _))⟩
    by_cases e : F = 4611686018427387904
    ·exact .inl e
    ·exact .inr (q3.t.ue e)
   case round =>
    clear q3 c0 c1 c2 c3 nB
    obtain ⟨j, vr2, aF2, sF2, hj, rfl, HA, HQ, HT⟩ := hrel
    obtain ⟨c0, c1, c2, c3⟩ := HQ.out.x
    obtain ⟨hO, ht, hc, h64, hl, hlt64⟩ := HH.out
    by_cases hjn : j < h.length
    ·have hji : (j : Int) < (h.length : Int) := by omega
     have CPL := hid (xplaced_any HQ.out.p)
     have CHJ := hid (fun wx => has_any (plS r) (j : Int) wx (plS_set r))
     rw [has_pl hlt64 (show j < 64 by omega)] at CHJ
     have HSU := hid (srchTo_succ (h := h) (C := C) (srch h C h.length k) r M j)
     by_cases hjr : j ∈ r
     ·rw [decide_eq_true hjr] at CHJ
      have HS1 : Hid (srchTo (srch h C h.length k) h C r M (j + 1) = srchTo (srch h C h.length k) h C r M j) := hid (by rw [HSU.out]; exact step_in HA.out.1 hjr)
      clear hO ht hc hlt64 hjr HB IH
      go_wp2_with fail
      refine CPL.out.mono ?_
      rintro e wq ⟨rfl, rfl⟩
      go_wp2_with fail
      refine (CHJ.out _).mono ?_
      rintro e wq ⟨rfl, rfl⟩
      go_wp2_with fail
      go_roundw
      case rel => exact ⟨j + 1, vr2, aF2, sF2, by omega, by go_num, by rw [HS1.out]; exact HA, by rw [HS1.out]; exact HQ, HT⟩
      case measure => simp [intOf]; omega
     rw [decide_eq_false hjr] at CHJ
     have hinv := inv_spend (.pointer (some ⟨T, 0, none⟩))
     have HCO : Hid ((srchTo (srch h C h.length k) h C r M (j + 1)).2.2 ≤ (srch h C h.length (k + 1) r M).2.2) := hid (srch_cost_le HQN.out (by omega))
     have HKE : Hid ((srchTo (srch h C h.length k) h C r M j).2.1.length ≤ M.length + (srchTo (srch h C h.length k) h C r M j).2.2) := hid (srchTo_keys j)
     have HTW : Hid (SeaStep S Mb T vr vr2 w wr) := hid (HST0.out.trans HT.out)
     have hcs : (srchTo (srch h C h.length k) h C r M j).2.2 + 1 ≤ (srchTo (srch h C h.length k) h C r M (j + 1)).2.2 := by
      rw [HSU.out]
      cases htj : tryP h C r j with
      | false => rw [step_no HA.out.1 hjr htj]; exact Nat.le_refl _
      | true => rw [step_yes HA.out.1 hjr htj]; exact Nat.le_add_right _ _
     by_cases h0 : mleftN F (U + (srchTo (srch h C h.length k) h C r M j).2.2) = 0
     ·have CS := hid (fspend_no T F _ wr HQ.out.t h0)
      have HF : Hid (∀ wx, Below wr.heap.size wr wx → SeaRes w0 N S B b h C X Mb T F vb r vr U w (srch h C h.length (k + 1) r M) (.returned (.tuple #[.bool false, .int .i64 4])) wx) := hid (fun wx hx => by
       obtain ⟨e1, e2⟩ := left_zero h0
       have e3 := HQ.out.t.ue e1
       have hm := HQ.out.t.below hx HQ.out.t.lt
       rw [show U + (srchTo (srch h C h.length k) h C r M j).2.2 = F by omega] at hm
       have hco := HCO.out
       refine ⟨vr2, HTW.out.trans (SeaStep.of_below hx), .inr ⟨fun q => ?_, rfl, hm⟩⟩
       rcases q with q | q
       ·exact e1 q
       ·omega)
      clear hO ht hc hlt64 hjr HB IH hcs h0
      go_wp2_with fail
      refine CPL.out.mono ?_
      rintro e wq ⟨rfl, rfl⟩
      go_wp2_with fail
      refine (CHJ.out _).mono ?_
      rintro e wq ⟨rfl, rfl⟩
      go_wp2_with fail
      refine CS.out.mono ?_
      rintro e w5 ⟨rfl, hb5⟩
      go_wp2_with fail
      go_ret2
      exact HF.out _ hb5
     have CS := hid (fspend_own T F _ wr HQ.out.t h0 (by
      have hco := HCO.out
      by_cases e : F = 4611686018427387904
      ·have := HB.out.2 e; omega
      ·have h1 := HQ.out.t.le
       have h2 := HQ.out.t.ue e
       unfold mleftN at h0
       rw [if_neg e] at h0
       omega))
     have HL : Hid (Lasts F U ((srchTo (srch h C h.length k) h C r M j).2.2 + 1)) := hid (by
      by_cases e : F = 4611686018427387904
      ·exact .inl e
      ·have h2 := HQ.out.t.ue e
       unfold mleftN at h0
       rw [if_neg e] at h0
       exact .inr (by omega))
     clear h0
     have HJR := hid hjr
     have HCS := hid hcs
     have HSP := hid (fun w5 hg hm => HQ.out.spend (w' := w5) hO ht hg hm)
     have HCD := hid hc
     have HLT := hid hl
     clear hO ht hlt64 hjr hcs hc hl
     go_wp2_with fail
     refine CPL.out.mono ?_
     rintro e wq ⟨rfl, rfl⟩
     go_wp2_with fail
     refine (CHJ.out _).mono ?_
     rintro e wq ⟨rfl, rfl⟩
     go_wp2_with fail
     refine CS.out.mono ?_
     rintro e w5 ⟨rfl, hm5, hg5⟩
     have Q5 := hid (HSP.out w5 hg5 hm5)
     have HT5 := hid (HT.out.trans (SeaStep.of_meter hg5))
     clear hm5 hg5 CS CPL CHJ HSP c0 c1 c2 c3 hinv
     obtain ⟨c0, c1, c2, c3⟩ := Q5.out.x
     cases htj : tryP h C r j with
     | false =>
      have CT := hid (xtry_no Q5.out.p HCD.out hC (j : Int) (by unfold tryI; rw [Int.toNat_natCast, htj]; simp))
      have HS1 : Hid (srchTo (srch h C h.length k) h C r M (j + 1) = (none, (srchTo (srch h C h.length k) h C r M j).2.1, (srchTo (srch h C h.length k) h C r M j).2.2 + 1)) := hid (by rw [HSU.out]; exact step_no HA.out.1 HJR.out htj)
      clear htj
      go_wp2_with fail
      refine CT.out.mono ?_
      rintro e w6 ⟨rfl, hb6⟩
      have Q6 := hid (Q5.out.below hb6)
      have HT6 := hid (HT5.out.trans (SeaStep.of_below hb6))
      clear hb6
      go_wp2_with fail
      go_roundw
      case rel => exact ⟨j + 1, vr2, aF2, sF2, by omega, by go_num, by rw [HS1.out]; exact hid ⟨rfl, HL.out⟩, by rw [HS1.out]; exact Q6, HT6⟩
      case measure => simp [intOf]; omega
     | true =>
      have CT := hid (xtry_yes Q5.out.p HCD.out hC j htj)
      have HS1 := hid (HSU.out.trans (step_yes HA.out.1 HJR.out htj))
      clear htj
      go_wp2_with fail
      refine CT.out.mono ?_
      rintro e w6 ⟨rfl, vr3, aF3, sF3, p6, k6⟩
      have Q6 := hid (Q5.out.step p6 k6)
      have HT6 := hid (HT5.out.trans (SeaStep.of_step k6))
      have CI := hid (IH.out (j :: r) vr3 aF3 sF3 (srchTo (srch h C h.length k) h C r M j).2.1 (U + (srchTo (srch h C h.length k) h C r M j).2.2 + 1) w6 Q6.out (by have := HLT.out; simp only [List.length_cons]; omega)
       (by
        have h1 := HCO.out; have h2 := HKE.out; have h3 := HB.out.1
        rw [HS1.out] at h1
        simp only at h1
        omega)
       (fun e => by
        have h1 := HCO.out; have h3 := HB.out.2 e
        rw [HS1.out] at h1
        simp only at h1
        omega))
      clear p6 k6 c0 c1 c2 c3 CT
      obtain ⟨c0, c1, c2, c3⟩ := Q6.out.x
      go_wp2_with fail
      refine CI.out.mono ?_
      rintro e w7 ⟨vr4, hst4, hres⟩
      have HT7 := hid (HT6.out.trans hst4)
      clear hst4 CI c0 c1 c2 c3
      rcases hres with ⟨hla, rfl, aF4, sF4, q7⟩ | ⟨hla, rfl, hm7⟩
      ·have Q7 := hid q7
       have HL7 : Hid (Lasts F U ((srchTo (srch h C h.length k) h C r M j).2.2 + 1 + (srch h C h.length k (j :: r) (srchTo (srch h C h.length k) h C r M j).2.1).2.2)) := hid (hla.imp id (fun q => by omega))
       clear q7 hla
       obtain ⟨c0, c1, c2, c3⟩ := Q7.out.x
       cases hfd : (srch h C h.length k (j :: r) (srchTo (srch h C h.length k) h C r M j).2.1).1 with
       | some x =>
        have HF : Hid (SeaRes w0 N S B b h C X Mb T F vb r vr U w (srch h C h.length (k + 1) r M) (.returned (.tuple #[.bool true, .int .i64 0])) w7) := hid (by
         have e1 : (srchTo (srch h C h.length k) h C r M (j + 1)).1 = some x := by rw [HS1.out]; exact hfd
         rw [srch_found HQN.out (by omega) e1, HS1.out]
         have q7 := Q7.out
         rw [hfd] at q7
         refine ⟨vr4, HST0.out.trans HT7.out, .inl ⟨HL7.out, by rw [hfd]; rfl, aF4, sF4, ?_⟩⟩
         rw [hfd]
         rw [show U + (srchTo (srch h C h.length k) h C r M j).2.2 + 1 + (srch h C h.length k (j :: r) (srchTo (srch h C h.length k) h C r M j).2.1).2.2 = U + ((srchTo (srch h C h.length k) h C r M j).2.2 + 1 + (srch h C h.length k (j :: r) (srchTo (srch h C h.length k) h C r M j).2.1).2.2) by omega] at q7
         exact q7)
        clear hfd Q7
        go_wp2_with fail
        go_ret2
        exact HF.out
       | none =>
        have Q7 := Q7.out
        rw [hfd] at Q7
        have Q7 := hid Q7
        have CU := hid (xundo_cons Q7.out.p h64)
        have HS2 : Hid (srchTo (srch h C h.length k) h C r M (j + 1) = (none, (srch h C h.length k (j :: r) (srchTo (srch h C h.length k) h C r M j).2.1).2.1, (srchTo (srch h C h.length k) h C r M j).2.2 + 1 + (srch h C h.length k (j :: r) (srchTo (srch h C h.length k) h C r M j).2.1).2.2)) := hid (by rw [HS1.out, hfd])
        clear hfd
        go_wp2_with fail
        refine CU.out.mono ?_
        rintro e w8 ⟨rfl, vr5, p8, k8⟩
        have Q8 := Q7.out.step p8 k8
        rw [show U + (srchTo (srch h C h.length k) h C r M j).2.2 + 1 + (srch h C h.length k (j :: r) (srchTo (srch h C h.length k) h C r M j).2.1).2.2 = U + ((srchTo (srch h C h.length k) h C r M j).2.2 + 1 + (srch h C h.length k (j :: r) (srchTo (srch h C h.length k) h C r M j).2.1).2.2) by omega] at Q8
        have Q8 := hid Q8
        have HT8 := hid (HT7.out.trans (SeaStep.of_step k8))
        clear p8 k8
        go_wp2_with fail
        go_roundw
        case rel => exact ⟨j + 1, vr5, aF4, sF4, by omega, by go_num, by rw [HS2.out]; exact hid ⟨rfl, HL7.out⟩, by rw [HS2.out]; exact Q8, HT8⟩
        case measure => simp [intOf]; omega
      ·have HF : Hid (SeaRes w0 N S B b h C X Mb T F vb r vr U w (srch h C h.length (k + 1) r M) (.returned (.tuple #[.bool false, .int .i64 4])) w7) := hid (by
        refine ⟨vr4, HST0.out.trans HT7.out, .inr ⟨fun q => hla (q.imp id fun q => ?_), rfl, hm7⟩⟩
        have h1 := HCO.out
        rw [HS1.out] at h1
        simp only at h1
        omega)
       clear hla hm7
       go_wp2_with fail
       go_ret2
       exact HF.out
    ·have hjn : j = h.length := by omega
     subst hjn
     have HK9 := hid (HKW.out _ _ HT.out)
     have hS9 : SrAt wr.drew X S B Mb T ∧ KyAt wr.drew g PK KK := ⟨HQ.out.x.block rfl, HK9.out.block rfl⟩
     have hpl := plS_lt r
     rw [← HPK.out] at hpl
     have hkl := keyB_len h C r (by omega)
     rw [← HKK.out] at hkl
     have qd := HQ.out.below (w' := wr.drew) ((Below.refl wr.heap.size wr).drew)
     have HTD : Hid (SeaStep S Mb T vr vr2 w wr.drew) := hid ((HST0.out.trans HT.out).trans (SeaStep.of_below ((Below.refl wr.heap.size wr).drew)))
     have HSN := hid (srch_none HQN.out HA.out.1)
     rw [← HPK.out, ← HKK.out] at HSN
     cases hmf : memF (srchTo (srch h C h.length k) h C r M h.length).2.1 PK KK with
     | true =>
      have CA := hid (madd_no qd.m hpl hkl hmf)
      have HSB : Hid (∀ wx, Below wr.drew.heap.size wr.drew wx → SrAt wx X S B Mb T ∧ KyAt wx g PK KK) := hid (fun wx hx => ⟨hS9.1.block (hx.block X hS9.1.lt), hS9.2.below hx⟩)
      have HF : Hid (∀ wx, Below wr.drew.heap.size wr.drew wx → SeaRes w0 N S B b h C X Mb T F vb r vr U w (srch h C h.length (k + 1) r M) (.returned (.tuple #[.bool false, .int .i64 0])) wx) := hid (fun wx hx => by
       rw [HSN.out]
       have q9 := qd.below hx
       have e : memF (srchTo (srch h C h.length k) h C r M h.length).2.1 = memF ((PK, KK) :: (srchTo (srch h C h.length k) h C r M h.length).2.1) := by
        rw [← memF_cons]
        funext q u
        by_cases e : q = PK ∧ u = KK
        ·obtain ⟨rfl, rfl⟩ := e; rw [hmf]; simp
        ·rw [decide_eq_false e, Bool.false_or]
       have hm := q9.m
       rw [e] at hm
       exact ⟨vr2, HTD.out.trans (SeaStep.of_below hx), .inl ⟨HA.out.2, rfl, aF2, sF2, q9.p, q9.x, hm.mono (by simp), q9.t, q9.ap, q9.ne, q9.lo⟩⟩)
      clear HB IH hmf hpl hkl qd HTD HSN HA hO ht hc hlt64 hl
      go_upto_region 18 with fail
      refine wp_region_held_drew (S := (fun wx => SrAt wx X S B Mb T ∧ KyAt wx g PK KK)) (by kernel_rfl) hS9 (fun hS0 => ?_)
      refine tA (some 76) 0 rfl rfl hS0 ?_
      try simp only [Act.put, zA, zB, zC]
      refine tA (some 77) 1 rfl rfl hS0 ?_
      try simp only [Act.put, zA, zB, zC]
      refine tA (some 78) 2 rfl rfl hS0 ?_
      try simp only [Act.put, zA, zB, zC]
      refine tG (some 79) 3 ?vsd3x4 rfl rfl (Or.inl ⟨by rfl, ?hsd3x4⟩) hS0 ?rsd3x4
      case hsd3x4 => (intro w hz; obtain ⟨⟨z0, z1, z2, z3⟩, ⟨y0, y1, y2, y3⟩⟩ := hz; go_simp; try (with_reducible rfl))
      try simp only [Act.put, zA, zB, zC]
      refine tG (some 80) 4 ?vsd4x5 rfl rfl (Or.inl ⟨by rfl, ?hsd4x5⟩) hS0 ?rsd4x5
      case hsd4x5 => (intro w hz; obtain ⟨⟨z0, z1, z2, z3⟩, ⟨y0, y1, y2, y3⟩⟩ := hz; go_simp; try (with_reducible rfl))
      try simp only [Act.put, zA, zB, zC]
      refine rD 5 rfl (fun K hK => ?_)
      go_simp
      refine (CA.out).mono ?_
      rintro e w9 ⟨rfl, hb9⟩
      show K _ _
      refine hK.out _ _ (HSB.out _ hb9) (fun _ => ?_)
      clear hK K
      refine wpAnyH_done (by kernel_rfl) ?_ _
      go_wp2_with fail
      go_ret2
      exact HF.out _ hb9
     | false =>
      have CA := hid (madd_yes qd.m (by have h1 := HB.out.1; rw [HSN.out] at h1; have h2 := srchTo_keys (h := h) (C := C) (n := h.length) (k := k) (r := r) (M := M) h.length; simp only at h1; unfold maxLen; omega) hpl hkl hmf)
      have HSG : Hid (∀ wx, wr.drew.grownBy wx (some Mb) → SrAt wx X S B Mb T ∧ KyAt wx g PK KK) := hid (fun wx hx => ⟨hS9.1.block (hx.block X hS9.1.lt (fun e => qd.ne.1 (by injection e))), hS9.2.block (hx.block g hS9.2.lt (fun e => HNE.out (by injection e)))⟩)
      have HF : Hid (∀ wx, MemM wx Mb ((srchTo (srch h C h.length k) h C r M h.length).2.1.length + 1) (fun q u => decide (q = PK ∧ u = KK) || memF (srchTo (srch h C h.length k) h C r M h.length).2.1 q u) → wr.drew.grownBy wx (some Mb) → SeaRes w0 N S B b h C X Mb T F vb r vr U w (srch h C h.length (k + 1) r M) (.returned (.tuple #[.bool false, .int .i64 0])) wx) := hid (fun wx hm hg => by
       rw [HSN.out]
       rw [memF_cons] at hm
       exact ⟨vr2, HTD.out.trans (SeaStep.of_memo hg), .inl ⟨HA.out.2, rfl, aF2, sF2, qd.add hO ht hg hm⟩⟩)
      clear HB IH hmf hpl hkl qd HTD HSN HA hO ht hc hlt64 hl
      go_upto_region 18 with fail
      refine wp_region_held_drew (S := (fun wx => SrAt wx X S B Mb T ∧ KyAt wx g PK KK)) (by kernel_rfl) hS9 (fun hS0 => ?_)
      refine tA (some 76) 0 rfl rfl hS0 ?_
      try simp only [Act.put, zA, zB, zC]
      refine tA (some 77) 1 rfl rfl hS0 ?_
      try simp only [Act.put, zA, zB, zC]
      refine tA (some 78) 2 rfl rfl hS0 ?_
      try simp only [Act.put, zA, zB, zC]
      refine tG (some 79) 3 ?vse3x4 rfl rfl (Or.inl ⟨by rfl, ?hse3x4⟩) hS0 ?rse3x4
      case hse3x4 => (intro w hz; obtain ⟨⟨z0, z1, z2, z3⟩, ⟨y0, y1, y2, y3⟩⟩ := hz; go_simp; try (with_reducible rfl))
      try simp only [Act.put, zA, zB, zC]
      refine tG (some 80) 4 ?vse4x5 rfl rfl (Or.inl ⟨by rfl, ?hse4x5⟩) hS0 ?rse4x5
      case hse4x5 => (intro w hz; obtain ⟨⟨z0, z1, z2, z3⟩, ⟨y0, y1, y2, y3⟩⟩ := hz; go_simp; try (with_reducible rfl))
      try simp only [Act.put, zA, zB, zC]
      refine rD 5 rfl (fun K hK => ?_)
      go_simp
      refine (CA.out).mono ?_
      rintro e w9 ⟨rfl, hm9, hg9⟩
      show K _ _
      refine hK.out _ _ (HSG.out _ hg9) (fun _ => ?_)
      clear hK K
      refine wpAnyH_done (by kernel_rfl) ?_ _
      go_wp2_with fail
      go_ret2
      exact HF.out _ hm9 hg9
end
end

end Go.Proofs.YtnhkjehfmbfmmaaGreatDoor
