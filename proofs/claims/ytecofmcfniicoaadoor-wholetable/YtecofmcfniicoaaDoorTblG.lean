/- The walks of what the table laws ask first, and of the levels of some bits. Conditions: the table of the levels lies where it is laid. -/
import Derived.Test.YtecofmcfniicoaaDoorTblE
import Derived.Test.YtecofmcfniicoaaDoorTblF
namespace Go.Proofs.YtecofmcfniicoaaDoor
set_option maxRecDepth 100000
open Go.RowKit

def upTo8 : Nat → Bool := fun i => decide (i < 8)
theorem blw_seven : ∀ i : Fin 12, blw [7] i.val = upTo8 i.val := by decide +kernel
theorem ints_one (w : World) (x : Int) (t : TypeId) : Ints (w.alloc (.cells #[.int .i64 x] t)) (.slice (some ⟨w.heap.size, 0, none⟩) 1 1) [x] := by
  refine ⟨rfl, _, 1, rfl, ⟨Nat.le_refl _, by decide⟩, fun h => (by cases h), fun _ => ⟨w.heap.size, 0, rfl, fun i hi => ?_⟩⟩
  have hi0 : i = 0 := by simp at hi; omega
  subst hi0
  rw [cell_of_row _ _ _ _ _ _ (heap_alloc_new w _)]; rfl
theorem ints_two (w : World) (x y : Int) (t : TypeId) : Ints (w.alloc (.cells #[.int .i64 x, .int .i64 y] t)) (.slice (some ⟨w.heap.size, 0, none⟩) 2 2) [x, y] := by
  refine ⟨rfl, _, 2, rfl, ⟨Nat.le_refl _, by decide⟩, fun h => (by cases h), fun _ => ⟨w.heap.size, 0, rfl, fun i hi => ?_⟩⟩
  have hi2 : i = 0 ∨ i = 1 := by simp at hi; omega
  rcases hi2 with rfl | rfl
  · rw [cell_of_row _ _ _ _ _ _ (heap_alloc_new w _)]; rfl
  · rw [cell_of_row _ _ _ _ _ _ (heap_alloc_new w _)]; rfl
set_option maxHeartbeats 2000000 in
theorem speaks10_any (w : World) (hK : Kinds w) : Calls Tryd.prog 18 #[] w fun e w' => e = .returned (.bool true) ∧ Below w.heap.size w w' := by
  have HK := Lib.hid (fun wx (hb : Below w.heap.size w wx) => hK.below hb)
  clear hK
  have E7 : Hid (rowB (blw [7]) = rowB upTo8) := Lib.hid (rowB_congr fun i hi => blw_seven ⟨i, hi⟩)
  have hb1 := (Below.refl w.heap.size w).alloc (Nat.le_refl _) (.cells #[.int .i64 7] 23)
  have CB := Lib.hid (tbelow_any _ _ _ (HK.out _ hb1) (ints_one w 7 23))
  have C1 := Lib.hid (fun wx hx => limp_any 11 7 wx (HK.out wx hx))
  have C2 := Lib.hid (fun wx hx => limp_any 7 11 wx (HK.out wx hx))
  rw [show impB 11 7 = true from by decide +kernel] at C1
  rw [show impB 7 11 = false from by decide +kernel] at C2
  go_enter Tryd.func18, Tryd.ntmps18
  go_wp2_with fail
  refine (CB.out).mono ?_
  rintro e w6 ⟨rfl, hb6⟩
  have hb7 := hb1.trans (hb6.mono hb1.size)
  clear hb1 hb6 CB
  rw [E7.out]
  clear E7
  have h0 : BRow (w6.alloc (.cells #[.bool false, .bool false, .bool false, .bool false, .bool false, .bool false, .bool false, .bool false, .bool false, .bool false, .bool false, .bool false] 36)) w6.heap.size noB := BRow.made w6 noB rfl rowB_none.symm
  have hb8 := hb7.alloc hb7.size (.cells #[.bool false, .bool false, .bool false, .bool false, .bool false, .bool false, .bool false, .bool false, .bool false, .bool false, .bool false, .bool false] 36)
  have h1 := h0.setRow upTo8
  have hb9 : Below w.heap.size w _ := below_setRow hb8 hb7.size (rowB upTo8) (g := w6.heap.size)
  have HS := Lib.hid hb7.size
  go_wp2_with (first
    | (with_reducible refine wpList_store_rowB h0 upTo8 rfl _ _ rfl rfl rfl ?_)
    | (with_reducible refine wpList_load_rowB h1 rfl _ rfl rfl ?_))
  clear h0 hb8 hb7
  generalize (w6.alloc (.cells #[.bool false, .bool false, .bool false, .bool false, .bool false, .bool false, .bool false, .bool false, .bool false, .bool false, .bool false, .bool false] 36)).setRow w6.heap.size (rowB upTo8) = w7 at *
  go_loopw [2, 8] (fun n i wr => ∃ k : Nat, k ≤ 12 ∧ i = .int .i64 k ∧ n = .int .i64 ((min k 8 : Nat) : Int) ∧ w7 = wr) (fun _ i _ => 12 - (intOf i).toNat)
  case atStart => exact ⟨0, by omega, rfl, rfl, rfl⟩
  case round =>
    obtain ⟨k, hk, rfl, rfl, rfl⟩ := hrel
    by_cases hlt : k < 12
    · have hki : (k : Int) < 12 := by omega
      have hix := fun wx => run_index_rowB upTo8 k hlt wx
      by_cases h8 : k < 8
      · rw [show upTo8 k = true from decide_eq_true h8] at hix
        have hmn : min k 8 = k := by omega
        have hmn2 : Hid (min (k + 1) 8 = k + 1) := Lib.hid (by omega)
        rw [hmn]
        clear hmn
        go_wp2_with fail
        go_roundw
        case rel => exact ⟨k + 1, by omega, by go_num, by rw [hmn2.out]; go_num, by trivial⟩
        case measure => simp [intOf]; omega
      · rw [show upTo8 k = false from decide_eq_false h8] at hix
        have hmn : min k 8 = 8 := by omega
        have hmn2 : Hid (min (k + 1) 8 = 8) := Lib.hid (by omega)
        rw [hmn]
        clear hmn
        go_wp2_with fail
        go_roundw
        case rel => exact ⟨k + 1, by omega, by go_num, by rw [hmn2.out], by trivial⟩
        case measure => simp [intOf]; omega
    · have hkn : k = 12 := by omega
      subst hkn
      have c7 := h1.cell (i := 7) (by omega)
      have c8 := h1.cell (i := 8) (by omega)
      rw [show upTo8 7 = true from rfl] at c7
      rw [show upTo8 8 = false from rfl] at c8
      go_wp2_with fail
      refine (C1.out _ hb9).mono ?_
      rintro e w' ⟨rfl, rfl⟩
      go_wp2_with fail
      refine (C2.out _ hb9).mono ?_
      rintro e w' ⟨rfl, rfl⟩
      go_wp2_with fail
      go_ret
      exact ⟨rfl, hb9⟩
end Go.Proofs.YtecofmcfniicoaaDoor
