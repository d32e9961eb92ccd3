/- Walks: Below, above, Closed, Strongest of rows of levels. Conditions: the table of the levels lies where it is laid; a slice's cells are known. -/
import Derived.Test.YtadihdkpoeibhaaDoorTblA
import Derived.Test.YtadihdkpoeibhaaDoorSlc
namespace Go.Proofs.YtadihdkpoeibhaaDoor
set_option maxRecDepth 100000
open Go.RowKit

/-- The levels that one of some implies. -/
def blw (xs : List Int) : Nat → Bool := fun b => xs.any fun a => impB a (b : Int)
def blwTo (r : Nat → Bool) (a : Int) (j : Nat) : Nat → Bool := fun b => if b < j then r b || impB a (b : Int) else r b
theorem blwTo_at (r : Nat → Bool) (a : Int) (j : Nat) : blwTo r a j j = r j := if_neg (by omega)
theorem blwTo_step (r : Nat → Bool) (a : Int) (j : Nat) : rSet (blwTo r a j) j (r j || impB a (j : Int)) = blwTo r a (j + 1) := by
  funext b
  unfold rSet blwTo
  by_cases h : b = j
  · subst h; simp
  · rw [if_neg h]
    by_cases h2 : b < j
    · rw [if_pos h2, if_pos (by omega)]
    · rw [if_neg h2, if_neg (by omega)]
theorem blw_step (xs : List Int) (k : Nat) (hk : k < xs.length) : rowB (blwTo (blw (xs.take k)) xs[k] 12) = rowB (blw (xs.take (k + 1))) := by
  apply rowB_congr
  intro i hi
  unfold blwTo
  rw [if_pos hi]
  unfold blw
  rw [List.take_succ_eq_append_getElem hk, List.any_append]; simp
theorem BRow.congr {w : World} {g : Nat} {r s : Nat → Bool} (h : BRow w g r) (e : rowB r = rowB s) : BRow w g s := by unfold BRow at *; rw [h, e]
set_option maxHeartbeats 2000000 in
theorem tbelow_any (v : Value) (xs : List Int) (w : World) (hK : Kinds w) (hI : Ints w v xs) : Calls Tryd.prog 14 #[v] w fun e w' => e = .returned (.agg (rowB (blw xs))) ∧ Below w.heap.size w w' := by
  obtain ⟨ao, cap, rfl, hlen⟩ := hI.form
  have HK := Lib.hid (fun wx (hb : Below w.heap.size w wx) => hK.below hb)
  have HI := Lib.hid (fun wx (hb : Below w.heap.size w wx) => hI.below hb)
  clear hK hI
  go_enter Tryd.func14, Tryd.ntmps14
  go_wp2_with fail
  go_loopw [9] (fun i wr => ∃ k : Nat, k ≤ xs.length ∧ i = .int .i64 k ∧ BRow wr (w.heap.size + 1) (blw (xs.take k)) ∧ BRow wr w.heap.size noB ∧ Below w.heap.size w wr) (fun i _ => xs.length - (intOf i).toNat)
  case atStart =>
    refine ⟨0, by omega, rfl, ?_, ?_, ?_⟩
    · exact BRow.made _ _ (by simp) (rowB_none.symm.trans (rowB_congr fun i _ => rfl))
    · exact (BRow.made w noB rfl rowB_none.symm).alloc _
    · exact ((Below.refl w.heap.size w).alloc (Nat.le_refl _) _).alloc (by simp) _
  case round =>
    obtain ⟨k, hk, rfl, h1, h0, hb⟩ := hrel
    by_cases hlt : k < xs.length
    · have hki : (k : Int) < (xs.length : Int) := by omega
      obtain ⟨g, o, hao, hc⟩ := (HI.out _ hb).at hlt
      cases hao
      have HN := Lib.hid (blw_step xs k hlt)
      generalize xs[k] = a at *
      generalize blw (xs.take k) = r at *
      go_wp2_with fail
      go_loopw [13] (fun i wx => ∃ j : Nat, j ≤ 12 ∧ i = .int .i64 j ∧ BRow wx (w.heap.size + 1) (blwTo r a j) ∧ BRow wx w.heap.size noB ∧ Below w.heap.size w wx) (fun i _ => 12 - (intOf i).toNat)
      case atStart => exact ⟨0, by omega, rfl, h1.congr (rowB_congr fun i _ => by unfold blwTo; rw [if_neg (by omega)]), h0, hb⟩
      case round =>
        clear h1 h0 hb hc
        obtain ⟨j, hj, rfl, h1, h0, hb⟩ := hrel
        by_cases hltj : j < 12
        · have hkj : (j : Int) < 12 := by omega
          have hcj := h1.cell hltj
          have hfj := h1.free j
          rw [blwTo_at] at hcj
          have HS := Lib.hid (blwTo_step r a j)
          have HST := Lib.hid (fun v => h1.store j v)
          have H0 := Lib.hid (fun v => h0.other (k := ⟨w.heap.size + 1, j, none⟩) (by simp) v)
          have HB := Lib.hid (fun v => hb.setCell (p := ⟨w.heap.size + 1, j, none⟩) (by simp) v)
          have CI := Lib.hid (limp_any a (j : Int) wr (HK.out _ hb))
          clear h1 h0 hb
          generalize impB a (j : Int) = m at *
          cases hr : r j
          · rw [hr] at hcj HS
            clear hr
            go_wp2_with (go_at_call 22; refine (CI.out).mono ?_; rintro e w' ⟨rfl, rfl⟩)
            go_roundw
            case rel => exact ⟨j + 1, by omega, by go_num, HS.out ▸ HST.out _, H0.out _, HB.out _⟩
            case measure => simp [intOf]; omega
          · rw [hr] at hcj HS
            clear hr
            go_wp2_with fail
            go_roundw
            case rel => exact ⟨j + 1, by omega, by go_num, HS.out ▸ HST.out _, H0.out _, HB.out _⟩
            case measure => simp [intOf]; omega
        · have hjn : j = 12 := by omega
          subst hjn
          have h2 := h1.congr HN.out
          go_wp2_with fail
          go_roundw
          case rel => exact ⟨k + 1, by omega, by go_num, h2, h0, hb⟩
          case measure => simp [intOf]; omega
    · have hkn : k = xs.length := by omega
      subst hkn
      rw [List.take_length] at h1
      go_wp2_with (first
        | (with_reducible refine wpList_load_rowB h1 rfl _ rfl rfl ?_)
        | (with_reducible refine wpList_store_rowB h0 (blw xs) rfl _ _ rfl rfl rfl ?_))
      have h3 := h0.setRow (blw xs)
      exact bodyPost_ret (results_rowB rfl _ _ _ _ rfl h3) rfl ⟨rfl, below_setRow hb (by omega) _⟩
end Go.Proofs.YtadihdkpoeibhaaDoor
