/- The walk of level.Of: the level of a name. Conditions: the table of the levels lies where it is laid. -/
import Derived.Test.YtecofmcfniicoaaDoorLevC
namespace Go.Proofs.YtecofmcfniicoaaDoor
set_option maxRecDepth 100000
open Go.RowKit

theorem block_lt' {w : World} {a : Addr} {v : Value} (h : w.cell? a = some v) : a.block < w.heap.size := by
  by_cases h0 : a.block < w.heap.size
  · exact h0
  · simp [World.cell?, Array.getElem?_eq_none (Nat.le_of_not_lt h0)] at h
theorem Kinds.below {w w' : World} (h : Kinds w) (hb : Below w.heap.size w w') : Kinds w' := fun k hk => by
  obtain ⟨h1, h2⟩ := h k hk
  exact ⟨(hb.cell (block_lt' h1)).trans h1, (hb.cell (block_lt' h2)).trans h2⟩
/-- Which of the first k levels bears a name. -/
def isNm (s : ByteArray) (k : Nat) : Bool := (nameAt k).toList == s.toList
theorem name_sep : ∀ i k : Fin 12, (nameAt i.val).toList = (nameAt k.val).toList → i = k := by decide +kernel
/-- The level of a name, and whether there is one. -/
def ofN (s : ByteArray) : Option Nat := (List.range 12).find? fun k => isNm s k
theorem ofN_some {s : ByteArray} {k : Nat} (hk : k < 12) (h : isNm s k = true) : ofN s = some k := by
  unfold ofN
  rw [List.find?_range_eq_some]
  refine ⟨h, by simpa using hk, fun j hj => ?_⟩
  cases hj2 : isNm s j
  · rfl
  · exfalso
    unfold isNm at h hj2
    have e : (nameAt j).toList = (nameAt k).toList := (beq_iff_eq.1 hj2).trans (beq_iff_eq.1 h).symm
    have := name_sep ⟨j, by omega⟩ ⟨k, hk⟩ e
    simp at this
    omega
theorem ofN_none {s : ByteArray} (h : ∀ k, k < 12 → isNm s k = false) : ofN s = none := by
  unfold ofN
  rw [List.find?_eq_none]
  intro k hk
  rw [h k (by simpa using hk)]
  simp
def ofV (s : ByteArray) : Nat := (ofN s).getD 0
set_option maxHeartbeats 1000000 in
theorem lof_any (s : ByteArray) (w : World) (hK : Kinds w) : Calls Tryd.prog 10 #[.string s] w fun e w' => e = .returned (.tuple #[.int .i64 (ofV s), .bool (ofN s).isSome]) ∧ Below w.heap.size w w' := by
  have HK := Lib.hid hK
  clear hK
  go_enter Tryd.func10, Tryd.ntmps10
  go_wp2
  go_loopw [5] (fun i wr => ∃ k : Nat, k ≤ 12 ∧ i = .int .i64 k ∧ (∀ j, j < k → isNm s j = false) ∧ Below w.heap.size w wr) (fun i _ => 12 - (intOf i).toNat)
  case atStart => exact ⟨0, by omega, rfl, fun j hj => absurd hj (by omega), Below.refl _ _⟩
  case round =>
    obtain ⟨k, hk, rfl, hno, hb⟩ := hrel
    have HNO := Lib.hid hno
    clear hno
    by_cases hlt : k < 12
    · have hki : (k : Int) < 12 := by omega
      have hc := (HK.out.below hb) k hlt
      have hc1 := hc.1
      clear hc
      cases hh : isNm s k
      · have HS : Hid (∀ j, j < k + 1 → isNm s j = false) := Lib.hid (fun j hj => by
          by_cases e : j = k
          · rw [e]; exact hh
          · exact HNO.out j (by omega))
        unfold isNm at hh
        generalize nameAt k = nm at *
        go_wp2_with fail
        go_roundw
        case rel => exact ⟨k + 1, by omega, by go_num, HS.out, hb⟩
        case measure => simp [intOf]; omega
      · have H := Lib.hid (ofN_some hlt hh)
        have H1 : Hid (((ofV s : Nat) : Int) = (k : Int)) := Lib.hid (by unfold ofV; rw [H.out]; rfl)
        unfold isNm at hh
        generalize nameAt k = nm at *
        go_wp2_with fail
        go_ret2
        exact ⟨by rw [H.out, H1.out]; rfl, hb⟩
    · have hk12 : k = 12 := by omega
      subst hk12
      have H := Lib.hid (ofN_none HNO.out)
      have H1 : Hid (((ofV s : Nat) : Int) = 0) := Lib.hid (by unfold ofV; rw [H.out]; rfl)
      go_wp2_with fail
      go_ret2
      exact ⟨by rw [H.out, H1.out]; rfl, hb⟩
end Go.Proofs.YtecofmcfniicoaaDoor
