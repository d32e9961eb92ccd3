/- The walk of the law on a meter of fuel, spent again and again. Conditions: none. -/
import Derived.Test.YtfancjmhdbaoeaaFueD
namespace Go.Proofs.Ytfancjmhdbaoeaa
set_option maxRecDepth 100000
open Go.RowKit

set_option maxHeartbeats 4000000 in
theorem meters16_walk (much y : Int) (w : World) (hm : -9223372036854775808 ≤ much ∧ much ≤ 9223372036854775807) (hy : 0 ≤ y ∧ y ≤ 255) :
    Calls Try.prog 4 #[.int .i64 much, .int .u8 y] w fun e w' => e = .returned (.bool true) ∧ Below w.heap.size w w' := by
  obtain ⟨n, rfl⟩ := Int.eq_ofNat_of_zero_le hy.1
  have hn : n < 256 := by omega
  have CS := Lib.hid (speaks16_any w)
  have C0 := Lib.hid (fun wx => fnew_any much wx)
  have HE := Lib.hid (meter_end (much := much) hn)
  have HL := Lib.hid (fun k (hk : k < 256) => meter_left (much := much) hk)
  have HU := Lib.hid (fun k (hk : k < 256) => meter_used (much := much) hk)
  have HF := Lib.hid (fuel_le much)
  have HZ : Hid (usedN (fuelN much) 0 = 0) := Lib.hid (by unfold usedN; split <;> omega)
  have HK : Hid (∀ k, usedN (fuelN much) k ≤ k) := Lib.hid (fun k => used_le)
  obtain ⟨h0, h1⟩ := hm
  generalize fuelN much = F at *
  clear hy
  go_enter Try.func4, Try.ntmps4
  go_wp2_with fail
  refine CS.out.mono ?_
  rintro e w1 ⟨rfl, hb1⟩
  go_wp2_with fail
  refine (C0.out _).mono ?_
  rintro e w2 ⟨S, rfl, hat, hS, hb2⟩
  have HB : Hid (Below w.heap.size w w2 ∧ w.heap.size ≤ S) := Lib.hid ⟨hb1.trans (hb2.mono hb1.size), Nat.le_trans hb1.size hS⟩
  have HA := Lib.hid hat
  clear hb1 hb2 hS CS C0 hat
  go_wp2_with fail
  go_loopw [15] (fun i wr => ∃ k u : Nat, k ≤ n ∧ i = .int .i64 (k : Int) ∧ Hid (u = usedN F k) ∧ Hid (MtAt wr S F u) ∧ Hid (Below w.heap.size w wr)) (fun i _ => n - (intOf i).toNat)
  case atStart => exact ⟨0, 0, by omega, rfl, Lib.hid HZ.out.symm, HA, Lib.hid HB.out.1⟩
  case round =>
    clear HA
    obtain ⟨k, u, hk, rfl, HUK, HA, HBW⟩ := hrel
    by_cases hlt : (k : Int) < (n : Int)
    · have hk256 : k < 256 := by omega
      have hl := HL.out k hk256
      have hu := HU.out k hk256
      have hle := HK.out k
      rw [← HUK.out] at hl hu hle
      have hmo : leftN F u ≠ 0 → usedN F (k + 1) = u + 1 := fun h => by rw [HUK.out] at h ⊢; exact meter_spend h HF.out
      have hmn : leftN F u = 0 → usedN F (k + 1) = u := fun h => by rw [HUK.out] at h ⊢; exact meter_none h
      have HMO := Lib.hid hmo
      have HMN := Lib.hid hmn
      clear hmo hmn
      by_cases hM : 4611686018427387904 ≤ much
      · rw [if_pos hM] at hl
        have hv : ((leftN F u : Nat) : Int) = 4611686018427387904 := by omega
        have huk : (u : Int) = (k : Int) := by omega
        have hne : leftN F u ≠ 0 := by omega
        have hmx : (0 : Int) ≤ much := by omega
        clear hl hu hle
        have CL := Lib.hid (fleft_any S F u wr HA.out)
        rw [hv] at CL
        have HMo := Lib.hid (HMO.out hne)
        have HW := Lib.hid (fun wx (hb : Below wr.heap.size wr wx) => HA.out.below hb HA.out.lt)
        go_wp2_with fail
        refine CL.out.mono ?_
        rintro e w3 ⟨rfl, hb3⟩
        have HA3 := Lib.hid (HW.out _ hb3)
        have CU := Lib.hid (fused_any S F u w3 HA3.out)
        rw [huk] at CU
        go_wp2_with fail
        refine CU.out.mono ?_
        rintro e wq ⟨rfl, rfl⟩
        go_wp2_with fail
        refine (fspend_yes S F u w3 HA3.out hne (by omega)).mono ?_
        rintro e w4 ⟨rfl, hat4, hb4⟩
        have HR : Hid (MtAt w4 S F (u + 1) ∧ Below w.heap.size w w4) := Lib.hid ⟨hat4, (HBW.out.trans (hb3.mono HBW.out.size)).trans (hb4.mono HB.out.2)⟩
        clear hat4 hb4 hb3
        go_wp2_with fail
        go_roundw
        case rel => exact ⟨k + 1, u + 1, by omega, rfl, Lib.hid HMo.out.symm, Lib.hid HR.out.1, Lib.hid HR.out.2⟩
        case measure => simp only [intOf]; omega
      rw [if_neg hM] at hl
      rcases (by omega : much < 0 ∨ 0 ≤ much) with hneg | hneg
      · have hv : ((leftN F u : Nat) : Int) = 0 := by omega
        have hz : leftN F u = 0 := by omega
        rcases (by omega : k = 0 ∨ 0 < k) with rfl | hk0
        · have huk : (u : Int) = 0 := by omega
          clear hl hu hle
          have CL := Lib.hid (fleft_any S F u wr HA.out)
          rw [hv] at CL
          have HMo := Lib.hid (HMN.out hz)
          have HW := Lib.hid (fun wx (hb : Below wr.heap.size wr wx) => HA.out.below hb HA.out.lt)
          go_wp2_with fail
          refine CL.out.mono ?_
          rintro e w3 ⟨rfl, hb3⟩
          have HA3 := Lib.hid (HW.out _ hb3)
          have CU := Lib.hid (fused_any S F u w3 HA3.out)
          rw [huk] at CU
          go_wp2_with fail
          refine CU.out.mono ?_
          rintro e wq ⟨rfl, rfl⟩
          go_wp2_with fail
          refine (fspend_no S F u w3 HA3.out hz).mono ?_
          rintro e w4 ⟨rfl, hb4⟩
          have HR : Hid (MtAt w4 S F u ∧ Below w.heap.size w w4) := Lib.hid ⟨HA3.out.below hb4 HA3.out.lt, (HBW.out.trans (hb3.mono HBW.out.size)).trans (hb4.mono (Nat.le_trans HBW.out.size hb3.size))⟩
          clear hb4 hb3
          go_wp2_with fail
          go_roundw
          case rel => exact ⟨1, u, by omega, rfl, Lib.hid HMo.out.symm, Lib.hid HR.out.1, Lib.hid HR.out.2⟩
          case measure => simp only [intOf]; omega
        have hkn : ¬ (0 : Int) ≤ -(k : Int) := by omega
        have hk0i : (0 : Int) < (k : Int) := by omega
        rcases (by omega : (u : Int) = (k : Int) ∨ (u ≠ k ∧ (u : Int) = 0)) with huk | ⟨hnk, huk⟩
        · clear hl hu hle
          have CL := Lib.hid (fleft_any S F u wr HA.out)
          rw [hv] at CL
          have HMo := Lib.hid (HMN.out hz)
          have HW := Lib.hid (fun wx (hb : Below wr.heap.size wr wx) => HA.out.below hb HA.out.lt)
          go_wp2_with fail
          refine CL.out.mono ?_
          rintro e w3 ⟨rfl, hb3⟩
          have HA3 := Lib.hid (HW.out _ hb3)
          have CU := Lib.hid (fused_any S F u w3 HA3.out)
          rw [huk] at CU
          go_wp2_with fail
          refine CU.out.mono ?_
          rintro e wq ⟨rfl, rfl⟩
          go_wp2_with fail
          refine (fspend_no S F u w3 HA3.out hz).mono ?_
          rintro e w4 ⟨rfl, hb4⟩
          have HR : Hid (MtAt w4 S F u ∧ Below w.heap.size w w4) := Lib.hid ⟨HA3.out.below hb4 HA3.out.lt, (HBW.out.trans (hb3.mono HBW.out.size)).trans (hb4.mono (Nat.le_trans HBW.out.size hb3.size))⟩
          clear hb4 hb3
          go_wp2_with fail
          go_roundw
          case rel => exact ⟨k + 1, u, by omega, rfl, Lib.hid HMo.out.symm, Lib.hid HR.out.1, Lib.hid HR.out.2⟩
          case measure => simp only [intOf]; omega
        · have hbk : ((0 : Int) == (k : Int)) = false := by rw [beq_eq_false_iff_ne]; omega
          clear hl hu hle
          have CL := Lib.hid (fleft_any S F u wr HA.out)
          rw [hv] at CL
          have HMo := Lib.hid (HMN.out hz)
          have HW := Lib.hid (fun wx (hb : Below wr.heap.size wr wx) => HA.out.below hb HA.out.lt)
          go_wp2_with fail
          refine CL.out.mono ?_
          rintro e w3 ⟨rfl, hb3⟩
          have HA3 := Lib.hid (HW.out _ hb3)
          have CU := Lib.hid (fused_any S F u w3 HA3.out)
          rw [huk] at CU
          go_wp2_with fail
          refine CU.out.mono ?_
          rintro e wq ⟨rfl, rfl⟩
          go_wp2_with fail
          refine CU.out.mono ?_
          rintro e wq ⟨rfl, rfl⟩
          go_wp2_with fail
          refine (fspend_no S F u w3 HA3.out hz).mono ?_
          rintro e w4 ⟨rfl, hb4⟩
          have HR : Hid (MtAt w4 S F u ∧ Below w.heap.size w w4) := Lib.hid ⟨HA3.out.below hb4 HA3.out.lt, (HBW.out.trans (hb3.mono HBW.out.size)).trans (hb4.mono (Nat.le_trans HBW.out.size hb3.size))⟩
          clear hb4 hb3
          go_wp2_with fail
          go_roundw
          case rel => exact ⟨k + 1, u, by omega, rfl, Lib.hid HMo.out.symm, Lib.hid HR.out.1, Lib.hid HR.out.2⟩
          case measure => simp only [intOf]; omega
      · rcases (by omega : (k : Int) < much ∨ much ≤ (k : Int)) with hkm | hkm
        · have hv : ((leftN F u : Nat) : Int) = much - (k : Int) := by omega
          have huk : (u : Int) = (k : Int) := by omega
          have hne : leftN F u ≠ 0 := by omega
          have hmx : (0 : Int) ≤ much - (k : Int) := by omega
          have hmx2 : (0 : Int) < much - (k : Int) := by omega
          clear hl hu hle
          have CL := Lib.hid (fleft_any S F u wr HA.out)
          rw [hv] at CL
          have HMo := Lib.hid (HMO.out hne)
          have HW := Lib.hid (fun wx (hb : Below wr.heap.size wr wx) => HA.out.below hb HA.out.lt)
          go_wp2_with fail
          refine CL.out.mono ?_
          rintro e w3 ⟨rfl, hb3⟩
          have HA3 := Lib.hid (HW.out _ hb3)
          have CU := Lib.hid (fused_any S F u w3 HA3.out)
          rw [huk] at CU
          go_wp2_with fail
          refine CU.out.mono ?_
          rintro e wq ⟨rfl, rfl⟩
          go_wp2_with fail
          refine (fspend_yes S F u w3 HA3.out hne (by omega)).mono ?_
          rintro e w4 ⟨rfl, hat4, hb4⟩
          have HR : Hid (MtAt w4 S F (u + 1) ∧ Below w.heap.size w w4) := Lib.hid ⟨hat4, (HBW.out.trans (hb3.mono HBW.out.size)).trans (hb4.mono HB.out.2)⟩
          clear hat4 hb4 hb3
          go_wp2_with fail
          go_roundw
          case rel => exact ⟨k + 1, u + 1, by omega, rfl, Lib.hid HMo.out.symm, Lib.hid HR.out.1, Lib.hid HR.out.2⟩
          case measure => simp only [intOf]; omega
        · have hv : ((leftN F u : Nat) : Int) = 0 := by omega
          have hz : leftN F u = 0 := by omega
          rcases (by omega : much = (k : Int) ∨ much < (k : Int)) with rfl | hkk
          · have huk : (u : Int) = (k : Int) := by omega
            clear hl hu hle
            have CL := Lib.hid (fleft_any S F u wr HA.out)
            rw [hv] at CL
            have HMo := Lib.hid (HMN.out hz)
            have HW := Lib.hid (fun wx (hb : Below wr.heap.size wr wx) => HA.out.below hb HA.out.lt)
            go_wp2_with fail
            refine CL.out.mono ?_
            rintro e w3 ⟨rfl, hb3⟩
            have HA3 := Lib.hid (HW.out _ hb3)
            have CU := Lib.hid (fused_any S F u w3 HA3.out)
            rw [huk] at CU
            go_wp2_with fail
            refine CU.out.mono ?_
            rintro e wq ⟨rfl, rfl⟩
            go_wp2_with fail
            refine (fspend_no S F u w3 HA3.out hz).mono ?_
            rintro e w4 ⟨rfl, hb4⟩
            have HR : Hid (MtAt w4 S F u ∧ Below w.heap.size w w4) := Lib.hid ⟨HA3.out.below hb4 HA3.out.lt, (HBW.out.trans (hb3.mono HBW.out.size)).trans (hb4.mono (Nat.le_trans HBW.out.size hb3.size))⟩
            clear hb4 hb3
            go_wp2_with fail
            go_roundw
            case rel => exact ⟨k + 1, u, by omega, rfl, Lib.hid HMo.out.symm, Lib.hid HR.out.1, Lib.hid HR.out.2⟩
            case measure => simp only [intOf]; omega
          have hkn : ¬ (0 : Int) ≤ much - (k : Int) := by omega
          have hkn2 : ¬ (k : Int) ≤ much := by omega
          have hkn3 : ¬ (0 : Int) < much - (k : Int) := by omega
          rcases (by omega : (u : Int) = (k : Int) ∨ (u ≠ k ∧ (u : Int) = much)) with huk | ⟨hnk, huk⟩
          · clear hl hu hle
            have CL := Lib.hid (fleft_any S F u wr HA.out)
            rw [hv] at CL
            have HMo := Lib.hid (HMN.out hz)
            have HW := Lib.hid (fun wx (hb : Below wr.heap.size wr wx) => HA.out.below hb HA.out.lt)
            go_wp2_with fail
            refine CL.out.mono ?_
            rintro e w3 ⟨rfl, hb3⟩
            have HA3 := Lib.hid (HW.out _ hb3)
            have CU := Lib.hid (fused_any S F u w3 HA3.out)
            rw [huk] at CU
            go_wp2_with fail
            refine CU.out.mono ?_
            rintro e wq ⟨rfl, rfl⟩
            go_wp2_with fail
            refine (fspend_no S F u w3 HA3.out hz).mono ?_
            rintro e w4 ⟨rfl, hb4⟩
            have HR : Hid (MtAt w4 S F u ∧ Below w.heap.size w w4) := Lib.hid ⟨HA3.out.below hb4 HA3.out.lt, (HBW.out.trans (hb3.mono HBW.out.size)).trans (hb4.mono (Nat.le_trans HBW.out.size hb3.size))⟩
            clear hb4 hb3
            go_wp2_with fail
            go_roundw
            case rel => exact ⟨k + 1, u, by omega, rfl, Lib.hid HMo.out.symm, Lib.hid HR.out.1, Lib.hid HR.out.2⟩
            case measure => simp only [intOf]; omega
          · have hbk : (much == (k : Int)) = false := by rw [beq_eq_false_iff_ne]; omega
            clear hl hu hle
            have CL := Lib.hid (fleft_any S F u wr HA.out)
            rw [hv] at CL
            have HMo := Lib.hid (HMN.out hz)
            have HW := Lib.hid (fun wx (hb : Below wr.heap.size wr wx) => HA.out.below hb HA.out.lt)
            go_wp2_with fail
            refine CL.out.mono ?_
            rintro e w3 ⟨rfl, hb3⟩
            have HA3 := Lib.hid (HW.out _ hb3)
            have CU := Lib.hid (fused_any S F u w3 HA3.out)
            rw [huk] at CU
            go_wp2_with fail
            refine CU.out.mono ?_
            rintro e wq ⟨rfl, rfl⟩
            go_wp2_with fail
            refine CU.out.mono ?_
            rintro e wq ⟨rfl, rfl⟩
            go_wp2_with fail
            refine (fspend_no S F u w3 HA3.out hz).mono ?_
            rintro e w4 ⟨rfl, hb4⟩
            have HR : Hid (MtAt w4 S F u ∧ Below w.heap.size w w4) := Lib.hid ⟨HA3.out.below hb4 HA3.out.lt, (HBW.out.trans (hb3.mono HBW.out.size)).trans (hb4.mono (Nat.le_trans HBW.out.size hb3.size))⟩
            clear hb4 hb3
            go_wp2_with fail
            go_roundw
            case rel => exact ⟨k + 1, u, by omega, rfl, Lib.hid HMo.out.symm, Lib.hid HR.out.1, Lib.hid HR.out.2⟩
            case measure => simp only [intOf]; omega
    · have HV : Hid (((u : Nat) : Int) = min (max much 0) (n : Int)) := Lib.hid (by rw [HUK.out, show k = n by omega]; exact HE.out)
      have hq := HV.out
      have CU := Lib.hid (fused_any S F u wr HA.out)
      rcases (by omega : much < 0 ∨ 0 ≤ much) with hneg | hneg
      · have e : (u : Int) = 0 := by omega
        rw [e] at CU
        go_wp2_with fail
        refine CU.out.mono ?_
        rintro e wq ⟨rfl, rfl⟩
        go_wp2_with fail
        go_ret
        exact ⟨rfl, HBW.out⟩
      · rcases (by omega : (n : Int) < much ∨ much ≤ (n : Int)) with h2 | h2
        · have e : (u : Int) = (n : Int) := by omega
          rw [e] at CU
          go_wp2_with fail
          refine CU.out.mono ?_
          rintro e wq ⟨rfl, rfl⟩
          go_wp2_with fail
          go_ret
          exact ⟨rfl, HBW.out⟩
        · have e : (u : Int) = much := by omega
          rw [e] at CU
          go_wp2_with fail
          refine CU.out.mono ?_
          rintro e wq ⟨rfl, rfl⟩
          go_wp2_with fail
          go_ret
          exact ⟨rfl, HBW.out⟩
end Go.Proofs.Ytfancjmhdbaoeaa
