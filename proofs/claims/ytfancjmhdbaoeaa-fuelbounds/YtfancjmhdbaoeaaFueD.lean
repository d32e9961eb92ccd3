/- The walks of the laws on how much work there may be: bounds, meters, tries. Conditions: none. -/
import Derived.Test.YtfancjmhdbaoeaaFueC
namespace Go.Proofs.Ytfancjmhdbaoeaa
set_option maxRecDepth 100000
open Go.RowKit

set_option maxHeartbeats 2000000 in
theorem speaks16_any (w : World) :
    Calls Try.prog 6 #[] w fun e w' => e = .returned (.bool true) ∧ Below w.heap.size w w' := by
  have C0 := Lib.hid (fnew_any 1 w)
  have C1 := Lib.hid (fun wx => flevel_any 3 wx)
  have C2 := Lib.hid (fun wx => fall_any 3 wx)
  have C3 := Lib.hid (fun wx => flevel_any 64 wx)
  rw [show levZ 3 = 18 from lev_3] at C1
  rw [show timesN (levZ 3) 12 = 216 from all_3] at C2
  rw [show levZ 64 = 4611686018427387904 from lev_64] at C3
  go_enter Try.func6, Try.ntmps6
  go_wp2_with fail
  refine C0.out.mono ?_
  rintro e w1 ⟨S, rfl, hm, hS, hb⟩
  have HM : Hid (MtAt w1 S 1 0) := Lib.hid hm
  have HS := Lib.hid hS
  clear C0 hm hS
  go_wp2_with fail
  refine (C1.out _).mono ?_
  rintro e wq ⟨rfl, rfl⟩
  go_wp2_with fail
  refine (C2.out _).mono ?_
  rintro e wq ⟨rfl, rfl⟩
  go_wp2_with fail
  refine (fspend_yes S 1 0 _ HM.out (by decide) (by decide)).mono ?_
  rintro e w2 ⟨rfl, hm2, hb2⟩
  have HM2 := Lib.hid hm2
  clear hm2 C1 C2
  go_wp2_with fail
  refine (fspend_no S 1 1 _ HM2.out (by decide)).mono ?_
  rintro e w3 ⟨rfl, hb3⟩
  have HM3 := Lib.hid (HM2.out.below hb3 HM2.out.lt)
  go_wp2_with fail
  refine (fused_any S 1 1 _ HM3.out).mono ?_
  rintro e wq ⟨rfl, rfl⟩
  go_wp2_with fail
  refine (fleft_any S 1 1 _ HM3.out).mono ?_
  rintro e w4 ⟨rfl, hb4⟩
  rw [show leftN 1 1 = 0 from rfl]
  have HB : Hid (Below w.heap.size w w4) := Lib.hid (by
    have h1 : Below w.heap.size w w2 := hb.trans (hb2.mono HS.out)
    have h2 := h1.trans (hb3.mono h1.size)
    exact h2.trans (hb4.mono h2.size))
  clear hb hb2 hb3 hb4
  go_wp2_with fail
  refine (C3.out _).mono ?_
  rintro e wq ⟨rfl, rfl⟩
  go_wp2_with fail
  go_ret
  exact ⟨rfl, HB.out⟩
set_option maxHeartbeats 2000000 in
theorem tries16_walk (n : Int) (w : World) (hn : 0 ≤ n ∧ n ≤ 255) :
    Calls Try.prog 5 #[.int .u8 n] w fun e w' => e = .returned (.bool true) ∧ Below w.heap.size w w' := by
  obtain ⟨k, hk⟩ : ∃ k : Nat, n.tmod 9 = (k : Int) := ⟨(n.tmod 9).toNat, by rw [Int.tmod_eq_emod_of_nonneg hn.1]; omega⟩
  have hk8 : k ≤ 8 := by rw [Int.tmod_eq_emod_of_nonneg hn.1] at hk; omega
  have hle := tries_lev k hk8
  have hli : ((triesN k : Nat) : Int) ≤ ((levZ (k : Int) : Nat) : Int) := by show ((triesN k : Nat) : Int) ≤ ((levN k : Nat) : Int); omega
  have CS := Lib.hid (speaks16_any w)
  have C1 := Lib.hid (fun wx => tries_any k wx hk8)
  have C2 := Lib.hid (fun wx => flevel_any (k : Int) wx)
  obtain ⟨h0, h1⟩ := hn
  generalize levZ (k : Int) = x at *
  generalize triesN k = y at *
  clear hle
  go_enter Try.func5, Try.ntmps5
  go_wp2_with fail
  refine CS.out.mono ?_
  rintro e w1 ⟨rfl, hb⟩
  go_wp2_with fail
  refine (C1.out _).mono ?_
  rintro e wq ⟨rfl, rfl⟩
  go_wp2_with fail
  refine (C2.out _).mono ?_
  rintro e wq ⟨rfl, rfl⟩
  go_wp2_with fail
  go_ret
  exact ⟨rfl, hb⟩
set_option maxHeartbeats 2000000 in
theorem bounds16_walk (n : Int) (w : World) (hn : -9223372036854775808 ≤ n ∧ n ≤ 9223372036854775807) :
    Calls Try.prog 3 #[.int .i64 n] w fun e w' => e = .returned (.bool true) ∧ Below w.heap.size w w' := by
  have CS := Lib.hid (speaks16_any w)
  have C1 := Lib.hid (fun wx => rlevel_any n wx)
  have C2 := Lib.hid (fun wx => flevel_any n wx)
  have C3 := Lib.hid (fun wx => fall_any n wx)
  have C4 := Lib.hid (fun wx => rprod_any (levZ n) 12 wx (lev_le _) (by decide))
  have C5 := Lib.hid (fun wx => flevel_any (n + 1) wx)
  have HL := Lib.hid (fun h : 0 ≤ n => levZ_mono h)
  obtain ⟨h0, h1⟩ := hn
  generalize levZ n = x at *
  generalize levZ (n + 1) = y at *
  generalize timesN x 12 = z at *
  by_cases hbig : 2000 < n
  · go_enter Try.func3, Try.ntmps3
    go_wp2_with fail
    refine CS.out.mono ?_
    rintro e w1 ⟨rfl, hb⟩
    go_wp2_with fail
    go_ret
    exact ⟨rfl, hb⟩
  by_cases hneg : n < 0
  all_goals
    have hxy : ¬ n < 0 → (x : Int) ≤ (y : Int) := fun h => by have := HL.out (by omega); omega
    go_enter Try.func3, Try.ntmps3
    go_wp2_with fail
    refine CS.out.mono ?_
    rintro e w1 ⟨rfl, hb⟩
    go_wp2_with fail
    refine (C1.out _).mono ?_
    rintro e wq ⟨rfl, rfl⟩
    go_wp2_with fail
    refine (C2.out _).mono ?_
    rintro e wq ⟨rfl, rfl⟩
    go_wp2_with fail
    refine (C3.out _).mono ?_
    rintro e wq ⟨rfl, rfl⟩
    go_wp2_with fail
    refine (C4.out _).mono ?_
    rintro e wq ⟨rfl, rfl⟩
    go_wp2_with fail
  · go_ret
    exact ⟨rfl, hb⟩
  · refine (C2.out _).mono ?_
    rintro e wq ⟨rfl, rfl⟩
    go_wp2_with fail
    refine (C5.out _).mono ?_
    rintro e wq ⟨rfl, rfl⟩
    have hq := hxy (by omega)
    go_wp2_with fail
    go_ret
    exact ⟨rfl, hb⟩
end Go.Proofs.Ytfancjmhdbaoeaa
