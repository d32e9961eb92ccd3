/- The walk of the law on what follows of what is asked. Conditions: the table of the levels lies where it is laid. -/
import Derived.Test.YtecofmcfniicoaaDoorLevD
import Derived.Test.YtecofmcfniicoaaDoorLevF
namespace Go.Proofs.YtecofmcfniicoaaDoor
set_option maxRecDepth 100000
open Go.RowKit

/-- Facts of what is asked, more, and what follows, on their lowest six bits. -/
theorem and_low (x : Int) (c : Nat) (hc : c < 64) : bits .and .i64 (c : Int) x = ((c &&& (x % 64).toNat : Nat) : Int) := by
  obtain ⟨k, hkx⟩ : ∃ k : Nat, x % 64 = (k : Int) := ⟨(x % 64).toNat, by omega⟩
  have hk : k < 64 := by omega
  rw [hkx, Int.toNat_natCast]
  have h1 : (BitVec.ofInt 64 (c : Int)).toNat = c := by
    rw [BitVec.ofInt_natCast, BitVec.toNat_ofNat]; exact Nat.mod_eq_of_lt (by omega)
  show IntKind.i64.wrap ((BitVec.ofInt 64 (c : Int) &&& BitVec.ofInt 64 x).toNat : Int) = _
  rw [BitVec.toNat_and, h1]
  have h2 : c &&& (BitVec.ofInt 64 x).toNat = c &&& k := by
    have e : k = (BitVec.ofInt 64 x).toNat % 64 := by rw [BitVec.toNat_ofInt]; omega
    rw [e, ← Nat.and_two_pow_sub_one_eq_mod _ 6, ← Nat.and_assoc, Nat.and_comm c, Nat.and_assoc]
    have e2 : c &&& (2 ^ 6 - 1) = c := by rw [Nat.and_two_pow_sub_one_eq_mod]; exact Nat.mod_eq_of_lt (by omega)
    rw [e2]
  have hle : c &&& k ≤ c := Nat.and_le_left
  rw [h2, IntKind.wrap_i64]
  omega
theorem or_low (x y : Int) : (bits .or .i64 x y) % 64 = (((x % 64).toNat ||| (y % 64).toNat : Nat) : Int) := by
  have e : ∀ z : Int, ((z % 64).toNat : Nat) = (BitVec.ofInt 64 z).toNat % 2 ^ 6 := by intro z; rw [BitVec.toNat_ofInt]; omega
  rw [e x, e y]
  show (IntKind.i64.wrap ((BitVec.ofInt 64 x ||| BitVec.ofInt 64 y).toNat : Int)) % 64 = _
  rw [BitVec.toNat_or, IntKind.wrap_i64]
  have h : ((BitVec.ofInt 64 x).toNat ||| (BitVec.ofInt 64 y).toNat) % 2 ^ 6 = ((BitVec.ofInt 64 x).toNat % 2 ^ 6 ||| (BitVec.ofInt 64 y).toNat % 2 ^ 6) := Nat.or_mod_two_pow
  rw [← h]
  generalize ((BitVec.ofInt 64 x).toNat ||| (BitVec.ofInt 64 y).toNat) = z
  omega
theorem cl_again : ∀ k : Fin 64, clN (clN k.val) = clN k.val ∧ clN k.val &&& k.val = k.val := by decide +kernel
theorem cl_more : ∀ k : Fin 64, ∀ m : Fin 64, clN (k.val ||| m.val) &&& clN k.val = clN k.val := by decide +kernel
theorem cl_facts (x y : Int) : clI (clI x : Int) = clI x ∧ bits .and .i64 (clI x : Int) x = bits .and .i64 x 63 ∧ bits .and .i64 (clI (bits .or .i64 x y) : Int) (clI x : Int) = (clI x : Int) := by
  have hx := clI_lt x
  refine ⟨?_, ?_, ?_⟩
  · have e : ((clI x : Nat) : Int) % 64 = (clI x : Int) := by omega
    show clN (((clI x : Nat) : Int) % 64).toNat = _
    rw [e, Int.toNat_natCast]
    exact (cl_again ⟨(x % 64).toNat, by omega⟩).1
  · rw [and_low x _ hx, and63]
    have h := (cl_again ⟨(x % 64).toNat, by omega⟩).2
    simp only at h
    unfold clI
    rw [h]
    omega
  · have hy := clI_lt (bits .or .i64 x y)
    rw [i64_and_nat _ _ (by omega) (by omega)]
    congr 1
    unfold clI
    rw [or_low, Int.toNat_natCast]
    exact cl_more ⟨(x % 64).toNat, by omega⟩ ⟨(y % 64).toNat, by omega⟩
set_option maxHeartbeats 2000000 in
theorem closes9_walk (x y : Int) (w : World) (hK : Kinds w) : Calls Tryd.prog 4 #[.int .i64 x, .int .i64 y] w fun e w' => e = .returned (.bool true) ∧ Below w.heap.size w w' := by
  have C := Lib.hid (speaks9_any w hK)
  clear hK
  obtain ⟨f1, f2, f3⟩ := cl_facts x y
  have CL := Lib.hid (fun z wx => lclosed_any z wx)
  have CX := Lib.hid (fun wx => lclosed_any x wx)
  have CY := Lib.hid (fun wx => lclosed_any (bits .or .i64 x y) wx)
  have CA : Hid (∀ wx, Calls Tryd.prog 16 #[.int .i64 (clI x)] wx fun e w' => e = .returned (.int .i64 (clI x)) ∧ wx = w') := Lib.hid (fun wx => by have h := lclosed_any (clI x : Int) wx; rwa [f1] at h)
  have CR : Hid (∀ wx, Calls Tryd.prog 17 #[.int .i64 (bits .and .i64 x 63)] wx fun e w' => e = .returned (.int .i64 (clI x)) ∧ wx = w') := Lib.hid (fun wx => by
    rw [and63]
    have h := rl_closed (x % 64).toNat (by omega) wx
    rwa [show (((x % 64).toNat : Nat) : Int) = x % 64 from by omega] at h)
  clear f1 CL
  generalize ((clI (bits .or .i64 x y) : Nat) : Int) = b at *
  generalize ((clI x : Nat) : Int) = a at *
  go_enter Tryd.func4, Tryd.ntmps4
  go_wp2_with fail
  refine (C.out).mono ?_
  rintro e w1 ⟨rfl, hb1⟩
  go_wp2_with fail
  refine (CX.out _).mono ?_
  rintro e w' ⟨rfl, rfl⟩
  go_wp2_with fail
  refine (CY.out _).mono ?_
  rintro e w' ⟨rfl, rfl⟩
  go_wp2_with (first
    | (go_at_call 17; refine (CR.out _).mono ?_; rintro e w' ⟨rfl, rfl⟩)
    | (go_at_call 16; refine (CA.out _).mono ?_; rintro e w' ⟨rfl, rfl⟩))
  go_ret
  exact ⟨rfl, hb1⟩
end Go.Proofs.YtecofmcfniicoaaDoor
