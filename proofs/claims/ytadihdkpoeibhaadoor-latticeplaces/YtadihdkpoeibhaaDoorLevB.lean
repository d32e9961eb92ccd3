/- Walks of the level package: Is, Asks, Name, Closed. Conditions: the table of the levels lies where it is laid. -/
import Derived.Test.YtadihdkpoeibhaaDoorProg
import Derived.Test.YtadihdkpoeibhaaDoorLevA
namespace Go.Proofs.YtadihdkpoeibhaaDoor
set_option maxRecDepth 100000
open Go.RowKit

/-- The table of the levels lies in memory. -/
def Kinds (w : World) : Prop := ∀ k, k < 12 → w.cell? ⟨0, k * 2, none⟩ = some (.string (nameAt k)) ∧ w.cell? ⟨0, k * 2 + 1, none⟩ = some (.int .i64 (askAt k))

theorem lret_b {a b : Bool} (h : a = b) : Ending.returned (.bool a) = .returned (.bool b) := by rw [h]
theorem lret_i {k : IntKind} {a b : Int} (h : a = b) : Ending.returned (.int k a) = .returned (.int k b) := by rw [h]
theorem lis_any (l : Int) (w : World) : Calls Tryd.prog 27 #[.int .i64 l] w fun e w' => e = .returned (.bool (isLv l)) ∧ w = w' := by
  have H : Hid ((decide (0 ≤ l) && decide (l < 12)) = isLv l) := Lib.hid (by unfold isLv; simp)
  by_cases h0 : 0 ≤ l
  · have H1 : Hid (decide (l < 12) = isLv l) := Lib.hid (by rw [← H.out]; simp [h0])
    go_enter Tryd.func27, Tryd.ntmps27
    go_wp2
    go_ret
    exact ⟨lret_b H1.out, rfl⟩
  · have H1 : Hid (false = isLv l) := Lib.hid (by rw [← H.out]; simp [h0])
    go_enter Tryd.func27, Tryd.ntmps27
    go_wp2
    go_ret
    exact ⟨lret_b H1.out, rfl⟩
theorem lis_yes {l : Int} (h : isLv l = true) (w : World) : Calls Tryd.prog 27 #[.int .i64 l] w fun e w' => e = .returned (.bool true) ∧ w = w' := by
  have := lis_any l w; rwa [h] at this
theorem lis_no {l : Int} (h : isLv l = false) (w : World) : Calls Tryd.prog 27 #[.int .i64 l] w fun e w' => e = .returned (.bool false) ∧ w = w' := by
  have := lis_any l w; rwa [h] at this
theorem lasks_any (l : Int) (w : World) (hK : Kinds w) : Calls Tryd.prog 32 #[.int .i64 l] w fun e w' => e = .returned (.int .i64 (askN l)) ∧ w = w' := by
  cases h : isLv l
  · have C := Lib.hid (fun wx => lis_no h wx)
    have H : Hid (((askN l : Nat) : Int) = 0) := Lib.hid (by unfold askN; rw [h]; rfl)
    clear h hK
    rw [H.out]
    go_enter Tryd.func32, Tryd.ntmps32
    go_wp2_with (go_at_call 27; refine (C.out _).mono ?_; rintro e w' ⟨rfl, rfl⟩)
    go_ret
    exact ⟨rfl, rfl⟩
  · have C := Lib.hid (fun wx => lis_yes h wx)
    have hl : 0 ≤ l ∧ l < 12 := by simpa [isLv] using h
    obtain ⟨k, rfl⟩ := Int.eq_ofNat_of_zero_le hl.1
    have hk : k < 12 := by omega
    have hki : (k : Int) < 12 := by omega
    have H : Hid (askN (k : Int) = askAt k) := Lib.hid (by unfold askN; rw [h]; rfl)
    have hc := (hK k hk).2
    clear h hK hl
    rw [H.out]
    generalize askAt k = a at *
    go_enter Tryd.func32, Tryd.ntmps32
    go_wp2_with (go_at_call 27; refine (C.out _).mono ?_; rintro e w' ⟨rfl, rfl⟩)
    go_ret
    exact ⟨rfl, rfl⟩
theorem lname_any (l : Int) (w : World) (hK : Kinds w) : Calls Tryd.prog 25 #[.int .i64 l] w fun e w' => e = .returned (.string (nameN l)) ∧ w = w' := by
  cases h : isLv l
  · have C := Lib.hid (fun wx => lis_no h wx)
    have H : Hid (nameN l = ⟨#[]⟩) := Lib.hid (by unfold nameN; rw [h]; rfl)
    clear h hK
    rw [H.out]
    go_enter Tryd.func25, Tryd.ntmps25
    go_wp2_with (go_at_call 27; refine (C.out _).mono ?_; rintro e w' ⟨rfl, rfl⟩)
    go_ret
    exact ⟨rfl, rfl⟩
  · have C := Lib.hid (fun wx => lis_yes h wx)
    have hl : 0 ≤ l ∧ l < 12 := by simpa [isLv] using h
    obtain ⟨k, rfl⟩ := Int.eq_ofNat_of_zero_le hl.1
    have hk : k < 12 := by omega
    have hki : (k : Int) < 12 := by omega
    have H : Hid (nameN (k : Int) = nameAt k) := Lib.hid (by unfold nameN; rw [h]; rfl)
    have hc := (hK k hk).1
    clear h hK hl
    rw [H.out]
    generalize nameAt k = a at *
    go_enter Tryd.func25, Tryd.ntmps25
    go_wp2_with (go_at_call 27; refine (C.out _).mono ?_; rintro e w' ⟨rfl, rfl⟩)
    go_ret
    exact ⟨rfl, rfl⟩
theorem cl_bits : ∀ k : Fin 64, (k.val &&& 16 = if k.val.testBit 4 then 16 else 0) ∧ (k.val &&& 4 = if k.val.testBit 2 then 4 else 0) ∧ (k.val &&& 32 = if k.val.testBit 5 then 32 else 0) ∧ (k.val ||| 12 < 64) ∧ (k.val ||| 2 < 64) ∧ (k.val ||| 1 < 64) := by decide +kernel
theorem cl_i64 (k : Nat) (hk : k < 64) : bits .and .i64 (k : Int) 16 = (if k.testBit 4 then 16 else 0) ∧ bits .and .i64 (k : Int) 4 = (if k.testBit 2 then 4 else 0) ∧ bits .and .i64 (k : Int) 32 = (if k.testBit 5 then 32 else 0) ∧
    bits .or .i64 (k : Int) 12 = ((k ||| 12 : Nat) : Int) ∧ bits .or .i64 (k : Int) 2 = ((k ||| 2 : Nat) : Int) ∧ bits .or .i64 (k : Int) 1 = ((k ||| 1 : Nat) : Int) ∧ (k ||| 12 < 64) ∧ (k ||| 2 < 64) := by
  obtain ⟨h1, h2, h3, h4, h5, h6⟩ := cl_bits ⟨k, hk⟩
  simp only at h1 h2 h3 h4 h5 h6
  refine ⟨?_, ?_, ?_, ?_, ?_, ?_, h4, h5⟩
  · rw [show (16 : Int) = ((16 : Nat) : Int) from rfl, i64_and_nat k 16 (by omega) (by omega), h1]; split <;> rfl
  · rw [show (4 : Int) = ((4 : Nat) : Int) from rfl, i64_and_nat k 4 (by omega) (by omega), h2]; split <;> rfl
  · rw [show (32 : Int) = ((32 : Nat) : Int) from rfl, i64_and_nat k 32 (by omega) (by omega), h3]; split <;> rfl
  · exact i64_or_nat k 12 (by omega) (by omega)
  · exact i64_or_nat k 2 (by omega) (by omega)
  · exact i64_or_nat k 1 (by omega) (by omega)
theorem cl_parts (x : Int) : ∃ k a b : Nat, bits .and .i64 x 63 = (k : Int) ∧
    ((bits .and .i64 (k : Int) 16 = 16 ∧ bits .or .i64 (k : Int) 12 = (a : Int)) ∨ (bits .and .i64 (k : Int) 16 = 0 ∧ a = k)) ∧
    ((bits .and .i64 (a : Int) 4 = 4 ∧ bits .or .i64 (a : Int) 2 = (b : Int)) ∨ (bits .and .i64 (a : Int) 4 = 0 ∧ b = a)) ∧
    ((bits .and .i64 (b : Int) 32 = 32 ∧ bits .or .i64 (b : Int) 1 = ((clI x : Nat) : Int)) ∨ (bits .and .i64 (b : Int) 32 = 0 ∧ clI x = b)) := by
  obtain ⟨k, hkx, hk⟩ : ∃ k : Nat, x % 64 = (k : Int) ∧ k < 64 := ⟨(x % 64).toNat, by omega, by omega⟩
  obtain ⟨k1, _, _, k4, _, _, ha, _⟩ := cl_i64 k hk
  obtain ⟨a, hA⟩ : ∃ a : Nat, a = if k.testBit 4 then k ||| 12 else k := ⟨_, rfl⟩
  have hal : a < 64 := by rw [hA]; split <;> omega
  obtain ⟨_, a2, _, _, a5, _, _, hb⟩ := cl_i64 a hal
  obtain ⟨b, hB⟩ : ∃ b : Nat, b = if a.testBit 2 then a ||| 2 else a := ⟨_, rfl⟩
  have hbl : b < 64 := by rw [hB]; split <;> omega
  obtain ⟨_, _, b3, _, _, b6, _, _⟩ := cl_i64 b hbl
  have hC : clI x = if b.testBit 5 then b ||| 1 else b := by unfold clI; rw [hkx, Int.toNat_natCast]; unfold clN; simp only; rw [← hA, ← hB]
  refine ⟨k, a, b, by rw [and63, hkx], ?_, ?_, ?_⟩
  · cases t : k.testBit 4
    · exact .inr ⟨by rw [k1, t]; rfl, by rw [hA, t]; rfl⟩
    · exact .inl ⟨by rw [k1, t]; rfl, by rw [k4, hA, t]; rfl⟩
  · cases t : a.testBit 2
    · exact .inr ⟨by rw [a2, t]; rfl, by rw [hB, t]; rfl⟩
    · exact .inl ⟨by rw [a2, t]; rfl, by rw [a5, hB, t]; rfl⟩
  · cases t : b.testBit 5
    · exact .inr ⟨by rw [b3, t]; rfl, by rw [hC, t]; rfl⟩
    · exact .inl ⟨by rw [b3, t]; rfl, by rw [b6, hC, t]; rfl⟩
theorem lclosed_any (x : Int) (w : World) : Calls Tryd.prog 33 #[.int .i64 x] w fun e w' => e = .returned (.int .i64 (clI x)) ∧ w = w' := by
  obtain ⟨k, a, b, e0, h1, h2, h3⟩ := cl_parts x
  generalize clI x = c at *
  rcases h1 with ⟨e1, e2⟩ | ⟨e1, rfl⟩ <;> rcases h2 with ⟨e3, e4⟩ | ⟨e3, rfl⟩ <;> rcases h3 with ⟨e5, e6⟩ | ⟨e5, rfl⟩
  all_goals
    go_enter Tryd.func33, Tryd.ntmps33
    go_wp2
    go_ret
    exact ⟨rfl, rfl⟩
end Go.Proofs.YtadihdkpoeibhaaDoor
