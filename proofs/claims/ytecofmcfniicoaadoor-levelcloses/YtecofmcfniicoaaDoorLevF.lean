/- The walks of the level laws: what they ask first; names; what follows. Conditions: the table of the levels lies where it is laid. -/
import Derived.Test.YtecofmcfniicoaaDoorLevE
namespace Go.Proofs.YtecofmcfniicoaaDoor
set_option maxRecDepth 100000
open Go.RowKit

theorem sp9_of (w : World) (hK : Kinds w) : Calls Tryd.prog 10 #[.string ⟨#[115, 116, 114, 105, 99, 116]⟩] w fun e w' => e = .returned (.tuple #[.int .i64 11, .bool true]) ∧ Below w.heap.size w w' := by
  have h := lof_any ⟨#[115, 116, 114, 105, 99, 116]⟩ w hK
  have e1 : ofN ⟨#[115, 116, 114, 105, 99, 116]⟩ = some 11 := by decide +kernel
  unfold ofV at h
  rw [e1] at h
  exact h
theorem sp9_name (w : World) (hK : Kinds w) : Calls Tryd.prog 12 #[.int .i64 2] w fun e w' => e = .returned (.string ⟨#[99, 97, 117, 115, 97, 108]⟩) ∧ w = w' := lname_any 2 w hK
theorem sp9_asks (w : World) (hK : Kinds w) : Calls Tryd.prog 13 #[.int .i64 11] w fun e w' => e = .returned (.int .i64 48) ∧ w = w' := lasks_any 11 w hK
theorem sp9_closed (w : World) : Calls Tryd.prog 16 #[.int .i64 48] w fun e w' => e = .returned (.int .i64 63) ∧ w = w' := by
  have h := lclosed_any 48 w
  rwa [show ((clI 48 : Nat) : Int) = 63 from by decide +kernel] at h
set_option maxHeartbeats 1000000 in
theorem speaks9_any (w : World) (hK : Kinds w) : Calls Tryd.prog 9 #[] w fun e w' => e = .returned (.bool true) ∧ Below w.heap.size w w' := by
  have HK := Lib.hid (fun wx (hb : Below w.heap.size w wx) => hK.below hb)
  have C := Lib.hid (sp9_of w hK)
  clear hK
  go_enter Tryd.func9, Tryd.ntmps9
  go_wp2_with fail
  refine (C.out).mono ?_
  rintro e w1 ⟨rfl, hb1⟩
  go_wp2_with (first
    | (go_at_call 13; refine (sp9_asks _ (HK.out _ hb1)).mono ?_; rintro e w' ⟨rfl, rfl⟩)
    | (go_at_call 16; refine (sp9_closed _).mono ?_; rintro e w' ⟨rfl, rfl⟩)
    | (go_at_call 12; refine (sp9_name _ (HK.out _ hb1)).mono ?_; rintro e w' ⟨rfl, rfl⟩)
    | (go_at_call 15; refine (lis_no (l := 12) rfl _).mono ?_; rintro e w' ⟨rfl, rfl⟩))
  go_ret
  exact ⟨rfl, hb1⟩
/-- What the law's loop has found in the names of the first k levels. -/
def FoundN (s : ByteArray) (k : Nat) (n : Int) (b : Bool) : Prop := (∃ j, j < k ∧ isNm s j = true ∧ n = (j : Int) ∧ b = true) ∨ ((∀ j, j < k → isNm s j = false) ∧ n = 0 ∧ b = false)
theorem FoundN.hit {s : ByteArray} {k : Nat} (h : isNm s k = true) : FoundN s (k + 1) k true := .inl ⟨k, by omega, h, rfl, rfl⟩
theorem FoundN.miss {s : ByteArray} {k : Nat} {n : Int} {b : Bool} (hf : FoundN s k n b) (h : isNm s k = false) : FoundN s (k + 1) n b := by
  rcases hf with ⟨j, hj, h1, h2⟩ | ⟨h1, h2⟩
  · exact .inl ⟨j, by omega, h1, h2⟩
  · refine .inr ⟨fun j hj => ?_, h2⟩
    by_cases e : j = k
    · rw [e]; exact h
    · exact h1 j (by omega)
theorem FoundN.all {s : ByteArray} {n : Int} {b : Bool} (hf : FoundN s 12 n b) : ((ofV s : Nat) : Int) = n ∧ (ofN s).isSome = b := by
  unfold ofV
  rcases hf with ⟨j, hj, h1, rfl, rfl⟩ | ⟨h1, rfl, rfl⟩
  · rw [ofN_some hj h1]; exact ⟨rfl, rfl⟩
  · rw [ofN_none h1]; exact ⟨rfl, rfl⟩
theorem nameN_nat {k : Nat} (hk : k < 12) : nameN (k : Int) = nameAt k := by
  unfold nameN isLv
  rw [if_pos (by simpa using by omega)]; rfl
set_option maxHeartbeats 2000000 in
theorem names9_walk (l : Int) (s : ByteArray) (w : World) (hK : Kinds w) : Calls Tryd.prog 3 #[.int .i64 l, .string s] w fun e w' => e = .returned (.bool true) ∧ Below w.heap.size w w' := by
  have HK := Lib.hid (fun wx (hb : Below w.heap.size w wx) => hK.below hb)
  have C := Lib.hid (speaks9_any w hK)
  clear hK
  go_enter Tryd.func3, Tryd.ntmps3
  go_wp2_with fail
  refine (C.out).mono ?_
  rintro e w1 ⟨rfl, hb1⟩
  have CO := Lib.hid (lof_any s w1 (HK.out _ hb1))
  clear C
  go_wp2_with fail
  refine (CO.out).mono ?_
  rintro e w2 ⟨rfl, hb⟩
  have hb2 := hb1.trans (hb.mono hb1.size)
  have HF : Hid (∀ n b, FoundN s 12 n b → ((ofV s : Nat) : Int) = n ∧ (ofN s).isSome = b) := Lib.hid (fun n b h => h.all)
  clear CO hb hb1
  generalize ((ofV s : Nat) : Int) = V at *
  generalize (ofN s).isSome = B at *
  go_wp2_with fail
  go_loopw [7, 8, 17] (fun n b i wr => ∃ (k : Nat) (N : Int) (D : Bool), k ≤ 12 ∧ i = .int .i64 k ∧ n = .int .i64 N ∧ b = .bool D ∧ FoundN s k N D ∧ Below w.heap.size w wr) (fun _ _ i _ => 12 - (intOf i).toNat)
  case atStart => exact ⟨0, 0, false, by omega, rfl, rfl, rfl, .inr ⟨fun j hj => absurd hj (by omega), rfl, rfl⟩, hb2⟩
  case round =>
    obtain ⟨k, N, D, hk, rfl, rfl, rfl, hf, hb⟩ := hrel
    have HD := Lib.hid hf
    clear hf
    by_cases hlt : k < 12
    · have hki : (k : Int) < 12 := by omega
      have CN : Hid (∀ wx, Calls Tryd.prog 11 #[.int .i64 (k : Int)] wx fun e w' => e = .returned (.string (nameAt k)) ∧ wx = w') := Lib.hid (fun wx => by rw [← nameN_nat hlt]; exact rl_name _ wx)
      cases hh : isNm s k
      · have HS := Lib.hid (HD.out.miss hh)
        unfold isNm at hh
        generalize nameAt k = nm at *
        go_wp2_with (go_at_call 11; refine (CN.out _).mono ?_; rintro e w' ⟨rfl, rfl⟩)
        go_roundw
        case rel => exact ⟨k + 1, N, D, by omega, by go_num, rfl, rfl, HS.out, hb⟩
        case measure => simp [intOf]; omega
      · have HS := Lib.hid (FoundN.hit hh)
        unfold isNm at hh
        generalize nameAt k = nm at *
        go_wp2_with (go_at_call 11; refine (CN.out _).mono ?_; rintro e w' ⟨rfl, rfl⟩)
        go_roundw
        case rel => exact ⟨k + 1, k, true, by omega, by go_num, rfl, rfl, HS.out, hb⟩
        case measure => simp [intOf]; omega
    · have hk12 : k = 12 := by omega
      subst hk12
      obtain ⟨rfl, rfl⟩ := HF.out _ _ HD.out
      have CN1 := Lib.hid (fun wx hx => lname_any l wx (HK.out wx hx))
      have CN2 := Lib.hid (fun wx => rl_name l wx)
      have CA1 := Lib.hid (fun wx hx => lasks_any l wx (HK.out wx hx))
      have CA2 := Lib.hid (fun wx => rl_asks l wx)
      have CI := fun wx => lis_any l wx
      have HL : isLv l = decide (0 ≤ l ∧ l < 12) := rfl
      rw [HL] at CI
      clear HD HF HL
      generalize nameN l = nm at *
      generalize ((askN l : Nat) : Int) = an at *
      by_cases h0 : 0 ≤ l
      · by_cases h1 : l < 12
        · rw [decide_eq_true (And.intro h0 h1)] at CI
          have CJ := Lib.hid CI
          clear CI
          go_wp2_with (first
            | (go_at_call 12; refine (CN1.out _ hb).mono ?_; rintro e w' ⟨rfl, rfl⟩)
            | (go_at_call 11; refine (CN2.out _).mono ?_; rintro e w' ⟨rfl, rfl⟩)
            | (go_at_call 13; refine (CA1.out _ hb).mono ?_; rintro e w' ⟨rfl, rfl⟩)
            | (go_at_call 14; refine (CA2.out _).mono ?_; rintro e w' ⟨rfl, rfl⟩)
            | (go_at_call 15; refine (CJ.out _).mono ?_; rintro e w' ⟨rfl, rfl⟩))
          go_ret
          exact ⟨rfl, hb⟩
        · rw [decide_eq_false (fun h => h1 h.2)] at CI
          have CJ := Lib.hid CI
          clear CI
          go_wp2_with (first
            | (go_at_call 12; refine (CN1.out _ hb).mono ?_; rintro e w' ⟨rfl, rfl⟩)
            | (go_at_call 11; refine (CN2.out _).mono ?_; rintro e w' ⟨rfl, rfl⟩)
            | (go_at_call 13; refine (CA1.out _ hb).mono ?_; rintro e w' ⟨rfl, rfl⟩)
            | (go_at_call 14; refine (CA2.out _).mono ?_; rintro e w' ⟨rfl, rfl⟩)
            | (go_at_call 15; refine (CJ.out _).mono ?_; rintro e w' ⟨rfl, rfl⟩))
          go_ret
          exact ⟨lret_b (by rw [decide_eq_false (by omega)]; rfl), hb⟩
      · rw [decide_eq_false (fun h => h0 h.1)] at CI
        have CJ := Lib.hid CI
        clear CI
        go_wp2_with (first
          | (go_at_call 12; refine (CN1.out _ hb).mono ?_; rintro e w' ⟨rfl, rfl⟩)
          | (go_at_call 11; refine (CN2.out _).mono ?_; rintro e w' ⟨rfl, rfl⟩)
          | (go_at_call 13; refine (CA1.out _ hb).mono ?_; rintro e w' ⟨rfl, rfl⟩)
          | (go_at_call 14; refine (CA2.out _).mono ?_; rintro e w' ⟨rfl, rfl⟩)
          | (go_at_call 15; refine (CJ.out _).mono ?_; rintro e w' ⟨rfl, rfl⟩))
        go_ret
        exact ⟨rfl, hb⟩
end Go.Proofs.YtecofmcfniicoaaDoor
