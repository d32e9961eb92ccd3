/- Walks: Chain. Conditions: a slice's cells are known. -/
import Derived.Test.YtjfegknokombgaaDoorRelS
namespace Go.Proofs.YtjfegknokombgaaDoor
set_option maxRecDepth 100000
open Go.RowKit

/-- What a row holds. -/
def behB (L : List Int) (j : Nat) : Bool := L.any fun a => a == (j : Int)
/-- A row as a relation: each stands to all behind it. -/
def chainR : List Int → Mat
  | [] => noR
  | a :: L => fun x y => chainR L x y || (a == (x : Int) && behB L y)
theorem chain_row (a : Nat) (L : List Int) : rowsA (rowSet (chainR L) a fun j => chainR L a j || behB L j) = rowsA (chainR ((a : Int) :: L)) :=
  rowsA_congr fun i j _ _ => by
    unfold rowSet
    simp only [chainR]
    by_cases h : i = a
    · subst h; simp
    · rw [if_neg h]
      have : ((a : Int) == (i : Int)) = false := by rw [beq_eq_false_iff_ne]; omega
      rw [this]; simp
theorem chain_skip (a : Int) (L : List Int) (h : ¬ (0 ≤ a ∧ a < 64)) : rowsA (chainR L) = rowsA (chainR (a :: L)) :=
  rowsA_congr fun i j hi _ => by
    simp only [chainR]
    have : (a == (i : Int)) = false := by rw [beq_eq_false_iff_ne]; omega
    rw [this]; simp
theorem beh_row (a : Nat) (L : List Int) : mkS (fun j => behB L j || decide (j = a)) = mkS (behB ((a : Int) :: L)) :=
  mkS_congr fun j _ => by
    unfold behB
    rw [List.any_cons, Bool.or_comm]
    congr 1
    rw [Bool.eq_iff_iff, decide_eq_true_iff, beq_iff_eq]; omega
theorem beh_skip (a : Int) (L : List Int) (h : ¬ (0 ≤ a ∧ a < 64)) : mkS (behB L) = mkS (behB (a :: L)) :=
  mkS_congr fun j hj => by
    unfold behB
    rw [List.any_cons]
    have : (a == (j : Int)) = false := by rw [beq_eq_false_iff_ne]; omega
    rw [this]; rfl
theorem RelAt.as {w : World} {g : Nat} {t : TypeId} {R S : Mat} (h : RelAt w g t R) (e : rowsA R = rowsA S) : RelAt w g t S := by
  unfold RelAt at *; rw [← e]; exact h
set_option maxHeartbeats 2000000 in
theorem chain_any (va : Value) (l : List Int) (w : World) (ha : Ints w va l) :
    Calls Tryd.prog 41 #[va] w fun e w' => e = .returned (.agg (rowsA (chainR l))) ∧ Below w.heap.size w w' := by
  obtain ⟨ao, cap, rfl, hlen⟩ := ha.form
  have HA : Hid (∀ wx, Below w.heap.size w wx → Ints wx (.slice ao l.length cap) l) := Lib.hid (fun wx hb => ha.below hb)
  clear ha
  go_enter Tryd.func41, Tryd.ntmps41
  go_wp2
  go_loopw [4, 5] (fun v i wr => ∃ k : Nat, k ≤ l.length ∧ i = .int .i64 ((k : Int) - 1) ∧ v = .int .u64 ((mkS (behB (l.drop k)) : Nat) : Int) ∧ RelAt wr (w.heap.size + 1) 27 (chainR (l.drop k)) ∧ RelAt wr w.heap.size 27 noR ∧ Below w.heap.size w wr)
    (fun _ i _ => (intOf i + 1).toNat)
  case atStart =>
    refine ⟨l.length, by omega, rfl, ?_, ?_, ?_, ?_⟩
    · rw [List.drop_length]
      have : mkS (behB []) = 0 := mkS_false
      rw [this]; rfl
    · rw [List.drop_length]
      exact RelAt.made _ _ noR (by simp) (by rw [rowsA_none]; rfl)
    · exact (RelAt.made w _ noR rfl (by rw [rowsA_none]; rfl)).alloc _
    · exact ((Below.refl w.heap.size w).alloc (Nat.le_refl _) _).alloc (by simp) _
  case round =>
    obtain ⟨k, hk, hi, rfl, h1, h0, hb⟩ := hrel
    cases k with
    | zero =>
      obtain rfl : u5 = .int .i64 (-1) := hi
      rw [List.drop_zero] at h1
      go_wp2_with (first
        | (with_reducible refine wpList_load_rel h1 rfl _ rfl rfl ?_)
        | (with_reducible refine wpList_store_rel h0 (chainR l) rfl _ _ rfl rfl rfl ?_))
      have h3 := h0.setRow (chainR l)
      exact bodyPost_ret (results_rel rfl _ _ _ _ rfl h3) rfl ⟨rfl, below_setRow hb (Nat.le_refl _) _⟩
    | succ k =>
      have hi' : (((k + 1 : Nat) : Int) - 1) = (k : Int) := by omega
      rw [hi'] at hi
      subst hi
      have hki : (k : Int) < (l.length : Int) := by omega
      have hlt : k < l.length := by omega
      have hd : l.drop k = l[k] :: l.drop (k + 1) := List.drop_eq_getElem_cons hlt
      have HD := Lib.hid hd
      clear hd
      have HC := Lib.hid (fun (wx : World) (hbx : Below w.heap.size w wx) => (HA.out wx hbx).at hlt)
      obtain ⟨p, off, hao, hc⟩ := HC.out _ hb
      cases hao
      generalize l[k] = a at *
      generalize l.drop (k + 1) = L at *
      by_cases ha : 0 ≤ a ∧ a < 64
      · obtain ⟨n, rfl⟩ := Int.eq_ofNat_of_zero_le ha.1
        have hn : n < 64 := by omega
        have hc1 := h1.cell hn
        have hf := h1.free n
        have HO := u64_or (chainR L n) (behB L)
        have CM := Lib.hid (fun wx => may_yes (n : Int) wx ha)
        have HROW := Lib.hid (chain_row n L)
        have CW := Lib.hid (fun wx => with_any (mkS (behB L)) (n : Int) wx (isSet_mkS _))
        have HBEH := Lib.hid ((withS_mkS (behB L) n hn).trans (beh_row n L))
        have HN := Lib.hid (h1.store n _ (fun j => chainR L n j || behB L j) rfl)
        have H0 := Lib.hid (h0.other (k := ⟨w.heap.size + 1, n, none⟩) (by simp) (.int .u64 ((mkS (fun j => chainR L n j || behB L j) : Nat) : Int)))
        have HB := Lib.hid (hb.setCell (p := ⟨w.heap.size + 1, n, none⟩) (by simp) (.int .u64 ((mkS (fun j => chainR L n j || behB L j) : Nat) : Int)))
        clear h1 h0 ha
        generalize mkS (fun j => chainR L n j || behB L j) = z at *
        generalize mkS (chainR L n) = x at *
        generalize mkS (behB L) = y at *
        have hn64 : (n : Int) < 64 := by omega
        go_wp2_with fail
        refine (CM.out _).mono ?_
        rintro e w' ⟨rfl, rfl⟩
        obtain ⟨_, _, hao2, hc2⟩ := HC.out _ HB.out
        cases hao2
        go_wp2_with fail
        refine (CW.out _).mono ?_
        rintro e w' ⟨rfl, rfl⟩
        go_wp2_with fail
        go_roundw
        case rel => exact ⟨k, by omega, by go_num, by rw [HD.out, ← HBEH.out], by rw [HD.out]; exact (RelAt.as HN.out HROW.out), H0.out, HB.out⟩
        case measure => (simp [intOf]) <;> omega
      · have CM := Lib.hid (fun wx => may_no a wx ha)
        have HROW := Lib.hid (chain_skip a L ha)
        have HBEH := Lib.hid (beh_skip a L ha)
        have H1 := Lib.hid h1
        have H0 := Lib.hid h0
        clear h1 h0 ha
        generalize mkS (behB L) = y at *
        go_wp2_with fail
        refine (CM.out _).mono ?_
        rintro e w' ⟨rfl, rfl⟩
        go_wp2_with fail
        go_roundw
        case rel => exact ⟨k, by omega, by go_num, by rw [HD.out, ← HBEH.out], by rw [HD.out]; exact (RelAt.as H1.out HROW.out), H0.out, hb⟩
        case measure => (simp [intOf]) <;> omega
end Go.Proofs.YtjfegknokombgaaDoor
