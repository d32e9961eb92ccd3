/- Walks: Within, Closure, Acyclic of relations. Conditions: a relation's array is the one of a table of yes and no. -/
import Derived.Test.YtjfegknokombgaaDoorRelA
import Derived.Test.YtjfegknokombgaaDoorRelC
namespace Go.Proofs.YtjfegknokombgaaDoor
set_option maxRecDepth 100000
open Go.RowKit

theorem infoSet : (Tryd.prog.info? 25).map (·.size) = some 1 := by kernel_rfl
theorem run_index_rel (R : Mat) (k : Nat) (hk : k < 64) (w : World) :
    (Instr.index 27 (.agg (rowsA R)) (.int .i64 (k : Int))).run Tryd.prog w = .ok (.int .u64 ((mkS (R k) : Nat) : Int)) w := by
  have h1 := rowsA_at R hk
  obtain ⟨i, hi, hs⟩ := Option.map_eq_some_iff.1 infoSet
  simp [Instr.index, asIntOf, Sem.run_bind, run_underlying Tryd.underlying27 w, hk, sizeOf, typeInfo, hi, hs, part, isAgg, h1]

def inMTo (R S : Mat) (k : Nat) : Bool := (List.range k).all fun i => inB (mkS (R i)) (mkS (S i))
/-- Is a relation within another one? -/
def inM (R S : Mat) : Bool := inMTo R S 64
theorem inMTo_succ (R S : Mat) (k : Nat) : inMTo R S (k + 1) = (inMTo R S k && inB (mkS (R k)) (mkS (S k))) := by
  unfold inMTo
  rw [List.range_succ, List.all_append]; simp
theorem inMTo_no (R S : Mat) (k : Nat) (hk : k < 64) (h : inB (mkS (R k)) (mkS (S k)) = false) : false = inM R S := by
  symm
  unfold inM inMTo
  rw [List.all_eq_false]
  exact ⟨k, List.mem_range.2 hk, by simp [h]⟩
set_option maxHeartbeats 1000000 in
theorem withinR_any (R S : Mat) (w : World) :
    Calls Tryd.prog 40 #[.agg (rowsA R), .agg (rowsA S)] w fun e w' => e = .returned (.bool (inM R S)) ∧ Below w.heap.size w w' := by
  go_enter Tryd.func40, Tryd.ntmps40
  go_wp2
  go_loopw [6] (fun i wr => ∃ k : Nat, k ≤ 64 ∧ i = .int .i64 k ∧ inMTo R S k = true ∧ RelAt wr w.heap.size 27 R ∧ RelAt wr (w.heap.size + 1) 27 S ∧ Below w.heap.size w wr)
    (fun i _ => 64 - (intOf i).toNat)
  case atStart =>
    refine ⟨0, by omega, rfl, rfl, ?_, ?_, ?_⟩
    · exact (RelAt.made w _ R rfl rfl).alloc _
    · exact RelAt.made _ _ S (by simp) rfl
    · exact ((Below.refl w.heap.size w).alloc (Nat.le_refl _) _).alloc (by simp) _
  case round =>
    obtain ⟨k, hk, rfl, hin, h0, h1, hb⟩ := hrel
    have HI := Lib.hid hin
    clear hin
    by_cases hlt : k < 64
    · have hc0 := h0.cell hlt
      have hc1 := h1.cell hlt
      have H0 := Lib.hid h0
      have H1 := Lib.hid h1
      have HS := Lib.hid (inMTo_succ R S k)
      have HN := Lib.hid (inMTo_no R S k hlt)
      have hs0 := isSet_mkS (R k)
      have hs1 := isSet_mkS (S k)
      clear h0 h1
      generalize mkS (R k) = x at *
      generalize mkS (S k) = y at *
      have C : ∀ wx, Calls Tryd.prog 65 #[.int .u64 (x : Int), .int .u64 (y : Int)] wx fun e w' => e = .returned (.bool (inB x y)) ∧ w' = wx :=
        fun wx => (within_any x y wx hs0 hs1).mono fun _ _ h => ⟨h.1, h.2.symm⟩
      cases hh : inB x y
      all_goals
        rw [hh] at C
        have CH := Lib.hid C
        have HE := Lib.hid hh
        clear C hh
        go_wp2
        go_quiet ((go_at_call 65; exact Calls.quiet_of_same (CH.out _)))
        go_wp2
      · go_ret
        exact ⟨ret_b (HN.out HE.out), below_drewN hb _⟩
      · go_roundw
        case rel => exact ⟨k + 1, by omega, by go_num, by rw [HS.out, HI.out, HE.out]; rfl, H0.out, H1.out, below_drewN hb _⟩
        case measure => simp [intOf]; omega
    · have hk64 : k = 64 := by omega
      subst hk64
      have HI' : Hid (true = inM R S) := Lib.hid HI.out.symm
      go_wp2
      go_ret
      exact ⟨ret_b HI'.out, hb⟩

theorem hasB_mkS (p : Nat → Bool) (n : Nat) (hn : n < 64) : hasB (mkS p) (n : Int) = p n := by
  unfold hasB
  have h : 0 ≤ (n : Int) ∧ (n : Int) < 64 := by omega
  rw [Int.toNat_natCast, testBit_mkS]
  simp [h, hn]
set_option maxHeartbeats 2000000 in
theorem closure_any (R : Mat) (w : World) :
    Calls Tryd.prog 44 #[.agg (rowsA R)] w fun e w' => e = .returned (.agg (rowsA (clo R))) ∧ Below w.heap.size w w' := by
  go_enter Tryd.func44, Tryd.ntmps44
  go_wp2
  go_loopw [5] (fun i wr => ∃ m : Nat, m ≤ 64 ∧ i = .int .i64 m ∧ RelAt wr w.heap.size 27 (cloTo R m) ∧ RelAt wr (w.heap.size + 1) 27 noR ∧ Below w.heap.size w wr)
    (fun i _ => 64 - (intOf i).toNat)
  case atStart =>
    refine ⟨0, by omega, rfl, ?_, ?_, ?_⟩
    · exact (RelAt.made w _ R rfl rfl).alloc _
    · exact RelAt.made _ _ noR (by simp) (by rw [rowsA_none]; rfl)
    · exact ((Below.refl w.heap.size w).alloc (Nat.le_refl _) _).alloc (by simp) _
  case round =>
    obtain ⟨m, hm, rfl, h0, h1, hb⟩ := hrel
    by_cases hlt : m < 64
    · have HE : Hid (rowsA (wTo (cloTo R m) m 64) = rowsA (cloTo R (m + 1))) := Lib.hid (wTo_end _ _)
      have HA : Hid (rowsA (cloTo R m) = rowsA (wTo (cloTo R m) m 0)) := Lib.hid (rowsA_congr fun i j _ _ => by unfold wTo; rw [if_neg (by omega)])
      have H0 := Lib.hid h0
      clear h0
      generalize cloTo R m = A at *
      have hdm : decide ((m : Int) < 64) = true := by simp; omega
      go_wp2_with fail
      go_loopw [8] (fun i wx => ∃ k : Nat, k ≤ 64 ∧ i = .int .i64 k ∧ RelAt wx w.heap.size 27 (wTo A m k) ∧ RelAt wx (w.heap.size + 1) 27 noR ∧ Below w.heap.size w wx)
        (fun i _ => 64 - (intOf i).toNat)
      case atStart => exact ⟨0, by omega, rfl, by have := H0.out; unfold RelAt at *; rw [← HA.out]; exact this, h1, hb⟩
      case round =>
        obtain ⟨k, hk, rfl, hx0, hx1, hxb⟩ := hrel
        by_cases hlk : k < 64
        · have hc0 := hx0.cell hlk
          have hc1 := hx0.cell hlt
          rw [wTo_at] at hc0
          rw [wTo_row] at hc1
          have hf := hx0.free k
          have C := fun wx => has_any (mkS (A k)) (m : Int) wx (isSet_mkS _)
          rw [hasB_mkS _ _ hlt] at C
          cases hh : A k m
          · rw [hh] at C
            have CH := Lib.hid C
            have HM := Lib.hid (wTo_miss A m k hh)
            have HX := Lib.hid hx0
            clear C hh hx0
            generalize mkS (A k) = x at *
            generalize mkS (A m) = y at *
            go_wp2_with (go_at_call 61; refine (CH.out _).mono ?_; rintro e w' ⟨rfl, rfl⟩)
            go_roundw
            case rel => exact ⟨k + 1, by omega, by go_num, by rw [HM.out]; exact HX.out, hx1, hxb⟩
            case measure => simp [intOf]; omega
          · rw [hh] at C
            have CH := Lib.hid C
            have HM := Lib.hid (wTo_hit A m k hh)
            have HO := u64_or (A k) (A m)
            have HN := Lib.hid (hx0.store k _ (fun j => A k j || A m j) rfl)
            have H1 := Lib.hid (hx1.other (k := ⟨w.heap.size, k, none⟩) (by simp) (.int .u64 ((mkS (fun j => A k j || A m j) : Nat) : Int)))
            have HB := Lib.hid (hxb.setCell (p := ⟨w.heap.size, k, none⟩) (Nat.le_refl _) (.int .u64 ((mkS (fun j => A k j || A m j) : Nat) : Int)))
            clear C hh hx0 hx1 hxb
            generalize mkS (fun j => A k j || A m j) = z at *
            generalize mkS (A k) = x at *
            generalize mkS (A m) = y at *
            have hmi : (m : Int) < 64 := by omega
            have hki : (k : Int) < 64 := by omega
            go_wp2_with (go_at_call 61; refine (CH.out _).mono ?_; rintro e w' ⟨rfl, rfl⟩)
            go_still_tail 8, (by kernel_rfl)
            go_wp2
            go_roundw
            case rel => exact ⟨k + 1, by omega, by go_num, by rw [← HM.out]; exact HN.out, H1.out, HB.out.drew⟩
            case measure => simp [intOf]; omega
        · have hk64 : k = 64 := by omega
          subst hk64
          have HX : Hid (RelAt _ w.heap.size 27 (cloTo R (m + 1))) := Lib.hid (by unfold RelAt at *; rw [← HE.out]; exact hx0)
          clear hx0
          go_wp2
          go_roundw
          case rel => exact ⟨m + 1, by omega, by go_num, HX.out, hx1, hxb⟩
          case measure => simp [intOf]; omega
    · have hm64 : m = 64 := by omega
      subst hm64
      go_wp2_with (first
        | (with_reducible refine wpList_load_rel h0 rfl _ rfl rfl ?_)
        | (with_reducible refine wpList_store_rel h1 (cloTo R 64) rfl _ _ rfl rfl rfl ?_))
      exact bodyPost_ret (results_rel rfl _ _ _ _ rfl (h1.setRow (cloTo R 64))) rfl ⟨rfl, below_setRow hb (by omega) _⟩
end Go.Proofs.YtjfegknokombgaaDoor
