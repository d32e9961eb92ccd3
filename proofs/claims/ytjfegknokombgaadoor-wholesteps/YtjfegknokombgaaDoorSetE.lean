/- Walks: the lists that are made: the reference's List and Below, the set's own List; Same. Conditions: a set is a number from 0 to 2^64 - 1; First's library table lies where it is laid; a slice's cells are known. -/
import Derived.Test.YtjfegknokombgaaDoorSetD
namespace Go.Proofs.YtjfegknokombgaaDoor
set_option maxRecDepth 100000
open Go.RowKit

theorem infoInt : (Tryd.prog.info? 3).map (fun i => (i.zero, i.size, i.bytes)) = some (some (.int .i64 0), 1, 8) := by kernel_rfl
theorem below_app {B : Nat} {W wr w1 : World} {o : Obj} {e : TypeId} {n size : Nat} {v : Value} {xs : List Value} (hb : Below B W wr) (hB : B ≤ W.heap.size) (hown : wr.ownsRow B e size v n xs)
    (hg : (wr.alloc o).grownBy w1 v.ownBlock) : Below B W w1 :=
  (hb.alloc (Nat.le_trans hB hb.size) o).grown hg (by have := hb.size; simp; omega) fun k hk => (hown.lt k hk).1

theorem lst_hit (s k : Nat) (h : hasB s (k : Int) = true) : (lstTo s (k + 1)).map (fun i : Nat => Value.int .i64 (i : Int)) = (lstTo s k).map (fun i : Nat => Value.int .i64 (i : Int)) ++ [.int .i64 (k : Int)] := by
  unfold hasB at h
  simp only [Int.toNat_natCast, Bool.and_eq_true] at h
  rw [lstTo_succ, if_pos h.2]; simp
theorem lst_miss (s k : Nat) (hk : k < 64) (h : hasB s (k : Int) = false) : lstTo s (k + 1) = lstTo s k := by
  unfold hasB at h
  have h2 : 0 ≤ (k : Int) ∧ (k : Int) < 64 := by omega
  simp only [h2, Int.toNat_natCast, decide_true, Bool.true_and, and_self] at h
  rw [lstTo_succ, h]; simp
set_option maxHeartbeats 1000000 in
theorem rlist_any (s : Nat) (w : World) (hs : IsSet s) :
    Calls Tryd.prog 16 #[.int .u64 (s : Int)] w fun e w' => ∃ v, e = .returned v ∧ w'.ownsRow w.heap.size 3 1 v (lst s).length ((lst s).map fun i : Nat => Value.int .i64 (i : Int)) ∧ Below w.heap.size w w' := by
  obtain ⟨i0, hi, hz0, hz1, hz2⟩ := info_parts infoInt
  obtain ⟨B, hB⟩ : ∃ B, B = w.heap.size := ⟨_, rfl⟩
  rw [← hB]
  have HB : Hid (B = w.heap.size) := Lib.hid hB
  have hB' : B ≤ w.heap.size := by omega
  clear hB
  go_enter Tryd.func16, Tryd.ntmps16
  go_wp2_with fail
  go_loopw [3, 4] (fun v i wr => ∃ k : Nat, k ≤ 64 ∧ i = .int .i64 k ∧ wr.ownsRow B 3 1 v (lstTo s k).length ((lstTo s k).map fun i : Nat => Value.int .i64 (i : Int)) ∧ Below B w wr)
    (fun _ i _ => 64 - (intOf i).toNat)
  case atStart => exact ⟨0, by omega, rfl, World.ownsRow_lit _ _ _ hB' (by simp) (by simp), (Below.refl _ _).alloc hB' _⟩
  case round =>
    obtain ⟨k, hk, rfl, hown, hb⟩ := hrel
    have hsz := hb.size
    have hll := lstTo_len s k
    by_cases hlt : k < 64
    · have C := fun wx => rbit_any s (k : Int) wx hs
      cases hh : hasB s (k : Int)
      · rw [hh] at C
        have C' := Lib.hid C; clear C
        have HM := Lib.hid (lst_miss s k hlt hh)
        clear hh
        go_wp2_with (go_at_call 53; refine (C'.out _).mono ?_; rintro e w' ⟨rfl, rfl⟩)
        go_roundw
        case rel => exact ⟨k + 1, by omega, by go_num, by rw [HM.out]; exact hown, hb⟩
        case measure => simp [intOf]; omega
      · rw [hh] at C
        have C' := Lib.hid C; clear C
        have HM := Lib.hid (lst_hit s k hh)
        clear hh
        go_wp2_with (first
          | (go_at_call 53; refine (C'.out _).mono ?_; rintro e w' ⟨rfl, rfl⟩)
          | (at_builtin; refine wpList_append_own _ rfl _ _ 30 rfl B 3 i0 (.int .i64 0) 1 8 Tryd.underlying30 hi hz0 hz1 hz2 rfl (by decide) _ _ _ rfl (hown.alloc _) ⟨_, 0, none⟩ 1 1 [.int .i64 (k : Int)] rfl rfl ?c1 ?c2 ?c3 ?c4 ?c5 ?_))
        case c1 => exact cell_one_new _ _ _
        case c2 => intro u hu; simp at hu; subst hu; rfl
        case c3 => unfold maxLen; omega
        case c4 => omega
        case c5 => simp; omega
        · intro v' w1 hown' hgrow _
          have hb' := below_app hb hB' hown hgrow
          clear hown hb hgrow
          go_wp2
          go_roundw
          case rel =>
            refine ⟨k + 1, by omega, by go_num, ?_, hb'⟩
            rw [HM.out]
            have hle : (lstTo s (k + 1)).length = (lstTo s k).length + 1 := by have := congrArg List.length HM.out; simpa using this
            rw [hle]; exact hown'
          case measure => simp [intOf]; omega
    · have hk64 : k = 64 := by omega
      subst hk64
      go_wp2
      go_ret
      exact ⟨_, rfl, hown, hb⟩
end Go.Proofs.YtjfegknokombgaaDoor
