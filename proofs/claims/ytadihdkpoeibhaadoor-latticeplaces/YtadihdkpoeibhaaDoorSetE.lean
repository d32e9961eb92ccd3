/- Walks: the lists that are made: the reference's List and Below, the set's own List; Same. Conditions: a set is a number from 0 to 2^64 - 1; First's library table lies where it is laid; a slice's cells are known. -/
import Derived.Test.YtadihdkpoeibhaaDoorSetD
namespace Go.Proofs.YtadihdkpoeibhaaDoor
set_option maxRecDepth 100000
open Go.RowKit

theorem infoInt : (Tryd.prog.info? 3).map (fun i => (i.zero, i.size, i.bytes)) = some (some (.int .i64 0), 1, 8) := by kernel_rfl
theorem below_app {B : Nat} {W wr w1 : World} {o : Obj} {e : TypeId} {n size : Nat} {v : Value} {xs : List Value} (hb : Below B W wr) (hB : B ≤ W.heap.size) (hown : wr.ownsRow B e size v n xs)
    (hg : (wr.alloc o).grownBy w1 v.ownBlock) : Below B W w1 :=
  (hb.alloc (Nat.le_trans hB hb.size) o).grown hg (by have := hb.size; simp; omega) fun k hk => (hown.lt k hk).1

theorem lst_hit (s k : Nat) (h : hasB s (k : Int) = true) : (lstTo s (k + 1)).map (fun i : Nat => Value.int .i64 (i : Int)) = (lstTo s k).map (fun i : Nat => Value.int .i64 (i : Int)) ++ [.int .i64 (k : Int)] := by
  unfold hasB at h
  simp only [Int.toNat_natCast, Bool.and_eq_true] at h
  rw [lstTo_succ, if_pos h.2]; simp
theorem lst_miss (s k : Nat) (hk : k < 64) (h : hasB s (k : Int) = false) : lstTo s (k + 1) = lstTo s k := by
  unfold hasB at h
  have h2 : 0 ≤ (k : Int) ∧ (k : Int) < 64 := by omega
  simp only [h2, Int.toNat_natCast, decide_true, Bool.true_and, and_self] at h
  rw [lstTo_succ, h]; simp
end Go.Proofs.YtadihdkpoeibhaaDoor
