/- Walks of the reference's numerals and numbers. Condition: none but a text's own bound. -/
import Derived.Test.YtadihdkpoeibhaaDoorTokA
import Derived.Laws.IdiomStrings
import Derived.Laws.Concat
import Derived.IntWalk
import Derived.Lib.ItoaLen
namespace Go.Proofs.YtadihdkpoeibhaaDoor
set_option maxRecDepth 100000
open Go.RowKit

theorem ret_s {a b : ByteArray} (h : a = b) : Ending.returned (.string a) = .returned (.string b) := by rw [h]
theorem itoa_pos {n : Int} (h0 : 0 ≤ n) (h : ¬ n < 10) : Lib.itoa n = Lib.itoa (n / 10) ++ [UInt8.ofNat (48 + (n % 10).toNat)] := by
  obtain ⟨u, rfl⟩ := Int.eq_ofNat_of_zero_le h0
  have e1 : ¬ (u : Int) < 0 := by omega
  have e2 : ¬ (u : Int) / 10 < 0 := by omega
  have e3 : ((u : Int) / 10).toNat = u / 10 := by omega
  have e4 : ((u : Int) % 10).toNat = u % 10 := by omega
  unfold Lib.itoa
  rw [if_neg e1, if_neg e2, e3, e4, Int.toNat_natCast, dec_big (by omega)]
theorem itoa_digit {n : Int} (h0 : 0 ≤ n) (h : n < 10) : Lib.itoa n = [UInt8.ofNat (48 + n.toNat)] := by
  unfold Lib.itoa
  rw [if_neg (by omega), dec_small (by omega)]
theorem itoa_neg {n : Int} (h0 : n < 0) (h : n ≤ -10) : Lib.itoa n = Lib.itoa (n.tdiv 10) ++ [UInt8.ofNat (48 + (-(n.tmod 10)).toNat)] := by
  obtain ⟨u, rfl⟩ : ∃ u : Nat, n = -(u : Int) := ⟨n.natAbs, by omega⟩
  have hu : 10 ≤ u := by omega
  have e0 : (-(u : Int)).tdiv 10 = -((u / 10 : Nat) : Int) := by rw [Int.neg_tdiv]; congr 1
  have e5 : (-(u : Int)).tmod 10 = -((u % 10 : Nat) : Int) := by rw [Int.neg_tmod]; congr 1
  have e1 : -((u / 10 : Nat) : Int) < 0 := by omega
  have e2 : (-((u / 10 : Nat) : Int)).natAbs = u / 10 := by omega
  have e3 : (-(u : Int)).natAbs = u := by omega
  have e4 : (- -((u % 10 : Nat) : Int)).toNat = u % 10 := by omega
  rw [e0, e5, e4]
  unfold Lib.itoa
  rw [if_pos h0, if_pos e1, e2, e3, dec_big (by omega)]
  rfl
theorem itoa_neg_digit {n : Int} (h0 : n < 0) (h : -10 < n) : Lib.itoa n = [45, UInt8.ofNat (48 + (-n).toNat)] := by
  unfold Lib.itoa
  rw [if_pos h0, dec_small (by omega)]
  have : (-n).toNat = n.natAbs := by omega
  rw [this]
theorem one_str (w : World) (d : Int) (c : UInt8) (h : d = (c.toNat : Int)) :
    (convert 57 9 (.slice (some ⟨w.heap.size, 0, none⟩) 1 1)).run Tryd.prog (w.alloc (.cells #[.int .u8 d] 5)) = .ok (.string ⟨#[c]⟩) (w.alloc (.cells #[.int .u8 d] 5)) := by
  subst h
  refine run_convert_bytes_back (P := Tryd.prog) (w.alloc (.cells #[.int .u8 (c.toNat : Int)] 5)) 57 9 5 ⟨w.heap.size, 0, none⟩ 1 [c] Tryd.underlying57 Tryd.underlying5 Tryd.underlying9 (fun j hj => ?_)
  obtain rfl : j = 0 := by simp at hj; omega
  simp [Addr.add]
theorem dig_at {d : Nat} (h : d < 10) : (48 : Int) + (d : Int) = ((UInt8.ofNat (48 + d)).toNat : Int) := by rw [(isD_ofNat h).2]; omega
theorem str_app (t : ByteArray) (l m : List UInt8) (c : UInt8) (h : t = ⟨l.toArray⟩) (k : m = l ++ [c]) : t ++ ⟨#[c]⟩ = ⟨m.toArray⟩ := by
  subst h; subst k
  exact ByteArray.mk_append_mk _ _
theorem itoa_short {n : Int} (h0 : -9223372036854775808 ≤ n) (h1 : n ≤ 9223372036854775807) {t : ByteArray} (ht : t = ⟨(Lib.itoa n).toArray⟩) : (t.size : Int) ≤ 100 := by
  have := Lib.itoa_length_le n h0 h1
  subst ht
  have e : (⟨(Lib.itoa n).toArray⟩ : ByteArray).size = (Lib.itoa n).length := by simp [ByteArray.size]
  rw [e]; omega
theorem dig_pos (n : Int) : ∃ c : UInt8, (48 + n % 10 = (c.toNat : Int)) ∧ c = UInt8.ofNat (48 + (n % 10).toNat) :=
  ⟨_, by rw [← dig_at (by omega)]; omega, rfl⟩
theorem tm_neg {n : Int} (h : n < 0) : n.tmod 10 = -((-n) % 10) ∧ n.tdiv 10 = -((-n) / 10) := by
  obtain ⟨u, rfl⟩ : ∃ u : Nat, n = -(u : Int) := ⟨n.natAbs, by omega⟩
  rw [Int.neg_tmod, Int.neg_tdiv, Int.neg_neg]
  exact ⟨rfl, rfl⟩
theorem dig_neg {n : Int} (h0 : n < 0) : ∃ c : UInt8, (wrap64 (48 - n.tmod 10) % 256 = (c.toNat : Int)) ∧ c = UInt8.ofNat (48 + (-(n.tmod 10)).toNat) := by
  obtain ⟨e, _⟩ := tm_neg h0
  have h : -10 < n.tmod 10 ∧ n.tmod 10 ≤ 0 := by omega
  refine ⟨_, ?_, rfl⟩
  rw [← dig_at (by omega)]
  unfold wrap64
  omega
end Go.Proofs.YtadihdkpoeibhaaDoor
