/- What the library's variables hold; strings.Split at one byte; the walk of Lines. Conditions: the library's table of tens lies as it is laid, and MaxLen holds a number; a text is shorter than 2^32 - 15. -/
import Derived.Test.YtjfegknokombgaaDoorTokD
import Derived.Test.YtjfegknokombgaaDoorBld
import Derived.Deep.QuietTactic
import Derived.BigQuiet
import Derived.WalkSmall
import Derived.Lib.LaidTab
namespace Go.Proofs.YtjfegknokombgaaDoor
set_option maxRecDepth 100000
open Go.RowKit

theorem gTen : Tryd.prog.globalNamed "internal/strconv.uint64pow10" = some 2 := by kernel_rfl
/-- The library's variables are as a start leaves them. -/
def Env (w : World) : Prop := Lib.TabIs Tryd.prog w "internal/strconv.uint64pow10" .u64 Lib.pow10Tab ∧ ∃ m, w.cell? ⟨0, 0, none⟩ = some (.int .i64 m)
theorem Env.pos {w : World} (h : Env w) : 2 < w.heap.size := by
  have := h.1.cell gTen 0 (by decide)
  exact block_lt this
theorem Env.below {w w' : World} (h : Env w) (hb : Below w.heap.size w w') : Env w' := by
  refine ⟨?_, ?_⟩
  · exact var?_below hb gTen h.pos h.1
  · obtain ⟨m, hm⟩ := h.2
    exact ⟨m, by rw [hb.cell (p := ⟨0, 0, none⟩) (block_lt hm)]; exact hm⟩
theorem count_byte (s : ByteArray) (c : UInt8) (w : World) :
    Calls Tryd.prog 57 #[.string s, .string ⟨#[c]⟩] w fun e w' => e = .returned (.int .i64 (((cutB c s).length : Int) - 1)) ∧ w = w' :=
  (Tryd.strings_Count_one s c w).mono fun e w' ⟨he, hw⟩ => ⟨by
    rw [he, cutB_length]
    show Ending.returned (Value.int .i64 ((s.data.toList.count c : Nat) : Int)) = _
    congr 2; omega, hw.symm⟩
theorem split_byte (s : ByteArray) (c : UInt8) (w : World) (he : Env w) (hs : s.size ≤ 100000) :
    Calls Tryd.prog 58 #[.string s, .string ⟨#[c]⟩] w fun e w' => e = .returned (.slice (some ⟨w.heap.size, 0, none⟩) (cutB c s).length (cutB c s).length) ∧ w' = w.alloc (.cells ((cutB c s).map Value.string).toArray 9) := by
  obtain ⟨_, m, hm⟩ := he
  refine (Tryd.strings_Split s ⟨#[c]⟩ m w (by omega) hm (Nat.le_refl 1)).mono fun e w' ⟨he, hw⟩ => ?_
  rw [countB_cut, ← cutB_length] at he
  rw [splitB_cut] at hw
  exact ⟨he, hw⟩
theorem cut_len_le (c : UInt8) (s : ByteArray) : (cutB c s).length ≤ s.size + 1 ∧ 1 ≤ (cutB c s).length := by
  rw [cutB_length]
  have : s.data.toList.count c ≤ s.data.toList.length := List.count_le_length
  have := Lib.size_eq s
  omega
theorem strs_lit (w : World) (xs : List ByteArray) (hm : xs.length ≤ maxLen) :
    Strs (w.alloc (.cells (xs.map Value.string).toArray 9)) (.slice (some ⟨w.heap.size, 0, none⟩) xs.length xs.length) xs := by
  have h := World.ownsRow_lit (base := 0) (e := 9) (size := 1) w (xs.map Value.string).toArray xs.length (Nat.zero_le _) hm (by simp)
  exact Strs.of_owns (by simpa using h)
/-- The lines of a text; and whether the last one is ended. -/
def linesB (s : ByteArray) : List ByteArray := (cutB 10 s).dropLast
def endedB (s : ByteArray) : Bool := ((cutB 10 s).getLastD ⟨#[]⟩).toList.isEmpty
theorem Strs.cut {w : World} {b n : Nat} {P : List ByteArray} (h : Strs w (.slice (some ⟨b, 0, none⟩) (n + 1) (n + 1)) P) : Strs w (.slice (some ⟨b, 0, none⟩) n n) P.dropLast := by
  obtain ⟨hl, ao, cap, he, hm, hno, hc⟩ := h
  obtain ⟨rfl, hpl, rfl⟩ : some ⟨b, 0, none⟩ = ao ∧ n + 1 = P.length ∧ n + 1 = cap := by simpa using he
  have hdl : P.dropLast.length = n := by rw [List.length_dropLast]; omega
  refine ⟨by simp, some ⟨b, 0, none⟩, n, by rw [hdl], by rw [hdl]; omega, (fun h => by cases h), fun hn => ?_⟩
  obtain ⟨b', off, he', hcell⟩ := hc (by omega)
  cases he'
  refine ⟨b, 0, rfl, fun i hi => ?_⟩
  rw [hdl] at hi
  rw [hcell i (by omega), List.map_dropLast, List.getElem?_dropLast, if_pos (by rw [List.length_map]; omega)]
theorem last_at {P : List ByteArray} {n : Nat} (h : P.length = n + 1) (hn : n < P.length) : P.getLastD ⟨#[]⟩ = P[n] := by
  rw [List.getLastD_eq_getLast?, List.getLast?_eq_getElem?, h]
  simp [List.getElem?_eq_getElem hn]
theorem ret_vb {v : Value} {b b' : Bool} (h : b = b') : Ending.returned (.tuple #[v, .bool b]) = .returned (.tuple #[v, .bool b']) := by rw [h]
set_option maxHeartbeats 2000000 in
theorem lines_any (s : ByteArray) (w : World) (he : Env w) (hs : s.size ≤ 100000) :
    Calls Tryd.prog 26 #[.string s] w fun e w' => ∃ v, e = .returned (.tuple #[v, .bool (endedB s)]) ∧ Strs w' v (linesB s) ∧ Below w.heap.size w w' := by
  have CS := Lib.hid (split_byte s 10 w he hs)
  obtain ⟨hl1, hl2⟩ := cut_len_le 10 s
  have hS := strs_lit w (cutB 10 s) (by unfold maxLen; omega)
  have hb := (Below.refl w.heap.size w).alloc (Nat.le_refl _) (.cells ((cutB 10 s).map Value.string).toArray 9)
  have HL : Hid (linesB s = (cutB 10 s).dropLast ∧ endedB s = ((cutB 10 s).getLastD ⟨#[]⟩).toList.isEmpty) := Lib.hid ⟨rfl, rfl⟩
  generalize cutB 10 s = P at *
  obtain ⟨n, hn⟩ : ∃ n, P.length = n + 1 := ⟨P.length - 1, by omega⟩
  have hnl : n < P.length := by omega
  rw [hn] at hS CS
  obtain ⟨b, off, hao, hc⟩ := hS.at (k := n) hnl
  cases hao
  rw [Nat.zero_add] at hc
  have HQ := Lib.hid (last_at hn hnl)
  have HS := Lib.hid hS.cut
  clear hS hl2
  generalize P[n] = q at *
  have hnb : (n : Int) ≤ 1000000 := by omega
  clear hn hnl hl1 he hs
  go_enter Tryd.func26, Tryd.ntmps26
  go_wp2_with fail
  refine (CS.out).mono ?_
  rintro e w' ⟨rfl, rfl⟩
  generalize w.alloc (.cells (P.map Value.string).toArray 9) = w1 at *
  clear CS
  go_wp2_with fail
  go_quiet (fail)
  go_wp2_with fail
  go_ret2
  exact ⟨_, ret_vb (by rw [HL.out.2, HQ.out]), by rw [HL.out.1]; exact Row.drewN HS.out _, below_drewN hb _⟩
end Go.Proofs.YtjfegknokombgaaDoor
