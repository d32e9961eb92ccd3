/- The walks of numbers joined, and of operations' texts. Conditions: the library's table of tens lies as it is laid; what is joined takes at most 10^9 bytes. -/
import Derived.Test.YtlkdojcimlfmdaaDoorOpZ
import Derived.Test.YtlkdojcimlfmdaaDoorBld
import Derived.Lib.ItoaNum
import Derived.Lib.ItoaLen
import Derived.Lib.LaidTab
import Derived.WalkSmall
import Derived.WalkLawsBesides
import Derived.Laws.IdiomStrings
import Derived.Laws.Concat
import Derived.IntWalk
namespace Go.Proofs.YtlkdojcimlfmdaaDoor
set_option maxRecDepth 100000
open Go.RowKit

theorem gTen : Tryd.prog.globalNamed "internal/strconv.uint64pow10" = some 1 := by kernel_rfl
/-- The library's table of tens is as a start leaves it. -/
def Ten (w : World) : Prop := Lib.TabIs Tryd.prog w "internal/strconv.uint64pow10" .u64 Lib.pow10Tab
theorem Ten.pos {w : World} (h : Ten w) : 1 < w.heap.size := by
  have := Lib.TabIs.cell h gTen 0 (by decide)
  exact block_lt this
theorem Ten.below {w w' : World} (h : Ten w) (hb : Below w.heap.size w w') : Ten w' := var?_below hb gTen h.pos h
theorem below_sort_grow (w : World) (k : Nat) (os : Array Obj) : Below w.heap.size w (Sort.grow (w.drewN k) os) :=
  ⟨rfl, rfl, rfl, by simp [Sort.grow, World.drewN], fun i hi => by
    have : (Sort.grow (w.drewN k) os).heap = w.heap ++ os := rfl
    rw [this, Array.getElem?_append_left hi]⟩
theorem itoa_ten (n : Int) (w : World) (he : Ten w) (hn : IntOk n) :
    Calls Tryd.prog 66 #[.int .i64 n] w fun e w' => e = .returned (.string ⟨(Lib.itoa n).toArray⟩) ∧ Below w.heap.size w w' := by
  refine (Tryd.strconv_Itoa n hn.1 hn.2 w he).mono fun e w' ⟨h, k, os, hw⟩ => ⟨h, ?_⟩
  subst hw
  exact below_sort_grow w k os
/-- A word, and numbers behind it, a blank ahead of each. -/
def joinTo (s : List UInt8) (l : List Int) : List UInt8 := s ++ l.flatMap fun n => 32 :: Lib.itoa n
theorem joinTo_nil (s : List UInt8) : joinTo s [] = s := by simp [joinTo]
theorem joinTo_succ (s : List UInt8) (l : List Int) (k : Nat) (hk : k < l.length) : joinTo s (l.take (k + 1)) = (joinTo s (l.take k) ++ [32]) ++ Lib.itoa l[k] := by
  unfold joinTo
  rw [List.take_succ_eq_append_getElem hk, List.flatMap_append]
  simp
theorem joinTo_len (s : List UInt8) : ∀ (l : List Int), (∀ n ∈ l, IntOk n) → (joinTo s l).length ≤ s.length + 22 * l.length := by
  intro l
  induction l with
  | nil => intro _; simp [joinTo]
  | cons a l ih =>
    intro h
    have h1 := ih (fun n hn => h n (List.mem_cons_of_mem _ hn))
    have ha := h a List.mem_cons_self
    have h2 := Lib.itoa_length_le a ha.1 ha.2
    unfold joinTo at *
    rw [List.flatMap_cons]
    simp only [List.length_append, List.length_cons] at *
    omega
def joinB (s : ByteArray) (l : List Int) : ByteArray := ⟨(joinTo s.data.toList l).toArray⟩
set_option maxHeartbeats 2000000 in
theorem join_ten (s : ByteArray) (va : Value) (l : List Int) (w : World) (he : Ten w) (hI : Ints w va l) (hl : ∀ n ∈ l, IntOk n) (hlen : s.size + 22 * l.length ≤ 1000000000) :
    Calls Tryd.prog 43 #[.string s, va] w fun e w' => e = .returned (.string (joinB s l)) ∧ Below w.heap.size w w' := by
  obtain ⟨ao, cap, rfl, hal⟩ := hI.form
  have hsl := Lib.size_eq s
  have HLEN : Hid (∀ k, k ≤ l.length → (joinTo s.data.toList (l.take k)).length ≤ s.size + 22 * k) := Lib.hid (fun k hk => by
    have := joinTo_len s.data.toList (l.take k) (fun n hn => hl n (List.mem_of_mem_take hn))
    rw [← hsl, List.length_take, Nat.min_eq_left hk] at this
    exact this)
  have HL := Lib.hid hl
  have HENV := Lib.hid he
  have hB0 := bld_new w
  have hb0 := (Below.refl w.heap.size w).alloc (Nat.le_refl _) (.cells #[.pointer none, .slice none 0 0] 67)
  have CW := Lib.hid (write_any w.heap.size w.heap.size [] s _ hB0 (by simp; omega))
  clear hl he hsl
  go_enter Tryd.func43, Tryd.ntmps43
  go_wp2_with fail
  refine (CW.out).mono ?_
  rintro e w1 ⟨rfl, hB1, hb1⟩
  have hbb := hb0.trans (hb1.mono (Nat.le_refl _))
  rw [List.nil_append] at hB1
  clear hB0 hb0 hb1 CW
  go_wp2_with fail
  go_loopw [12] (fun i wr => ∃ k : Nat, k ≤ l.length ∧ i = .int .i64 k ∧ Bld w.heap.size w.heap.size (joinTo s.data.toList (l.take k)) wr ∧ Below w.heap.size w wr) (fun i _ => l.length - (intOf i).toNat)
  case atStart => exact ⟨0, by omega, rfl, by rw [List.take_zero, joinTo_nil]; exact hB1, hbb⟩
  case round =>
    obtain ⟨k, hk, rfl, hB, hb⟩ := hrel
    have hszr := hb.size
    by_cases hlt : k < l.length
    · have hki : (k : Int) < (l.length : Int) := by omega
      obtain ⟨b, off, hao, hc⟩ := (hI.below hb).at hlt
      cases hao
      have hxi := HL.out l[k] (List.getElem_mem hlt)
      have HS := Lib.hid (joinTo_succ s.data.toList l k hlt)
      have hlk := HLEN.out k hk
      generalize joinTo s.data.toList (l.take k) = A at *
      generalize l[k] = x at *
      have CW1 := Lib.hid (write_any w.heap.size w.heap.size A ⟨#[32]⟩ wr hB (by have : (⟨#[32]⟩ : ByteArray).size = 1 := rfl; omega))
      have HX := Lib.hid hxi
      clear hxi hB
      go_wp2_with fail
      refine (CW1.out).mono ?_
      rintro e w2 ⟨rfl, hB2, hb2⟩
      have hb2' := hb.trans hb2
      clear CW1
      go_wp2_with fail
      refine (itoa_ten x w2 (HENV.out.below hb2') HX.out).mono ?_
      rintro e w3 ⟨rfl, hb3⟩
      have hB3 := hB2.grown hb3
      have hb3' := hb2'.trans (hb3.mono hb2'.size)
      have htl := Lib.itoa_length_le x HX.out.1 HX.out.2
      have hts : (⟨(Lib.itoa x).toArray⟩ : ByteArray).size = (Lib.itoa x).length := by simp [ByteArray.size]
      have CW2 := Lib.hid (write_any w.heap.size w.heap.size _ ⟨(Lib.itoa x).toArray⟩ w3 hB3 (by rw [hts]; simp; omega))
      obtain ⟨t, ht⟩ : ∃ t : ByteArray, t = ⟨(Lib.itoa x).toArray⟩ := ⟨_, rfl⟩
      have HT := Lib.hid ht
      rw [← ht] at CW2
      rw [← ht]
      clear ht hts htl hB2 hB3 hb2' hb2 hb3
      go_wp2_with fail
      refine (CW2.out).mono ?_
      rintro e w4 ⟨rfl, hB4, hb4⟩
      have hb4' := hb3'.trans hb4
      go_wp2_with fail
      go_roundw
      case rel => exact ⟨k + 1, by omega, by go_num, by rw [HS.out]; have h := HT.out; subst h; simpa using hB4, hb4'⟩
      case measure => simp [intOf]; omega
    · obtain rfl : k = l.length := by omega
      have CS := Lib.hid (bld_string w.heap.size w.heap.size _ wr hB)
      have HJ : Hid (joinB s l = ⟨(joinTo s.data.toList (l.take l.length)).toArray⟩) := Lib.hid (by rw [List.take_length]; rfl)
      clear hB
      go_wp2_with fail
      refine (CS.out).mono ?_
      rintro e w' ⟨rfl, hbs⟩
      rw [← HJ.out]
      go_wp2_with fail
      go_ret
      exact ⟨rfl, hb.trans hbs⟩
/-- An operation in words. -/
def textB (wr : Bool) (key val : Int) : ByteArray := joinB (if wr then ⟨#[119]⟩ else ⟨#[114]⟩) [key, val]
set_option maxHeartbeats 1000000 in
theorem text_ten (wr : Bool) (key val : Int) (w : World) (he : Ten w) (hk : IntOk key) (hv : IntOk val) :
    Calls Tryd.prog 44 #[.agg #[.bool wr, .int .i64 key, .int .i64 val]] w fun e w' => e = .returned (.string (textB wr key val)) ∧ Below w.heap.size w w' := by
  have hb1 := box_below w (.cells #[.bool wr, .int .i64 key, .int .i64 val] 26)
  have hb2 := hb1.trans ((box_below (w.alloc (.cells #[.bool wr, .int .i64 key, .int .i64 val] 26)) (.cells #[.int .i64 key, .int .i64 val] 3)).mono (by simp))
  have hI := ints_lit (w.alloc (.cells #[.bool wr, .int .i64 key, .int .i64 val] 26)) [key, val] #[.int .i64 key, .int .i64 val] 2 rfl rfl (by decide)
  rw [show (w.alloc (.cells #[.bool wr, .int .i64 key, .int .i64 val] 26)).heap.size = w.heap.size + 1 from by simp] at hI
  have CJ := fun s => join_ten s _ [key, val] _ (he.below hb2) hI (by intro n hn; simp at hn; rcases hn with rfl | rfl <;> assumption)
  have HJ := Lib.hid CJ
  clear CJ he hk hv hb1 hI
  cases wr
  all_goals
    go_enter Tryd.func44, Tryd.ntmps44
    go_wp2_with fail
    refine (HJ.out _ (by show 1 + 22 * 2 ≤ 1000000000; omega)).mono ?_
    rintro e w' ⟨rfl, hb⟩
    go_wp2_with fail
    go_ret
    exact ⟨rfl, hb2.trans (hb.mono hb2.size)⟩
end Go.Proofs.YtlkdojcimlfmdaaDoor
