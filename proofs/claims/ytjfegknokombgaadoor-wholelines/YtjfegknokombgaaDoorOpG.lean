/- The walk of the statement on lines and operations, of a read and at last of all lines: it answers true. Conditions: the library's variables are as a start leaves them. -/
import Derived.Test.YtjfegknokombgaaDoorOpF
import Derived.StillTailTactics
namespace Go.Proofs.YtjfegknokombgaaDoor
set_option maxRecDepth 100000
open Go.RowKit

set_option maxHeartbeats 4000000 in
theorem parses_rno (s : ByteArray) (w : World) (he : Env w) (hs : s.size ≤ 500) (hW : wordsOK s 2 = true) (a b : Int) (hab : numsOf s = [a, b]) (hp : (headB s).toList = [114]) (hm : mayO ⟨false, a, b⟩ = false) (hR : parseR s = (false, opZ)) :
    Calls Tryd.prog 9 #[.string s] w fun e w' => e = .returned (.bool true) ∧ Below w.heap.size w w' := by
  have CR := Lib.hid (fun wx => rwords_is s 2 wx (by omega) (by omega) (by omega) hW)
  rw [hab] at CR
  have CM := Lib.hid (fun wx => may_any false a b wx)
  rw [hm] at CM
  have HEN : Hid (∀ wx, Below w.heap.size w wx → Env wx) := Lib.hid (fun wx h => he.below h)
  have CP : Hid (∀ wx, Env wx → Calls Tryd.prog 29 #[.string s] wx fun e w' => e = .returned (.tuple #[.agg #[.bool false, .int .i64 0, .int .i64 0], .bool false]) ∧ Below wx.heap.size wx w') := Lib.hid (fun wx h => by
    have := parse_any s wx h (by omega)
    rw [hR] at this
    exact this)
  have h1' : ¬ (500 : Int) < (s.size : Int) := by omega
  have hmx : s.size ≤ 9223372036854775807 := by omega
  generalize headB s = p at *
  have b1 : (p.toList == [114]) = true := by simp [hp]
  have b2 : (p.toList == [119]) = false := by rw [hp]; rfl
  have b3 : ¬ p.toList = [119] := by rw [hp]; decide
  clear he hs hW hR hab hm
  go_enter Tryd.func9, Tryd.ntmps9
  go_wp2_with fail
  refine (speaks4_any w (HEN.out _ (Below.refl _ _))).mono ?_
  rintro e w1 ⟨rfl, hb1⟩
  go_wp2_with fail
  refine (CP.out _ (HEN.out _ hb1)).mono ?_
  rintro e w2 ⟨rfl, hb2⟩
  have hb3 := below_then (below_then hb1 hb2) (box_below w2 (.cells #[.bool false, .int .i64 0, .int .i64 0] 52))
  have hx := opBlock w2 (.bool false) (.int .i64 0) (.int .i64 0) 52
  clear hb1 hb2 CP
  go_wp2_with fail
  refine (CR.out _).mono ?_
  rintro e w4 ⟨v, rfl, hI, hb4⟩
  generalize w2.alloc (.cells #[.bool false, .int .i64 0, .int .i64 0] 52) = w3 at *
  obtain ⟨y0, y1, y2⟩ := hx
  have HX : Hid (∀ wx, Below w3.heap.size w3 wx → wx.cell? ⟨w2.heap.size, 0, none⟩ = some (.bool false) ∧ wx.cell? ⟨w2.heap.size, 1, none⟩ = some (.int .i64 0) ∧ wx.cell? ⟨w2.heap.size, 2, none⟩ = some (.int .i64 0)) := Lib.hid (fun wx hb => ⟨(hb.cell (p := ⟨w2.heap.size, 0, none⟩) (block_lt y0)).trans y0, (hb.cell (p := ⟨w2.heap.size, 1, none⟩) (block_lt y1)).trans y1, (hb.cell (p := ⟨w2.heap.size, 2, none⟩) (block_lt y2)).trans y2⟩)
  clear y0 y1 y2
  have hb5 := below_then hb3 hb4
  have hx4 := HX.out _ hb4
  obtain ⟨ao, cap, rfl, hc1, _⟩ := ints_cap hI
  obtain ⟨g, o, hg, k0⟩ := hI.at (k := 0) (by simp)
  subst hg
  obtain ⟨g', o', hg', k1⟩ := hI.at (k := 1) (by simp)
  cases hg'
  change w4.cell? ⟨g, o + 0, none⟩ = some (.int .i64 a) at k0
  rw [Nat.add_zero] at k0
  change w4.cell? ⟨g, o + 1, none⟩ = some (.int .i64 b) at k1
  have hlt4 : g < w4.heap.size := block_lt k0
  have hltx : w2.heap.size < w4.heap.size := block_lt hx4.1
  have HI0 := Lib.hid k0
  have HI1 := Lib.hid k1
  clear hI
  clear hx4
  have kk := Below.refl w4.heap.size w4
  go_wp2_with fail
  go_still_tail 19, (by kernel_rfl)
  go_wp2_with fail
  refine (CM.out _).mono ?_; rintro e wx ⟨rfl, hbx⟩
  have kk : Below w4.heap.size w4 wx := (by first | exact below_then kk hbx | exact below_then kk ⟨hbx.os, hbx.tape, hbx.output, hbx.size, hbx.block⟩); have k0 := (kk.cell (p := ⟨g, o, none⟩) hlt4).trans HI0.out; have k1 := (kk.cell (p := ⟨g, o + 1, none⟩) hlt4).trans HI1.out
  have hb6 := below_then hb5 kk
  obtain ⟨x0, x1, x2⟩ := HX.out _ (below_then hb4 kk)
  clear hbx
  go_wp2_with fail
  go_ret
  exact ⟨rfl, hb6⟩
set_option maxHeartbeats 4000000 in
theorem parses_ryes (s : ByteArray) (w : World) (he : Env w) (hs : s.size ≤ 500) (hW : wordsOK s 2 = true) (a b : Int) (hab : numsOf s = [a, b]) (hp : (headB s).toList = [114]) (hm : mayO ⟨false, a, b⟩ = true) (hR : parseR s = (true, ⟨false, a, b⟩)) (hT : textB false a b = s) (ha : IntOk a) (hb : IntOk b) :
    Calls Tryd.prog 9 #[.string s] w fun e w' => e = .returned (.bool true) ∧ Below w.heap.size w w' := by
  have CR := Lib.hid (fun wx => rwords_is s 2 wx (by omega) (by omega) (by omega) hW)
  rw [hab] at CR
  have CM := Lib.hid (fun wx => may_any false a b wx)
  rw [hm] at CM
  have CT := Lib.hid (fun wx (h : Env wx) => text_any false a b wx h ha hb)
  rw [hT] at CT
  have HEN : Hid (∀ wx, Below w.heap.size w wx → Env wx) := Lib.hid (fun wx h => he.below h)
  have CP : Hid (∀ wx, Env wx → Calls Tryd.prog 29 #[.string s] wx fun e w' => e = .returned (.tuple #[.agg #[.bool false, .int .i64 a, .int .i64 b], .bool true]) ∧ Below wx.heap.size wx w') := Lib.hid (fun wx h => by
    have := parse_any s wx h (by omega)
    rw [hR] at this
    exact this)
  have h1' : ¬ (500 : Int) < (s.size : Int) := by omega
  have hmx : s.size ≤ 9223372036854775807 := by omega
  generalize headB s = p at *
  have b1 : (p.toList == [114]) = true := by simp [hp]
  have b2 : (p.toList == [119]) = false := by rw [hp]; rfl
  have b3 : ¬ p.toList = [119] := by rw [hp]; decide
  clear he hs hW hR hab hm hT ha hb
  go_enter Tryd.func9, Tryd.ntmps9
  go_wp2_with fail
  refine (speaks4_any w (HEN.out _ (Below.refl _ _))).mono ?_
  rintro e w1 ⟨rfl, hb1⟩
  go_wp2_with fail
  refine (CP.out _ (HEN.out _ hb1)).mono ?_
  rintro e w2 ⟨rfl, hb2⟩
  have hb3 := below_then (below_then hb1 hb2) (box_below w2 (.cells #[.bool false, .int .i64 a, .int .i64 b] 52))
  have hx := opBlock w2 (.bool false) (.int .i64 a) (.int .i64 b) 52
  clear hb1 hb2 CP
  go_wp2_with fail
  refine (CR.out _).mono ?_
  rintro e w4 ⟨v, rfl, hI, hb4⟩
  generalize w2.alloc (.cells #[.bool false, .int .i64 a, .int .i64 b] 52) = w3 at *
  obtain ⟨y0, y1, y2⟩ := hx
  have HX : Hid (∀ wx, Below w3.heap.size w3 wx → wx.cell? ⟨w2.heap.size, 0, none⟩ = some (.bool false) ∧ wx.cell? ⟨w2.heap.size, 1, none⟩ = some (.int .i64 a) ∧ wx.cell? ⟨w2.heap.size, 2, none⟩ = some (.int .i64 b)) := Lib.hid (fun wx hb => ⟨(hb.cell (p := ⟨w2.heap.size, 0, none⟩) (block_lt y0)).trans y0, (hb.cell (p := ⟨w2.heap.size, 1, none⟩) (block_lt y1)).trans y1, (hb.cell (p := ⟨w2.heap.size, 2, none⟩) (block_lt y2)).trans y2⟩)
  clear y0 y1 y2
  have hb5 := below_then hb3 hb4
  have hx4 := HX.out _ hb4
  obtain ⟨ao, cap, rfl, hc1, _⟩ := ints_cap hI
  obtain ⟨g, o, hg, k0⟩ := hI.at (k := 0) (by simp)
  subst hg
  obtain ⟨g', o', hg', k1⟩ := hI.at (k := 1) (by simp)
  cases hg'
  change w4.cell? ⟨g, o + 0, none⟩ = some (.int .i64 a) at k0
  rw [Nat.add_zero] at k0
  change w4.cell? ⟨g, o + 1, none⟩ = some (.int .i64 b) at k1
  have hlt4 : g < w4.heap.size := block_lt k0
  have hltx : w2.heap.size < w4.heap.size := block_lt hx4.1
  have HI0 := Lib.hid k0
  have HI1 := Lib.hid k1
  clear hI
  clear hx4
  have kk := Below.refl w4.heap.size w4
  go_wp2_with fail
  go_still_tail 19, (by kernel_rfl)
  go_wp2_with fail
  refine (CM.out _).mono ?_; rintro e wx ⟨rfl, hbx⟩
  have kk : Below w4.heap.size w4 wx := (by first | exact below_then kk hbx | exact below_then kk ⟨hbx.os, hbx.tape, hbx.output, hbx.size, hbx.block⟩); have k0 := (kk.cell (p := ⟨g, o, none⟩) hlt4).trans HI0.out; have k1 := (kk.cell (p := ⟨g, o + 1, none⟩) hlt4).trans HI1.out
  obtain ⟨x0, x1, x2⟩ := HX.out _ (below_then hb4 kk)
  have hk5 := below_then hb5 kk
  clear hbx
  go_wp2_with fail
  generalize wx = w6 at *
  go_region_held3 (fun w' => (w'.cell? ⟨g, o, none⟩ = some (.int .i64 a) ∧ w'.cell? ⟨g, o + 1, none⟩ = some (.int .i64 b)) ∧ w'.cell? ⟨w2.heap.size, 0, none⟩ = some (.bool false) ∧ w'.cell? ⟨w2.heap.size, 1, none⟩ = some (.int .i64 a) ∧ w'.cell? ⟨w2.heap.size, 2, none⟩ = some (.int .i64 b))
    (go_keep)
    (first | (go_at_call 30; refine (CT.out _ (HEN.out _ (by first | exact hk5 | exact hk5.drew | exact below_drewN hk5 _))).mono ?_; rintro e wx ⟨rfl, hbx⟩; have kk : Below w4.heap.size w4 wx := (by first | exact below_then kk hbx | exact below_then kk ⟨hbx.os, hbx.tape, hbx.output, hbx.size, hbx.block⟩); have k0 := (kk.cell (p := ⟨g, o, none⟩) hlt4).trans HI0.out; have k1 := (kk.cell (p := ⟨g, o + 1, none⟩) hlt4).trans HI1.out; obtain ⟨x0, x1, x2⟩ := HX.out _ (below_then hb4 kk)))
  have hb6 := below_then hb5 kk
  clear hbx
  go_wp2_with fail
  go_ret
  exact ⟨rfl, hb6⟩
theorem parses_walk (s : ByteArray) (w : World) (he : Env w) (hm : s.size ≤ maxLen) :
    Calls Tryd.prog 9 #[.string s] w fun e w' => e = .returned (.bool true) ∧ Below w.heap.size w w' := by
  by_cases hs : 500 < s.size
  · unfold maxLen at hm
    have h1' : (500 : Int) < (s.size : Int) := by omega
    go_enter Tryd.func9, Tryd.ntmps9
    go_wp2_with fail
    refine (speaks4_any w he).mono ?_
    rintro e w1 ⟨rfl, hb1⟩
    go_wp2_with fail
    go_ret
    exact ⟨rfl, hb1⟩
  have hs' : s.size ≤ 500 := by omega
  cases hW : wordsOK s 2
  · exact parses_no s w he hs' hW (parseR_no hW)
  obtain ⟨a, b, hab, ⟨ha0, ha1⟩, hb0, hb1⟩ := nums_two hW
  have hR := parseR_at hW hab
  have hJ := join_words hW
  rw [hab] at hJ
  have hOa : IntOk a := by unfold IntOk; omega
  have hOb : IntOk b := by unfold IntOk; omega
  have hh : ∀ c : UInt8, (headB s).toList = [c] → headB s = ⟨#[c]⟩ := fun c h => byteArray_ext (by rw [← ByteArray.toList_eq, h])
  by_cases hr : (headB s).toList = [114]
  · have i1 : isW s = false := by unfold isW; rw [← ByteArray.toList_eq, hr]; rfl
    have i2 : isRd s = true := by unfold isRd; rw [← ByteArray.toList_eq, hr]; rfl
    rw [i1, i2] at hR
    cases hy : mayO ⟨false, a, b⟩
    · rw [hy] at hR
      exact parses_rno s w he hs' hW a b hab hr hy hR
    · rw [hy] at hR
      exact parses_ryes s w he hs' hW a b hab hr hy hR (by rw [hh _ hr] at hJ; exact hJ) hOa hOb
  by_cases hw : (headB s).toList = [119]
  · have i1 : isW s = true := by unfold isW; rw [← ByteArray.toList_eq, hw]; rfl
    rw [i1] at hR
    cases hy : mayO ⟨true, a, b⟩
    · rw [hy] at hR
      exact parses_wno s w he hs' hW a b hab hw hy (by simpa using hR)
    · rw [hy] at hR
      exact parses_wyes s w he hs' hW a b hab hw hy (by simpa using hR) (by rw [hh _ hw] at hJ; exact hJ) hOa hOb
  · have i1 : isW s = false := by unfold isW; rw [← ByteArray.toList_eq]; simp [hw]
    have i2 : isRd s = false := by unfold isRd; rw [← ByteArray.toList_eq]; simp [hr]
    rw [i1, i2] at hR
    exact parses_other s w he hs' hW a b hab hr hw hR
end Go.Proofs.YtjfegknokombgaaDoor
