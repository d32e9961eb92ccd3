/- The walk of the statement on lines and operations: it answers true. Conditions: the library's variables are as a start leaves them. -/
import Derived.Test.YtjfegknokombgaaDoorOpE
namespace Go.Proofs.YtjfegknokombgaaDoor
set_option maxRecDepth 100000
open Go.RowKit

theorem ints_cap {w : World} {v : Value} {l : List Int} (h : Ints w v l) : ∃ ao cap, v = .slice ao l.length cap ∧ (l.length ≤ cap ∧ cap ≤ 9223372036854775807) ∧ (ao = none → l.length = 0 ∧ cap = 0) := by
  obtain ⟨_, ao, cap, rfl, hm, hno, _⟩ := h
  exact ⟨ao, cap, rfl, hm, hno⟩
theorem cut_inv {c : UInt8} : ∀ (l : List UInt8) {p : List UInt8} {ps : List (List UInt8)}, cutL c l = p :: ps → l = p ++ ps.flatMap (fun q => c :: q)
  | [], p, ps, h => by
    simp [cutL] at h
    obtain ⟨rfl, rfl⟩ := h
    rfl
  | b :: l, p, ps, h => by
    unfold cutL at h
    split at h
    · rename_i hb
      obtain ⟨rfl, rfl⟩ := List.cons.inj h
      cases hc : cutL c l with
      | nil => exact absurd hc (cutL_ne c l)
      | cons q qs =>
        have := cut_inv l hc
        rw [List.nil_append, List.flatMap_cons, hb]
        rw [this]; simp
    · obtain ⟨rfl, rfl⟩ := List.cons.inj h
      cases hc : cutL c l with
      | nil => exact absurd hc (cutL_ne c l)
      | cons q qs =>
        have := cut_inv l hc
        simp
        rw [this]
        try simp
theorem okN_itoa_back {l : List UInt8} (h : okN l = true) : Lib.itoa ((numV l : Nat) : Int) = l := by
  unfold Lib.itoa
  rw [if_neg (by omega), Int.toNat_natCast, okN_dec h]
theorem join_words {s : ByteArray} {many : Int} (h : wordsOK s many = true) : joinB (headB s) (numsOf s) = s := by
  unfold wordsOK at h
  simp only [Bool.and_eq_true, List.all_eq_true] at h
  obtain ⟨_, hall⟩ := h
  apply byteArray_ext
  unfold joinB joinTo headB numsOf numsB
  unfold cutB at *
  cases hc : cutL 32 s.data.toList with
  | nil => exact absurd hc (cutL_ne _ _)
  | cons p ps =>
    have hi := cut_inv _ hc
    rw [hc] at hall
    simp only [List.map_cons, List.tail_cons, List.headD_cons] at hall ⊢
    rw [hi]
    simp only [List.map_map, List.flatMap_map]
    congr 1
    have : ∀ q ∈ ps, (32 :: Lib.itoa ((numV q : Nat) : Int)) = 32 :: q := by
      intro q hq
      have := hall ⟨q.toArray⟩ (List.mem_map.2 ⟨q, hq, rfl⟩)
      rw [okN_itoa_back (by simpa using this)]
    clear hall hi hc
    induction ps with
    | nil => rfl
    | cons q qs ih =>
      rw [List.flatMap_cons, List.flatMap_cons, ← ih (fun q hq => this q (List.mem_cons_of_mem _ hq))]
      have := this q List.mem_cons_self
      simp at this ⊢
      exact this
set_option maxHeartbeats 4000000 in
theorem parses_no (s : ByteArray) (w : World) (he : Env w) (hs : s.size ≤ 500) (hW : wordsOK s 2 = false) (hR : parseR s = (false, opZ)) :
    Calls Tryd.prog 9 #[.string s] w fun e w' => e = .returned (.bool true) ∧ Below w.heap.size w w' := by
  have CR := Lib.hid (fun wx => rwords_isnt s 2 wx (by omega) (by omega) (by omega) hW)
  have HEN : Hid (∀ wx, Below w.heap.size w wx → Env wx) := Lib.hid (fun wx h => he.below h)
  have CP : Hid (∀ wx, Env wx → Calls Tryd.prog 29 #[.string s] wx fun e w' => e = .returned (.tuple #[.agg #[.bool false, .int .i64 0, .int .i64 0], .bool false]) ∧ Below wx.heap.size wx w') := Lib.hid (fun wx h => by
    have := parse_any s wx h (by omega)
    rw [hR] at this
    exact this)
  have h1' : ¬ (500 : Int) < (s.size : Int) := by omega
  have hm : s.size ≤ 9223372036854775807 := by omega
  clear he hs hW hR
  go_enter Tryd.func9, Tryd.ntmps9
  go_wp2_with fail
  refine (speaks4_any w (HEN.out _ (Below.refl _ _))).mono ?_
  rintro e w1 ⟨rfl, hb1⟩
  go_wp2_with fail
  refine (CP.out _ (HEN.out _ hb1)).mono ?_
  rintro e w2 ⟨rfl, hb2⟩
  have hb3 := below_then (below_then hb1 hb2) (box_below w2 (.cells #[.bool false, .int .i64 0, .int .i64 0] 52))
  have hx := opBlock w2 (.bool false) (.int .i64 0) (.int .i64 0) 52
  clear hb1 hb2 CP
  go_wp2_with fail
  refine (CR.out _).mono ?_
  rintro e w4 ⟨rfl, hb4⟩
  generalize w2.alloc (.cells #[.bool false, .int .i64 0, .int .i64 0] 52) = w3 at *
  obtain ⟨y0, y1, y2⟩ := hx
  have HX : Hid (∀ wx, Below w3.heap.size w3 wx → wx.cell? ⟨w2.heap.size, 0, none⟩ = some (.bool false) ∧ wx.cell? ⟨w2.heap.size, 1, none⟩ = some (.int .i64 0) ∧ wx.cell? ⟨w2.heap.size, 2, none⟩ = some (.int .i64 0)) := Lib.hid (fun wx hb => ⟨(hb.cell (p := ⟨w2.heap.size, 0, none⟩) (block_lt y0)).trans y0, (hb.cell (p := ⟨w2.heap.size, 1, none⟩) (block_lt y1)).trans y1, (hb.cell (p := ⟨w2.heap.size, 2, none⟩) (block_lt y2)).trans y2⟩)
  clear y0 y1 y2
  obtain ⟨x0, x1, x2⟩ := HX.out _ hb4
  have hb5 := below_then hb3 hb4
  go_wp2_with fail
  go_quiet (fail)
  go_wp2_with fail
  go_ret
  exact ⟨rfl, below_drewN hb5 _⟩
set_option maxHeartbeats 4000000 in
theorem parses_other (s : ByteArray) (w : World) (he : Env w) (hs : s.size ≤ 500) (hW : wordsOK s 2 = true) (a b : Int) (hab : numsOf s = [a, b]) (hr : ¬ (headB s).toList = [114]) (hw : ¬ (headB s).toList = [119]) (hR : parseR s = (false, opZ)) :
    Calls Tryd.prog 9 #[.string s] w fun e w' => e = .returned (.bool true) ∧ Below w.heap.size w w' := by
  have CR := Lib.hid (fun wx => rwords_is s 2 wx (by omega) (by omega) (by omega) hW)
  rw [hab] at CR
  have HEN : Hid (∀ wx, Below w.heap.size w wx → Env wx) := Lib.hid (fun wx h => he.below h)
  have CP : Hid (∀ wx, Env wx → Calls Tryd.prog 29 #[.string s] wx fun e w' => e = .returned (.tuple #[.agg #[.bool false, .int .i64 0, .int .i64 0], .bool false]) ∧ Below wx.heap.size wx w') := Lib.hid (fun wx h => by
    have := parse_any s wx h (by omega)
    rw [hR] at this
    exact this)
  have h1' : ¬ (500 : Int) < (s.size : Int) := by omega
  have hm : s.size ≤ 9223372036854775807 := by omega
  generalize headB s = p at *
  have b1 : (p.toList == [114]) = false := by simp [hr]
  have b2 : (p.toList == [119]) = false := by simp [hw]
  clear he hs hW hR hab
  go_enter Tryd.func9, Tryd.ntmps9
  go_wp2_with fail
  refine (speaks4_any w (HEN.out _ (Below.refl _ _))).mono ?_
  rintro e w1 ⟨rfl, hb1⟩
  go_wp2_with fail
  refine (CP.out _ (HEN.out _ hb1)).mono ?_
  rintro e w2 ⟨rfl, hb2⟩
  have hb3 := below_then (below_then hb1 hb2) (box_below w2 (.cells #[.bool false, .int .i64 0, .int .i64 0] 52))
  have hx := opBlock w2 (.bool false) (.int .i64 0) (.int .i64 0) 52
  clear hb1 hb2 CP
  go_wp2_with fail
  refine (CR.out _).mono ?_
  rintro e w4 ⟨v, rfl, hI, hb4⟩
  generalize w2.alloc (.cells #[.bool false, .int .i64 0, .int .i64 0] 52) = w3 at *
  obtain ⟨y0, y1, y2⟩ := hx
  have HX : Hid (∀ wx, Below w3.heap.size w3 wx → wx.cell? ⟨w2.heap.size, 0, none⟩ = some (.bool false) ∧ wx.cell? ⟨w2.heap.size, 1, none⟩ = some (.int .i64 0) ∧ wx.cell? ⟨w2.heap.size, 2, none⟩ = some (.int .i64 0)) := Lib.hid (fun wx hb => ⟨(hb.cell (p := ⟨w2.heap.size, 0, none⟩) (block_lt y0)).trans y0, (hb.cell (p := ⟨w2.heap.size, 1, none⟩) (block_lt y1)).trans y1, (hb.cell (p := ⟨w2.heap.size, 2, none⟩) (block_lt y2)).trans y2⟩)
  clear y0 y1 y2
  have hb5 := below_then hb3 hb4
  have hx4 := HX.out _ hb4
  obtain ⟨ao, cap, rfl, hc1, _⟩ := ints_cap hI
  obtain ⟨g, o, hg, k0⟩ := hI.at (k := 0) (by simp)
  subst hg
  obtain ⟨g', o', hg', k1⟩ := hI.at (k := 1) (by simp)
  cases hg'
  change w4.cell? ⟨g, o + 0, none⟩ = some (.int .i64 a) at k0
  rw [Nat.add_zero] at k0
  change w4.cell? ⟨g, o + 1, none⟩ = some (.int .i64 b) at k1
  have hlt4 : g < w4.heap.size := block_lt k0
  have hltx : w2.heap.size < w4.heap.size := block_lt hx4.1
  have HI0 := Lib.hid k0
  have HI1 := Lib.hid k1
  clear hI
  obtain ⟨x0, x1, x2⟩ := hx4
  go_wp2_with fail
  go_quiet (fail)
  go_wp2_with fail
  go_ret
  exact ⟨rfl, below_drewN hb5 _⟩
set_option maxHeartbeats 4000000 in
theorem parses_wno (s : ByteArray) (w : World) (he : Env w) (hs : s.size ≤ 500) (hW : wordsOK s 2 = true) (a b : Int) (hab : numsOf s = [a, b]) (hp : (headB s).toList = [119]) (hm : mayO ⟨true, a, b⟩ = false) (hR : parseR s = (false, opZ)) :
    Calls Tryd.prog 9 #[.string s] w fun e w' => e = .returned (.bool true) ∧ Below w.heap.size w w' := by
  have CR := Lib.hid (fun wx => rwords_is s 2 wx (by omega) (by omega) (by omega) hW)
  rw [hab] at CR
  have CM := Lib.hid (fun wx => may_any true a b wx)
  rw [hm] at CM
  have HEN : Hid (∀ wx, Below w.heap.size w wx → Env wx) := Lib.hid (fun wx h => he.below h)
  have CP : Hid (∀ wx, Env wx → Calls Tryd.prog 29 #[.string s] wx fun e w' => e = .returned (.tuple #[.agg #[.bool false, .int .i64 0, .int .i64 0], .bool false]) ∧ Below wx.heap.size wx w') := Lib.hid (fun wx h => by
    have := parse_any s wx h (by omega)
    rw [hR] at this
    exact this)
  have h1' : ¬ (500 : Int) < (s.size : Int) := by omega
  have hmx : s.size ≤ 9223372036854775807 := by omega
  generalize headB s = p at *
  have b1 : (p.toList == [119]) = true := by simp [hp]
  have b2 : (p.toList == [114]) = false := by rw [hp]; rfl
  have b3 : ¬ p.toList = [114] := by rw [hp]; decide
  clear he hs hW hR hab hm
  go_enter Tryd.func9, Tryd.ntmps9
  go_wp2_with fail
  refine (speaks4_any w (HEN.out _ (Below.refl _ _))).mono ?_
  rintro e w1 ⟨rfl, hb1⟩
  go_wp2_with fail
  refine (CP.out _ (HEN.out _ hb1)).mono ?_
  rintro e w2 ⟨rfl, hb2⟩
  have hb3 := below_then (below_then hb1 hb2) (box_below w2 (.cells #[.bool false, .int .i64 0, .int .i64 0] 52))
  have hx := opBlock w2 (.bool false) (.int .i64 0) (.int .i64 0) 52
  clear hb1 hb2 CP
  go_wp2_with fail
  refine (CR.out _).mono ?_
  rintro e w4 ⟨v, rfl, hI, hb4⟩
  generalize w2.alloc (.cells #[.bool false, .int .i64 0, .int .i64 0] 52) = w3 at *
  obtain ⟨y0, y1, y2⟩ := hx
  have HX : Hid (∀ wx, Below w3.heap.size w3 wx → wx.cell? ⟨w2.heap.size, 0, none⟩ = some (.bool false) ∧ wx.cell? ⟨w2.heap.size, 1, none⟩ = some (.int .i64 0) ∧ wx.cell? ⟨w2.heap.size, 2, none⟩ = some (.int .i64 0)) := Lib.hid (fun wx hb => ⟨(hb.cell (p := ⟨w2.heap.size, 0, none⟩) (block_lt y0)).trans y0, (hb.cell (p := ⟨w2.heap.size, 1, none⟩) (block_lt y1)).trans y1, (hb.cell (p := ⟨w2.heap.size, 2, none⟩) (block_lt y2)).trans y2⟩)
  clear y0 y1 y2
  have hb5 := below_then hb3 hb4
  have hx4 := HX.out _ hb4
  obtain ⟨ao, cap, rfl, hc1, _⟩ := ints_cap hI
  obtain ⟨g, o, hg, k0⟩ := hI.at (k := 0) (by simp)
  subst hg
  obtain ⟨g', o', hg', k1⟩ := hI.at (k := 1) (by simp)
  cases hg'
  change w4.cell? ⟨g, o + 0, none⟩ = some (.int .i64 a) at k0
  rw [Nat.add_zero] at k0
  change w4.cell? ⟨g, o + 1, none⟩ = some (.int .i64 b) at k1
  have hlt4 : g < w4.heap.size := block_lt k0
  have hltx : w2.heap.size < w4.heap.size := block_lt hx4.1
  have HI0 := Lib.hid k0
  have HI1 := Lib.hid k1
  clear hI
  clear hx4
  have kk := Below.refl w4.heap.size w4
  go_wp2_with fail
  go_region_held3 (fun w' => w'.cell? ⟨g, o, none⟩ = some (.int .i64 a) ∧ w'.cell? ⟨g, o + 1, none⟩ = some (.int .i64 b))
    (go_keep)
    (first | (go_at_call 32; refine (CM.out _).mono ?_; rintro e wx ⟨rfl, hbx⟩; have kk : Below w4.heap.size w4 wx := (by first | exact below_then kk hbx | exact below_then kk ⟨hbx.os, hbx.tape, hbx.output, hbx.size, hbx.block⟩); have k0 := (kk.cell (p := ⟨g, o, none⟩) hlt4).trans HI0.out; have k1 := (kk.cell (p := ⟨g, o + 1, none⟩) hlt4).trans HI1.out))
  have hb6 := below_then hb5 kk
  obtain ⟨x0, x1, x2⟩ := HX.out _ (below_then hb4 kk)
  clear hbx
  go_wp2_with fail
  go_ret
  exact ⟨rfl, hb6⟩
set_option maxHeartbeats 4000000 in
theorem parses_wyes (s : ByteArray) (w : World) (he : Env w) (hs : s.size ≤ 500) (hW : wordsOK s 2 = true) (a b : Int) (hab : numsOf s = [a, b]) (hp : (headB s).toList = [119]) (hm : mayO ⟨true, a, b⟩ = true) (hR : parseR s = (true, ⟨true, a, b⟩)) (hT : textB true a b = s) (ha : IntOk a) (hb : IntOk b) :
    Calls Tryd.prog 9 #[.string s] w fun e w' => e = .returned (.bool true) ∧ Below w.heap.size w w' := by
  have CR := Lib.hid (fun wx => rwords_is s 2 wx (by omega) (by omega) (by omega) hW)
  rw [hab] at CR
  have CM := Lib.hid (fun wx => may_any true a b wx)
  rw [hm] at CM
  have CT := Lib.hid (fun wx (h : Env wx) => text_any true a b wx h ha hb)
  rw [hT] at CT
  have HEN : Hid (∀ wx, Below w.heap.size w wx → Env wx) := Lib.hid (fun wx h => he.below h)
  have CP : Hid (∀ wx, Env wx → Calls Tryd.prog 29 #[.string s] wx fun e w' => e = .returned (.tuple #[.agg #[.bool true, .int .i64 a, .int .i64 b], .bool true]) ∧ Below wx.heap.size wx w') := Lib.hid (fun wx h => by
    have := parse_any s wx h (by omega)
    rw [hR] at this
    exact this)
  have h1' : ¬ (500 : Int) < (s.size : Int) := by omega
  have hmx : s.size ≤ 9223372036854775807 := by omega
  generalize headB s = p at *
  have b1 : (p.toList == [119]) = true := by simp [hp]
  have b2 : (p.toList == [114]) = false := by rw [hp]; rfl
  have b3 : ¬ p.toList = [114] := by rw [hp]; decide
  clear he hs hW hR hab hm hT ha hb
  go_enter Tryd.func9, Tryd.ntmps9
  go_wp2_with fail
  refine (speaks4_any w (HEN.out _ (Below.refl _ _))).mono ?_
  rintro e w1 ⟨rfl, hb1⟩
  go_wp2_with fail
  refine (CP.out _ (HEN.out _ hb1)).mono ?_
  rintro e w2 ⟨rfl, hb2⟩
  have hb3 := below_then (below_then hb1 hb2) (box_below w2 (.cells #[.bool true, .int .i64 a, .int .i64 b] 52))
  have hx := opBlock w2 (.bool true) (.int .i64 a) (.int .i64 b) 52
  clear hb1 hb2 CP
  go_wp2_with fail
  refine (CR.out _).mono ?_
  rintro e w4 ⟨v, rfl, hI, hb4⟩
  generalize w2.alloc (.cells #[.bool true, .int .i64 a, .int .i64 b] 52) = w3 at *
  obtain ⟨y0, y1, y2⟩ := hx
  have HX : Hid (∀ wx, Below w3.heap.size w3 wx → wx.cell? ⟨w2.heap.size, 0, none⟩ = some (.bool true) ∧ wx.cell? ⟨w2.heap.size, 1, none⟩ = some (.int .i64 a) ∧ wx.cell? ⟨w2.heap.size, 2, none⟩ = some (.int .i64 b)) := Lib.hid (fun wx hb => ⟨(hb.cell (p := ⟨w2.heap.size, 0, none⟩) (block_lt y0)).trans y0, (hb.cell (p := ⟨w2.heap.size, 1, none⟩) (block_lt y1)).trans y1, (hb.cell (p := ⟨w2.heap.size, 2, none⟩) (block_lt y2)).trans y2⟩)
  clear y0 y1 y2
  have hb5 := below_then hb3 hb4
  have hx4 := HX.out _ hb4
  obtain ⟨ao, cap, rfl, hc1, _⟩ := ints_cap hI
  obtain ⟨g, o, hg, k0⟩ := hI.at (k := 0) (by simp)
  subst hg
  obtain ⟨g', o', hg', k1⟩ := hI.at (k := 1) (by simp)
  cases hg'
  change w4.cell? ⟨g, o + 0, none⟩ = some (.int .i64 a) at k0
  rw [Nat.add_zero] at k0
  change w4.cell? ⟨g, o + 1, none⟩ = some (.int .i64 b) at k1
  have hlt4 : g < w4.heap.size := block_lt k0
  have hltx : w2.heap.size < w4.heap.size := block_lt hx4.1
  have HI0 := Lib.hid k0
  have HI1 := Lib.hid k1
  clear hI
  clear hx4
  have kk := Below.refl w4.heap.size w4
  go_wp2_with fail
  go_region_held3 (fun w' => w'.cell? ⟨g, o, none⟩ = some (.int .i64 a) ∧ w'.cell? ⟨g, o + 1, none⟩ = some (.int .i64 b))
    (go_keep)
    (first | (go_at_call 32; refine (CM.out _).mono ?_; rintro e wx ⟨rfl, hbx⟩; have kk : Below w4.heap.size w4 wx := (by first | exact below_then kk hbx | exact below_then kk ⟨hbx.os, hbx.tape, hbx.output, hbx.size, hbx.block⟩); have k0 := (kk.cell (p := ⟨g, o, none⟩) hlt4).trans HI0.out; have k1 := (kk.cell (p := ⟨g, o + 1, none⟩) hlt4).trans HI1.out))
  obtain ⟨x0, x1, x2⟩ := HX.out _ (below_then hb4 kk)
  have hk5 := below_then hb5 kk
  clear hbx
  go_wp2_with fail
  generalize wx = w6 at *
  go_region_held3 (fun w' => (w'.cell? ⟨g, o, none⟩ = some (.int .i64 a) ∧ w'.cell? ⟨g, o + 1, none⟩ = some (.int .i64 b)) ∧ w'.cell? ⟨w2.heap.size, 0, none⟩ = some (.bool true) ∧ w'.cell? ⟨w2.heap.size, 1, none⟩ = some (.int .i64 a) ∧ w'.cell? ⟨w2.heap.size, 2, none⟩ = some (.int .i64 b))
    (go_keep)
    (first | (go_at_call 30; refine (CT.out _ (HEN.out _ (by first | exact hk5 | exact hk5.drew | exact below_drewN hk5 _))).mono ?_; rintro e wx ⟨rfl, hbx⟩; have kk : Below w4.heap.size w4 wx := (by first | exact below_then kk hbx | exact below_then kk ⟨hbx.os, hbx.tape, hbx.output, hbx.size, hbx.block⟩); have k0 := (kk.cell (p := ⟨g, o, none⟩) hlt4).trans HI0.out; have k1 := (kk.cell (p := ⟨g, o + 1, none⟩) hlt4).trans HI1.out; obtain ⟨x0, x1, x2⟩ := HX.out _ (below_then hb4 kk)))
  have hb6 := below_then hb5 kk
  clear hbx
  go_wp2_with fail
  go_ret
  exact ⟨rfl, hb6⟩
end Go.Proofs.YtjfegknokombgaaDoor
