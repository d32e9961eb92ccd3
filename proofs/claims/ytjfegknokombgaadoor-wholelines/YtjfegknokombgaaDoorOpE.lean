/- The walk of the statement on operations' texts: it answers true. Conditions: numbers are ints; the library's variables are as a start leaves them. -/
import Derived.Test.YtjfegknokombgaaDoorOpD
namespace Go.Proofs.YtjfegknokombgaaDoor
set_option maxRecDepth 100000
open Go.RowKit

/-- Behind a region: what calls one behind the other leave alone. -/
theorem below_then {w0 w1 w2 : World} (h : Below w0.heap.size w0 w1) (k : Below w1.heap.size w1 w2) : Below w0.heap.size w0 w2 := h.trans (k.mono h.size)
set_option maxHeartbeats 8000000 in
theorem texts_false (key val : Int) (w : World) (he : Env w) (hk : IntOk key) (hv : IntOk val) :
    Calls Tryd.prog 8 #[.agg #[.bool false, .int .i64 key, .int .i64 val]] w fun e w' => e = .returned (.bool true) ∧ Below w.heap.size w w' := by
  have HEN : Hid (∀ wx, Below w.heap.size w wx → Env wx) := Lib.hid (fun wx h => he.below h)
  have hb0 := box_below w (.cells #[.bool false, .int .i64 key, .int .i64 val] 52)
  have CS := Lib.hid (speaks4_any _ (he.below hb0))
  clear he
  obtain ⟨tk, htk⟩ : ∃ t : ByteArray, t = ⟨(Lib.itoa key).toArray⟩ := ⟨_, rfl⟩
  obtain ⟨tv, htv⟩ : ∃ t : ByteArray, t = ⟨(Lib.itoa val).toArray⟩ := ⟨_, rfl⟩
  have sk := itoa_short hk.1 hk.2 htk
  have sv := itoa_short hv.1 hv.2 htv
  have CK : Hid (∀ wx, Calls Tryd.prog 22 #[.int .i64 key] wx fun e w' => e = .returned (.string tk) ∧ Below wx.heap.size wx w') := Lib.hid (fun wx => by rw [htk]; exact rnum_any key wx hk.1 hk.2)
  have CV : Hid (∀ wx, Calls Tryd.prog 22 #[.int .i64 val] wx fun e w' => e = .returned (.string tv) ∧ Below wx.heap.size wx w') := Lib.hid (fun wx => by rw [htv]; exact rnum_any val wx hv.1 hv.2)
  have CT := Lib.hid (fun wx (h : Env wx) => text_any false key val wx h hk hv)
  have hts : (textB false key val).size ≤ 1 + 22 * 2 := joinB_size ⟨#[114]⟩ [key, val] (by intro n hn; simp at hn; rcases hn with rfl | rfl <;> assumption)
  have CP := Lib.hid (fun wx (h : Env wx) => parse_any (textB false key val) wx h (by omega))
  rw [parse_text] at CP
  have CR := Lib.hid (fun wx => right_any false key val wx)
  have CM := Lib.hid (fun wx => may_any false key val wx)
  have s1 : ¬ 9223372036854775807 < tk.size + 1 := by omega
  have s2 : ¬ 9223372036854775807 < tk.size + 1 + tv.size := by omega
  have s3 : ¬ 9223372036854775807 < 2 + (tk.size + 1 + tv.size) := by omega
  have HT : Hid ((⟨#[114, 32]⟩ : ByteArray) ++ ((tk ++ ⟨#[32]⟩) ++ tv) = textB false key val) := Lib.hid (by rw [htk, htv]; exact text_parts false key val 114 rfl)
  generalize textB false key val = T at *
  clear hts htk htv hk hv
  have hbx := opBlock w (.bool false) (.int .i64 key) (.int .i64 val) 52
  go_enter Tryd.func8, Tryd.ntmps8
  go_wp2_with fail
  refine (CS.out).mono ?_
  rintro e w1 ⟨rfl, hb1⟩
  have hb2 := below_then hb0 hb1
  obtain ⟨⟨b0, b1, b2⟩, _, _, _⟩ := op_cells (by simpa using hb1)
  have hlt : w.heap.size < w1.heap.size := block_lt b0
  clear hb0 hb1 CS hbx
  go_wp2_with fail
  have kk := Below.refl w1.heap.size w1
  go_region_held3 (fun w' => w'.cell? ⟨w.heap.size, 0, none⟩ = some (.bool false) ∧ w'.cell? ⟨w.heap.size, 1, none⟩ = some (.int .i64 key) ∧ w'.cell? ⟨w.heap.size, 2, none⟩ = some (.int .i64 val))
    (go_keep)
    (first
      | (go_at_call 22; (first | ((with_reducible refine (CK.out _).mono ?_); rintro e wx ⟨rfl, hbx⟩) | ((with_reducible refine (CV.out _).mono ?_); rintro e wx ⟨rfl, hbx⟩)); have kk : Below w1.heap.size w1 wx := (by first | exact below_then kk hbx | exact ⟨hbx.os, hbx.tape, hbx.output, hbx.size, hbx.block⟩); have k0 := (kk.cell (p := ⟨w.heap.size, 0, none⟩) hlt).trans b0; have k1 := (kk.cell (p := ⟨w.heap.size, 1, none⟩) hlt).trans b1; have k2 := (kk.cell (p := ⟨w.heap.size, 2, none⟩) hlt).trans b2))
  have hb3 := below_then hb2 kk
  have HK0 := Lib.hid k0
  have HK1 := Lib.hid k1
  have HK2 := Lib.hid k2
  clear kk k0 k1 k2 b0 b1 b2 hlt
  rw [HT.out]
  generalize wx = w3 at *
  cases hm : mayO ⟨false, key, val⟩
  · rw [hm] at CP CR CM
    clear hm
    go_wp2_with fail
    refine (CT.out _ (HEN.out _ hb3)).mono ?_
    rintro e w4 ⟨rfl, hb4⟩
    have hb5 := below_then hb3 hb4
    go_wp2_with fail
    refine (CP.out _ (HEN.out _ hb5)).mono ?_
    rintro e w5 ⟨rfl, hb6⟩
    have hb7 := below_then (below_then hb4 hb6) (box_below w5 (.cells #[.bool false, .int .i64 0, .int .i64 0] 52))
    have hb8 := below_then (below_then hb5 hb6) (box_below w5 (.cells #[.bool false, .int .i64 0, .int .i64 0] 52))
    have hlt3 : w.heap.size < w3.heap.size := block_lt HK0.out
    have hx := opBlock w5 (.bool false) (.int .i64 0) (.int .i64 0) 52
    clear hb4 hb5 hb6
    go_wp2_with fail
    simp only [opZ]
    generalize w5.alloc (.cells #[.bool false, .int .i64 0, .int .i64 0] 52) = w6 at *
    obtain ⟨x0, x1, x2⟩ := hx
    have b0 := (hb7.cell (p := ⟨w.heap.size, 0, none⟩) hlt3).trans HK0.out
    have b1 := (hb7.cell (p := ⟨w.heap.size, 1, none⟩) hlt3).trans HK1.out
    have b2 := (hb7.cell (p := ⟨w.heap.size, 2, none⟩) hlt3).trans HK2.out
    have hlt6 : w.heap.size < w6.heap.size := block_lt b0
    have HX : Hid (∀ wx, Below w6.heap.size w6 wx → wx.cell? ⟨w5.heap.size, 0, none⟩ = some (.bool false) ∧ wx.cell? ⟨w5.heap.size, 1, none⟩ = some (.int .i64 0) ∧ wx.cell? ⟨w5.heap.size, 2, none⟩ = some (.int .i64 0)) := Lib.hid (fun wx hb => ⟨(hb.cell (p := ⟨w5.heap.size, 0, none⟩) (block_lt x0)).trans x0, (hb.cell (p := ⟨w5.heap.size, 1, none⟩) (block_lt x1)).trans x1, (hb.cell (p := ⟨w5.heap.size, 2, none⟩) (block_lt x2)).trans x2⟩)
    clear x0 x1 x2 hb7
    have kk := Below.refl w6.heap.size w6
    have hz6 := hb8
    go_region_held3 (fun w' => w'.cell? ⟨w.heap.size, 0, none⟩ = some (.bool false) ∧ w'.cell? ⟨w.heap.size, 1, none⟩ = some (.int .i64 key) ∧ w'.cell? ⟨w.heap.size, 2, none⟩ = some (.int .i64 val))
      (go_keep)
      (first
        | (go_at_call 30; refine (CT.out _ (HEN.out _ (by first | exact hz6 | exact hz6.drew | exact below_drewN hz6 _))).mono ?_; rintro e wx ⟨rfl, hbx⟩; have kk : Below w6.heap.size w6 wx := (by first | exact below_then kk hbx | exact ⟨hbx.os, hbx.tape, hbx.output, hbx.size, hbx.block⟩); have k0 := (kk.cell (p := ⟨w.heap.size, 0, none⟩) hlt6).trans b0; have k1 := (kk.cell (p := ⟨w.heap.size, 1, none⟩) hlt6).trans b1; have k2 := (kk.cell (p := ⟨w.heap.size, 2, none⟩) hlt6).trans b2)
        | (go_at_call 31; refine (CR.out _).mono ?_; rintro e wx ⟨rfl, hbx⟩; have kk : Below w6.heap.size w6 wx := (by first | exact below_then kk hbx | exact ⟨hbx.os, hbx.tape, hbx.output, hbx.size, hbx.block⟩); have k0 := (kk.cell (p := ⟨w.heap.size, 0, none⟩) hlt6).trans b0; have k1 := (kk.cell (p := ⟨w.heap.size, 1, none⟩) hlt6).trans b1; have k2 := (kk.cell (p := ⟨w.heap.size, 2, none⟩) hlt6).trans b2)
        | (go_at_call 32; refine (CM.out _).mono ?_; rintro e wx ⟨rfl, hbx⟩; have kk : Below w6.heap.size w6 wx := (by first | exact below_then kk hbx | exact ⟨hbx.os, hbx.tape, hbx.output, hbx.size, hbx.block⟩); have k0 := (kk.cell (p := ⟨w.heap.size, 0, none⟩) hlt6).trans b0; have k1 := (kk.cell (p := ⟨w.heap.size, 1, none⟩) hlt6).trans b1; have k2 := (kk.cell (p := ⟨w.heap.size, 2, none⟩) hlt6).trans b2))
    have hb9 := below_then hb8 kk
    obtain ⟨x0, x1, x2⟩ := HX.out _ kk
    clear hbx
    go_wp2_with fail
    go_ret
    exact ⟨rfl, hb9⟩
  · rw [hm] at CP CR CM
    clear hm
    go_wp2_with fail
    refine (CT.out _ (HEN.out _ hb3)).mono ?_
    rintro e w4 ⟨rfl, hb4⟩
    have hb5 := below_then hb3 hb4
    go_wp2_with fail
    refine (CP.out _ (HEN.out _ hb5)).mono ?_
    rintro e w5 ⟨rfl, hb6⟩
    have hb7 := below_then (below_then hb4 hb6) (box_below w5 (.cells #[.bool false, .int .i64 key, .int .i64 val] 52))
    have hb8 := below_then (below_then hb5 hb6) (box_below w5 (.cells #[.bool false, .int .i64 key, .int .i64 val] 52))
    have hlt3 : w.heap.size < w3.heap.size := block_lt HK0.out
    have hx := opBlock w5 (.bool false) (.int .i64 key) (.int .i64 val) 52
    clear hb4 hb5 hb6
    go_wp2_with fail
    generalize w5.alloc (.cells #[.bool false, .int .i64 key, .int .i64 val] 52) = w6 at *
    obtain ⟨x0, x1, x2⟩ := hx
    have b0 := (hb7.cell (p := ⟨w.heap.size, 0, none⟩) hlt3).trans HK0.out
    have b1 := (hb7.cell (p := ⟨w.heap.size, 1, none⟩) hlt3).trans HK1.out
    have b2 := (hb7.cell (p := ⟨w.heap.size, 2, none⟩) hlt3).trans HK2.out
    have hlt6 : w.heap.size < w6.heap.size := block_lt b0
    have HX : Hid (∀ wx, Below w6.heap.size w6 wx → wx.cell? ⟨w5.heap.size, 0, none⟩ = some (.bool false) ∧ wx.cell? ⟨w5.heap.size, 1, none⟩ = some (.int .i64 key) ∧ wx.cell? ⟨w5.heap.size, 2, none⟩ = some (.int .i64 val)) := Lib.hid (fun wx hb => ⟨(hb.cell (p := ⟨w5.heap.size, 0, none⟩) (block_lt x0)).trans x0, (hb.cell (p := ⟨w5.heap.size, 1, none⟩) (block_lt x1)).trans x1, (hb.cell (p := ⟨w5.heap.size, 2, none⟩) (block_lt x2)).trans x2⟩)
    clear x0 x1 x2 hb7
    have kk := Below.refl w6.heap.size w6
    have hz6 := hb8
    go_region_held3 (fun w' => w'.cell? ⟨w.heap.size, 0, none⟩ = some (.bool false) ∧ w'.cell? ⟨w.heap.size, 1, none⟩ = some (.int .i64 key) ∧ w'.cell? ⟨w.heap.size, 2, none⟩ = some (.int .i64 val))
      (go_keep)
      (first
        | (go_at_call 30; refine (CT.out _ (HEN.out _ (by first | exact hz6 | exact hz6.drew | exact below_drewN hz6 _))).mono ?_; rintro e wx ⟨rfl, hbx⟩; have kk : Below w6.heap.size w6 wx := (by first | exact below_then kk hbx | exact ⟨hbx.os, hbx.tape, hbx.output, hbx.size, hbx.block⟩); have k0 := (kk.cell (p := ⟨w.heap.size, 0, none⟩) hlt6).trans b0; have k1 := (kk.cell (p := ⟨w.heap.size, 1, none⟩) hlt6).trans b1; have k2 := (kk.cell (p := ⟨w.heap.size, 2, none⟩) hlt6).trans b2)
        | (go_at_call 31; refine (CR.out _).mono ?_; rintro e wx ⟨rfl, hbx⟩; have kk : Below w6.heap.size w6 wx := (by first | exact below_then kk hbx | exact ⟨hbx.os, hbx.tape, hbx.output, hbx.size, hbx.block⟩); have k0 := (kk.cell (p := ⟨w.heap.size, 0, none⟩) hlt6).trans b0; have k1 := (kk.cell (p := ⟨w.heap.size, 1, none⟩) hlt6).trans b1; have k2 := (kk.cell (p := ⟨w.heap.size, 2, none⟩) hlt6).trans b2)
        | (go_at_call 32; refine (CM.out _).mono ?_; rintro e wx ⟨rfl, hbx⟩; have kk : Below w6.heap.size w6 wx := (by first | exact below_then kk hbx | exact ⟨hbx.os, hbx.tape, hbx.output, hbx.size, hbx.block⟩); have k0 := (kk.cell (p := ⟨w.heap.size, 0, none⟩) hlt6).trans b0; have k1 := (kk.cell (p := ⟨w.heap.size, 1, none⟩) hlt6).trans b1; have k2 := (kk.cell (p := ⟨w.heap.size, 2, none⟩) hlt6).trans b2))
    have hb9 := below_then hb8 kk
    obtain ⟨x0, x1, x2⟩ := HX.out _ kk
    clear hbx
    go_wp2_with fail
    go_ret
    exact ⟨rfl, hb9⟩
set_option maxHeartbeats 8000000 in
theorem texts_true (key val : Int) (w : World) (he : Env w) (hk : IntOk key) (hv : IntOk val) :
    Calls Tryd.prog 8 #[.agg #[.bool true, .int .i64 key, .int .i64 val]] w fun e w' => e = .returned (.bool true) ∧ Below w.heap.size w w' := by
  have HEN : Hid (∀ wx, Below w.heap.size w wx → Env wx) := Lib.hid (fun wx h => he.below h)
  have hb0 := box_below w (.cells #[.bool true, .int .i64 key, .int .i64 val] 52)
  have CS := Lib.hid (speaks4_any _ (he.below hb0))
  clear he
  obtain ⟨tk, htk⟩ : ∃ t : ByteArray, t = ⟨(Lib.itoa key).toArray⟩ := ⟨_, rfl⟩
  obtain ⟨tv, htv⟩ : ∃ t : ByteArray, t = ⟨(Lib.itoa val).toArray⟩ := ⟨_, rfl⟩
  have sk := itoa_short hk.1 hk.2 htk
  have sv := itoa_short hv.1 hv.2 htv
  have CK : Hid (∀ wx, Calls Tryd.prog 22 #[.int .i64 key] wx fun e w' => e = .returned (.string tk) ∧ Below wx.heap.size wx w') := Lib.hid (fun wx => by rw [htk]; exact rnum_any key wx hk.1 hk.2)
  have CV : Hid (∀ wx, Calls Tryd.prog 22 #[.int .i64 val] wx fun e w' => e = .returned (.string tv) ∧ Below wx.heap.size wx w') := Lib.hid (fun wx => by rw [htv]; exact rnum_any val wx hv.1 hv.2)
  have CT := Lib.hid (fun wx (h : Env wx) => text_any true key val wx h hk hv)
  have hts : (textB true key val).size ≤ 1 + 22 * 2 := joinB_size ⟨#[119]⟩ [key, val] (by intro n hn; simp at hn; rcases hn with rfl | rfl <;> assumption)
  have CP := Lib.hid (fun wx (h : Env wx) => parse_any (textB true key val) wx h (by omega))
  rw [parse_text] at CP
  have CR := Lib.hid (fun wx => right_any true key val wx)
  have CM := Lib.hid (fun wx => may_any true key val wx)
  have s1 : ¬ 9223372036854775807 < tk.size + 1 := by omega
  have s2 : ¬ 9223372036854775807 < tk.size + 1 + tv.size := by omega
  have s3 : ¬ 9223372036854775807 < 2 + (tk.size + 1 + tv.size) := by omega
  have HT : Hid ((⟨#[119, 32]⟩ : ByteArray) ++ ((tk ++ ⟨#[32]⟩) ++ tv) = textB true key val) := Lib.hid (by rw [htk, htv]; exact text_parts true key val 119 rfl)
  generalize textB true key val = T at *
  clear hts htk htv hk hv
  have hbx := opBlock w (.bool true) (.int .i64 key) (.int .i64 val) 52
  go_enter Tryd.func8, Tryd.ntmps8
  go_wp2_with fail
  refine (CS.out).mono ?_
  rintro e w1 ⟨rfl, hb1⟩
  have hb2 := below_then hb0 hb1
  obtain ⟨⟨b0, b1, b2⟩, _, _, _⟩ := op_cells (by simpa using hb1)
  have hlt : w.heap.size < w1.heap.size := block_lt b0
  clear hb0 hb1 CS hbx
  go_wp2_with fail
  have kk := Below.refl w1.heap.size w1
  go_region_held3 (fun w' => w'.cell? ⟨w.heap.size, 0, none⟩ = some (.bool true) ∧ w'.cell? ⟨w.heap.size, 1, none⟩ = some (.int .i64 key) ∧ w'.cell? ⟨w.heap.size, 2, none⟩ = some (.int .i64 val))
    (go_keep)
    (first
      | (go_at_call 22; (first | ((with_reducible refine (CK.out _).mono ?_); rintro e wx ⟨rfl, hbx⟩) | ((with_reducible refine (CV.out _).mono ?_); rintro e wx ⟨rfl, hbx⟩)); have kk : Below w1.heap.size w1 wx := (by first | exact below_then kk hbx | exact ⟨hbx.os, hbx.tape, hbx.output, hbx.size, hbx.block⟩); have k0 := (kk.cell (p := ⟨w.heap.size, 0, none⟩) hlt).trans b0; have k1 := (kk.cell (p := ⟨w.heap.size, 1, none⟩) hlt).trans b1; have k2 := (kk.cell (p := ⟨w.heap.size, 2, none⟩) hlt).trans b2))
  have hb3 := below_then hb2 kk
  have HK0 := Lib.hid k0
  have HK1 := Lib.hid k1
  have HK2 := Lib.hid k2
  clear kk k0 k1 k2 b0 b1 b2 hlt
  rw [HT.out]
  generalize wx = w3 at *
  cases hm : mayO ⟨true, key, val⟩
  · rw [hm] at CP CR CM
    clear hm
    go_wp2_with fail
    refine (CT.out _ (HEN.out _ hb3)).mono ?_
    rintro e w4 ⟨rfl, hb4⟩
    have hb5 := below_then hb3 hb4
    go_wp2_with fail
    refine (CP.out _ (HEN.out _ hb5)).mono ?_
    rintro e w5 ⟨rfl, hb6⟩
    have hb7 := below_then (below_then hb4 hb6) (box_below w5 (.cells #[.bool false, .int .i64 0, .int .i64 0] 52))
    have hb8 := below_then (below_then hb5 hb6) (box_below w5 (.cells #[.bool false, .int .i64 0, .int .i64 0] 52))
    have hlt3 : w.heap.size < w3.heap.size := block_lt HK0.out
    have hx := opBlock w5 (.bool false) (.int .i64 0) (.int .i64 0) 52
    clear hb4 hb5 hb6
    go_wp2_with fail
    simp only [opZ]
    generalize w5.alloc (.cells #[.bool false, .int .i64 0, .int .i64 0] 52) = w6 at *
    obtain ⟨x0, x1, x2⟩ := hx
    have b0 := (hb7.cell (p := ⟨w.heap.size, 0, none⟩) hlt3).trans HK0.out
    have b1 := (hb7.cell (p := ⟨w.heap.size, 1, none⟩) hlt3).trans HK1.out
    have b2 := (hb7.cell (p := ⟨w.heap.size, 2, none⟩) hlt3).trans HK2.out
    have hlt6 : w.heap.size < w6.heap.size := block_lt b0
    have HX : Hid (∀ wx, Below w6.heap.size w6 wx → wx.cell? ⟨w5.heap.size, 0, none⟩ = some (.bool false) ∧ wx.cell? ⟨w5.heap.size, 1, none⟩ = some (.int .i64 0) ∧ wx.cell? ⟨w5.heap.size, 2, none⟩ = some (.int .i64 0)) := Lib.hid (fun wx hb => ⟨(hb.cell (p := ⟨w5.heap.size, 0, none⟩) (block_lt x0)).trans x0, (hb.cell (p := ⟨w5.heap.size, 1, none⟩) (block_lt x1)).trans x1, (hb.cell (p := ⟨w5.heap.size, 2, none⟩) (block_lt x2)).trans x2⟩)
    clear x0 x1 x2 hb7
    have kk := Below.refl w6.heap.size w6
    have hz6 := hb8
    go_region_held3 (fun w' => w'.cell? ⟨w.heap.size, 0, none⟩ = some (.bool true) ∧ w'.cell? ⟨w.heap.size, 1, none⟩ = some (.int .i64 key) ∧ w'.cell? ⟨w.heap.size, 2, none⟩ = some (.int .i64 val))
      (go_keep)
      (first
        | (go_at_call 30; refine (CT.out _ (HEN.out _ (by first | exact hz6 | exact hz6.drew | exact below_drewN hz6 _))).mono ?_; rintro e wx ⟨rfl, hbx⟩; have kk : Below w6.heap.size w6 wx := (by first | exact below_then kk hbx | exact ⟨hbx.os, hbx.tape, hbx.output, hbx.size, hbx.block⟩); have k0 := (kk.cell (p := ⟨w.heap.size, 0, none⟩) hlt6).trans b0; have k1 := (kk.cell (p := ⟨w.heap.size, 1, none⟩) hlt6).trans b1; have k2 := (kk.cell (p := ⟨w.heap.size, 2, none⟩) hlt6).trans b2)
        | (go_at_call 31; refine (CR.out _).mono ?_; rintro e wx ⟨rfl, hbx⟩; have kk : Below w6.heap.size w6 wx := (by first | exact below_then kk hbx | exact ⟨hbx.os, hbx.tape, hbx.output, hbx.size, hbx.block⟩); have k0 := (kk.cell (p := ⟨w.heap.size, 0, none⟩) hlt6).trans b0; have k1 := (kk.cell (p := ⟨w.heap.size, 1, none⟩) hlt6).trans b1; have k2 := (kk.cell (p := ⟨w.heap.size, 2, none⟩) hlt6).trans b2)
        | (go_at_call 32; refine (CM.out _).mono ?_; rintro e wx ⟨rfl, hbx⟩; have kk : Below w6.heap.size w6 wx := (by first | exact below_then kk hbx | exact ⟨hbx.os, hbx.tape, hbx.output, hbx.size, hbx.block⟩); have k0 := (kk.cell (p := ⟨w.heap.size, 0, none⟩) hlt6).trans b0; have k1 := (kk.cell (p := ⟨w.heap.size, 1, none⟩) hlt6).trans b1; have k2 := (kk.cell (p := ⟨w.heap.size, 2, none⟩) hlt6).trans b2))
    have hb9 := below_then hb8 kk
    obtain ⟨x0, x1, x2⟩ := HX.out _ kk
    clear hbx
    go_wp2_with fail
    go_ret
    exact ⟨rfl, hb9⟩
  · rw [hm] at CP CR CM
    clear hm
    go_wp2_with fail
    refine (CT.out _ (HEN.out _ hb3)).mono ?_
    rintro e w4 ⟨rfl, hb4⟩
    have hb5 := below_then hb3 hb4
    go_wp2_with fail
    refine (CP.out _ (HEN.out _ hb5)).mono ?_
    rintro e w5 ⟨rfl, hb6⟩
    have hb7 := below_then (below_then hb4 hb6) (box_below w5 (.cells #[.bool true, .int .i64 key, .int .i64 val] 52))
    have hb8 := below_then (below_then hb5 hb6) (box_below w5 (.cells #[.bool true, .int .i64 key, .int .i64 val] 52))
    have hlt3 : w.heap.size < w3.heap.size := block_lt HK0.out
    have hx := opBlock w5 (.bool true) (.int .i64 key) (.int .i64 val) 52
    clear hb4 hb5 hb6
    go_wp2_with fail
    generalize w5.alloc (.cells #[.bool true, .int .i64 key, .int .i64 val] 52) = w6 at *
    obtain ⟨x0, x1, x2⟩ := hx
    have b0 := (hb7.cell (p := ⟨w.heap.size, 0, none⟩) hlt3).trans HK0.out
    have b1 := (hb7.cell (p := ⟨w.heap.size, 1, none⟩) hlt3).trans HK1.out
    have b2 := (hb7.cell (p := ⟨w.heap.size, 2, none⟩) hlt3).trans HK2.out
    have hlt6 : w.heap.size < w6.heap.size := block_lt b0
    have HX : Hid (∀ wx, Below w6.heap.size w6 wx → wx.cell? ⟨w5.heap.size, 0, none⟩ = some (.bool true) ∧ wx.cell? ⟨w5.heap.size, 1, none⟩ = some (.int .i64 key) ∧ wx.cell? ⟨w5.heap.size, 2, none⟩ = some (.int .i64 val)) := Lib.hid (fun wx hb => ⟨(hb.cell (p := ⟨w5.heap.size, 0, none⟩) (block_lt x0)).trans x0, (hb.cell (p := ⟨w5.heap.size, 1, none⟩) (block_lt x1)).trans x1, (hb.cell (p := ⟨w5.heap.size, 2, none⟩) (block_lt x2)).trans x2⟩)
    clear x0 x1 x2 hb7
    have kk := Below.refl w6.heap.size w6
    have hz6 := hb8
    go_region_held3 (fun w' => w'.cell? ⟨w.heap.size, 0, none⟩ = some (.bool true) ∧ w'.cell? ⟨w.heap.size, 1, none⟩ = some (.int .i64 key) ∧ w'.cell? ⟨w.heap.size, 2, none⟩ = some (.int .i64 val))
      (go_keep)
      (first
        | (go_at_call 30; refine (CT.out _ (HEN.out _ (by first | exact hz6 | exact hz6.drew | exact below_drewN hz6 _))).mono ?_; rintro e wx ⟨rfl, hbx⟩; have kk : Below w6.heap.size w6 wx := (by first | exact below_then kk hbx | exact ⟨hbx.os, hbx.tape, hbx.output, hbx.size, hbx.block⟩); have k0 := (kk.cell (p := ⟨w.heap.size, 0, none⟩) hlt6).trans b0; have k1 := (kk.cell (p := ⟨w.heap.size, 1, none⟩) hlt6).trans b1; have k2 := (kk.cell (p := ⟨w.heap.size, 2, none⟩) hlt6).trans b2)
        | (go_at_call 31; refine (CR.out _).mono ?_; rintro e wx ⟨rfl, hbx⟩; have kk : Below w6.heap.size w6 wx := (by first | exact below_then kk hbx | exact ⟨hbx.os, hbx.tape, hbx.output, hbx.size, hbx.block⟩); have k0 := (kk.cell (p := ⟨w.heap.size, 0, none⟩) hlt6).trans b0; have k1 := (kk.cell (p := ⟨w.heap.size, 1, none⟩) hlt6).trans b1; have k2 := (kk.cell (p := ⟨w.heap.size, 2, none⟩) hlt6).trans b2)
        | (go_at_call 32; refine (CM.out _).mono ?_; rintro e wx ⟨rfl, hbx⟩; have kk : Below w6.heap.size w6 wx := (by first | exact below_then kk hbx | exact ⟨hbx.os, hbx.tape, hbx.output, hbx.size, hbx.block⟩); have k0 := (kk.cell (p := ⟨w.heap.size, 0, none⟩) hlt6).trans b0; have k1 := (kk.cell (p := ⟨w.heap.size, 1, none⟩) hlt6).trans b1; have k2 := (kk.cell (p := ⟨w.heap.size, 2, none⟩) hlt6).trans b2))
    have hb9 := below_then hb8 kk
    obtain ⟨x0, x1, x2⟩ := HX.out _ kk
    clear hbx
    go_wp2_with fail
    go_ret
    exact ⟨rfl, hb9⟩
end Go.Proofs.YtjfegknokombgaaDoor
