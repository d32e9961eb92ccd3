/- The walk of the statement on which transactions may be, and on their texts: it answers true. Conditions: the library's table of tens lies as it is laid; numbers are ints; a slice's cells are known, and hold operations of ints. -/
import Derived.Test.YtcaomjieambomaaDoorTxnQ
import Derived.Deep.CutRange
namespace Go.Proofs.YtcaomjieambomaaDoor
set_option maxRecDepth 100000
open Go.RowKit

theorem itoa_len21 {n : Int} (h : IntOk n) {t : ByteArray} (ht : t = ⟨(Lib.itoa n).toArray⟩) : t.size ≤ 21 := by
  subst ht
  have := Lib.itoa_length_le n h.1 h.2
  simp only [ByteArray.size, List.size_toArray]; omega
def headB5 (s b c : Int) : ByteArray := ⟨(headTxt s b c).toArray⟩
theorem head_parts (s b c : Int) : ((((((⟨#[116, 120, 110, 32]⟩ : ByteArray) ++ ⟨(Lib.itoa s).toArray⟩) ++ ⟨#[32]⟩) ++ ⟨(Lib.itoa b).toArray⟩) ++ ⟨#[32]⟩) ++ ⟨(Lib.itoa c).toArray⟩) ++ ⟨#[10]⟩ = headB5 s b c := by
  apply byteArray_ext
  unfold headB5 headTxt joinTo
  simp
set_option maxHeartbeats 8000000 in
theorem right5_walk (s b c : Int) (va : Value) (l : List OpV) (w : World) (he : Ten w) (ha : Ops w va l) (hok : ∀ o ∈ l, o.ok) (hs : IntOk s) (hb : IntOk b) (hc : IntOk c) :
    Calls Tryd.prog 4 #[.agg #[.int .i64 s, .int .i64 b, .int .i64 c, va]] w fun e w' => e = .returned (.bool true) ∧ Below w.heap.size w w' := by
  obtain ⟨ao, cap, rfl, hal⟩ := ha.form
  have HEN : Hid (∀ wx, Below w.heap.size w wx → Ten wx) := Lib.hid (fun wx h => he.below h)
  have hb0 := box_below w (.cells #[.int .i64 s, .int .i64 b, .int .i64 c, .slice ao l.length cap] 26)
  have CS := Lib.hid (speaks5_any _ (he.below hb0))
  obtain ⟨x0, x1, x2, x3⟩ := txnBlock w (.int .i64 s) (.int .i64 b) (.int .i64 c) (.slice ao l.length cap) 26
  obtain ⟨ts, hts⟩ : ∃ t : ByteArray, t = ⟨(Lib.itoa s).toArray⟩ := ⟨_, rfl⟩
  obtain ⟨tb, htb⟩ : ∃ t : ByteArray, t = ⟨(Lib.itoa b).toArray⟩ := ⟨_, rfl⟩
  obtain ⟨tc, htc⟩ : ∃ t : ByteArray, t = ⟨(Lib.itoa c).toArray⟩ := ⟨_, rfl⟩
  have ss := itoa_len21 hs hts
  have sb := itoa_len21 hb htb
  have sc := itoa_len21 hc htc
  have C1 : Hid (∀ wx, Calls Tryd.prog 15 #[.int .i64 s] wx fun e w' => e = .returned (.string ts) ∧ Below wx.heap.size wx w') := Lib.hid (fun wx => by rw [hts]; exact rnum_any s wx hs.1 hs.2)
  have C2 : Hid (∀ wx, Calls Tryd.prog 15 #[.int .i64 b] wx fun e w' => e = .returned (.string tb) ∧ Below wx.heap.size wx w') := Lib.hid (fun wx => by rw [htb]; exact rnum_any b wx hb.1 hb.2)
  have C3 : Hid (∀ wx, Calls Tryd.prog 15 #[.int .i64 c] wx fun e w' => e = .returned (.string tc) ∧ Below wx.heap.size wx w') := Lib.hid (fun wx => by rw [htc]; exact rnum_any c wx hc.1 hc.2)
  have HT : Hid (((((((⟨#[116, 120, 110, 32]⟩ : ByteArray) ++ ts) ++ ⟨#[32]⟩) ++ tb) ++ ⟨#[32]⟩) ++ tc) ++ ⟨#[10]⟩ = headB5 s b c) := Lib.hid (by rw [hts, htb, htc]; exact head_parts s b c)
  have HOK := Lib.hid hok
  have HIS := Lib.hid (And.intro hs (And.intro hb hc))
  clear he hts htb htc hs hb hc hok
  go_enter Tryd.func4, Tryd.ntmps4
  go_wp2_with fail
  refine (CS.out).mono ?_
  rintro e w1 ⟨rfl, hb1⟩
  have hk1 := below_then hb0 hb1
  have y0 := (hb1.cell (p := ⟨w.heap.size, 0, none⟩) (block_lt x0)).trans x0
  have y1 := (hb1.cell (p := ⟨w.heap.size, 1, none⟩) (block_lt x1)).trans x1
  have y2 := (hb1.cell (p := ⟨w.heap.size, 2, none⟩) (block_lt x2)).trans x2
  have y3 := (hb1.cell (p := ⟨w.heap.size, 3, none⟩) (block_lt x3)).trans x3
  clear CS hb0 hb1 x0 x1 x2 x3
  by_cases hbig : 100 < l.length
  · have hbig' : (100 : Int) < (l.length : Int) := by omega
    go_wp2_with fail
    go_ret
    exact ⟨rfl, hk1⟩
  have hbf : decide ((100 : Int) < (l.length : Int)) = false := by simp; omega
  have HA1 := Lib.hid (ha.below hk1)
  go_upto_region 5 with fail
  go_cut [3] from 13 to 55 (fun v wx => v = .bool (mayT s b c l) ∧ Below w1.heap.size w1 wx)
  case first =>
    by_cases d0 : 0 ≤ s
    case neg =>
      have H := Lib.hid (mayT_no (s := s) (b := b) (c := c) (l := l) (fun h => d0 (by omega)))
      go_wp2_with fail
      go_meet
      exact ⟨by rw [H.out], Below.refl _ _⟩
    by_cases d1 : s < 64
    case neg =>
      have H := Lib.hid (mayT_no (s := s) (b := b) (c := c) (l := l) (fun h => d1 (by omega)))
      go_wp2_with fail
      go_meet
      exact ⟨by rw [H.out], Below.refl _ _⟩
    by_cases d2 : 0 ≤ b
    case neg =>
      have H := Lib.hid (mayT_no (s := s) (b := b) (c := c) (l := l) (fun h => d2 (by omega)))
      go_wp2_with fail
      go_meet
      exact ⟨by rw [H.out], Below.refl _ _⟩
    by_cases d3 : b < c
    case neg =>
      have H := Lib.hid (mayT_no (s := s) (b := b) (c := c) (l := l) (fun h => d3 (by omega)))
      go_wp2_with fail
      go_meet
      exact ⟨by rw [H.out], Below.refl _ _⟩
    by_cases d4 : c ≤ 2147483647
    case neg =>
      have H := Lib.hid (mayT_no (s := s) (b := b) (c := c) (l := l) (fun h => d4 (by omega)))
      go_wp2_with fail
      go_meet
      exact ⟨by rw [H.out], Below.refl _ _⟩
    by_cases d5 : (1 : Int) ≤ (l.length : Int)
    case neg =>
      have H := Lib.hid (mayT_no (s := s) (b := b) (c := c) (l := l) (fun h => d5 (by omega)))
      go_wp2_with fail
      go_meet
      exact ⟨by rw [H.out], Below.refl _ _⟩
    by_cases d6 : (l.length : Int) ≤ 64
    case neg =>
      have H := Lib.hid (mayT_no (s := s) (b := b) (c := c) (l := l) (fun h => d6 (by omega)))
      go_wp2_with fail
      go_meet
      exact ⟨by rw [H.out], Below.refl _ _⟩
    have H : Hid (mayT s b c l = (mayI (allM l) == 1)) := Lib.hid (by rw [mayT_yes (by omega)]; cases allM l <;> rfl)
    have CM := Lib.hid (may5_any _ l w1 HA1.out)
    go_wp2_with fail
    refine (CM.out).mono ?_
    rintro e w2 ⟨rfl, hb2⟩
    go_wp2_with fail
    go_meet
    exact ⟨by rw [H.out], hb2⟩
  case rest =>
  obtain ⟨rfl, hbw⟩ := hcut
  have hk2 := below_then hk1 hbw
  have z0 := (hbw.cell (p := ⟨w.heap.size, 0, none⟩) (block_lt y0)).trans y0
  have z1 := (hbw.cell (p := ⟨w.heap.size, 1, none⟩) (block_lt y1)).trans y1
  have z2 := (hbw.cell (p := ⟨w.heap.size, 2, none⟩) (block_lt y2)).trans y2
  have z3 := (hbw.cell (p := ⟨w.heap.size, 3, none⟩) (block_lt y3)).trans y3
  clear y0 y1 y2 y3 hk1 hbw HA1
  generalize wc = w2 at *
  have hlt := block_lt z0
  have kk := Below.refl w2.heap.size w2
  have s1 : ¬ 9223372036854775807 < 4 + ts.size := by omega
  have s2 : ¬ 9223372036854775807 < 4 + ts.size + 1 := by omega
  have s3 : ¬ 9223372036854775807 < 4 + ts.size + 1 + tb.size := by omega
  have s4 : ¬ 9223372036854775807 < 4 + ts.size + 1 + tb.size + 1 := by omega
  have s5 : ¬ 9223372036854775807 < 4 + ts.size + 1 + tb.size + 1 + tc.size := by omega
  have s6 : ¬ 9223372036854775807 < 4 + ts.size + 1 + tb.size + 1 + tc.size + 1 := by omega
  go_wp2_with fail
  go_region_held3 (fun w' => w'.cell? ⟨w.heap.size, 0, none⟩ = some (.int .i64 s) ∧ w'.cell? ⟨w.heap.size, 1, none⟩ = some (.int .i64 b) ∧ w'.cell? ⟨w.heap.size, 2, none⟩ = some (.int .i64 c) ∧ w'.cell? ⟨w.heap.size, 3, none⟩ = some (.slice ao l.length cap))
    (go_keep)
    (first
      | (go_at_call 15; (first | ((with_reducible refine (C1.out _).mono ?_); rintro e wx ⟨rfl, hbx⟩) | ((with_reducible refine (C2.out _).mono ?_); rintro e wx ⟨rfl, hbx⟩) | ((with_reducible refine (C3.out _).mono ?_); rintro e wx ⟨rfl, hbx⟩)); have kk : Below w2.heap.size w2 wx := (by first | exact below_then kk hbx | exact below_then kk ⟨hbx.os, hbx.tape, hbx.output, hbx.size, hbx.block⟩); have n0 := (kk.cell (p := ⟨w.heap.size, 0, none⟩) hlt).trans z0; have n1 := (kk.cell (p := ⟨w.heap.size, 1, none⟩) hlt).trans z1; have n2 := (kk.cell (p := ⟨w.heap.size, 2, none⟩) hlt).trans z2; have n3 := (kk.cell (p := ⟨w.heap.size, 3, none⟩) hlt).trans z3))
  rw [HT.out]
  have HT0 : Hid (headB5 s b c = txnTxt s b c (l.take 0)) := Lib.hid (by unfold headB5 txnTxt; rw [List.take_zero]; simp [opsTxt])
  clear HT
  generalize headB5 s b c = T0 at *
  have HHL : Hid ((headTxt s b c).length ≤ 80) := Lib.hid (headTxt_len s b c HIS.out.1 HIS.out.2.1 HIS.out.2.2)
  clear hbf hbx C1 C2 C3 s1 s2 s3 s4 s5 s6 ss sb sc
  go_wp2_with fail
  go_loopw [4, 74] (fun t i wr => ∃ k : Nat, k ≤ l.length ∧ i = .int .i64 k ∧ t = .string (txnTxt s b c (l.take k)) ∧ Below w2.heap.size w2 wr) (fun _ i _ => l.length - (intOf i).toNat)
  case atStart => exact ⟨0, by omega, rfl, by rw [HT0.out], kk⟩
  case round =>
    obtain ⟨k, hk, rfl, rfl, kr⟩ := hrel
    have hbr := below_then hk2 kr
    by_cases hlt' : k < l.length
    · have hki : (k : Int) < (l.length : Int) := by omega
      obtain ⟨g, o, hao, c0, c1, c2⟩ := (ha.below hbr).at hlt'
      cases hao
      have HS : Hid (txnTxt s b c (l.take (k + 1)) = txnTxt s b c (l.take k) ++ (textB l[k].wr l[k].key l[k].val ++ ⟨#[10]⟩)) := Lib.hid (by
        apply byteArray_ext
        unfold txnTxt
        rw [opsTxt_succ l k hlt']
        simp)
      have hol := opsTxt_len (l.take k) (fun o ho => HOK.out o (List.mem_of_mem_take ho))
      rw [List.length_take, Nat.min_eq_left hk] at hol
      have hol2 : (txnTxt s b c (l.take k)).size ≤ 80 + 46 * k := by
        have := HHL.out
        unfold txnTxt
        simp only [ByteArray.size, List.size_toArray, List.length_append]
        omega
      have hox := HOK.out l[k] (List.getElem_mem hlt')
      have hts := textB_size l[k] hox
      generalize txnTxt s b c (l.take k) = B at *
      generalize l[k] = x at *
      obtain ⟨xw, xk, xv⟩ := x
      try simp only at c0 c1 c2
      have hbx := hbr.alloc hbr.size (.cells #[.bool xw, .int .i64 xk, .int .i64 xv] 33)
      have kx := kr.alloc kr.size (.cells #[.bool xw, .int .i64 xk, .int .i64 xv] 33)
      have CT := Lib.hid (text_ten xw xk xv _ (HEN.out _ hbx) hox.1 hox.2)
      generalize textB xw xk xv = t at *
      have s1 : ¬ 9223372036854775807 < t.size + 1 := by omega
      have s2 : ¬ 9223372036854775807 < B.size + (t.size + 1) := by omega
      clear hox hol hol2 hts hbx hbr
      go_wp2_with fail
      refine (CT.out).mono ?_
      rintro e w7 ⟨rfl, hb7⟩
      have k7 := below_then kx hb7
      clear CT hb7 kx
      go_wp2_with fail
      go_roundw
      case rel => exact ⟨k + 1, by omega, by go_num, by rw [HS.out], k7⟩
      case measure => simp [intOf]; omega
    · have hkl : k = l.length := by omega
      subst hkl
      rw [List.take_length]
      have e0 := (kr.cell (p := ⟨w.heap.size, 0, none⟩) hlt).trans z0
      have e1 := (kr.cell (p := ⟨w.heap.size, 1, none⟩) hlt).trans z1
      have e2 := (kr.cell (p := ⟨w.heap.size, 2, none⟩) hlt).trans z2
      have e3 := (kr.cell (p := ⟨w.heap.size, 3, none⟩) hlt).trans z3
      have CR := Lib.hid (tright_any s b c _ l wr (ha.below hbr))
      have HA := Lib.hid (fun wx (h : Below wr.heap.size wr wx) => ha.below (below_then hbr h))
      have hltr : w.heap.size < wr.heap.size := block_lt e0
      generalize mayT s b c l = q at *
      have hqq : (q == q) = true := by simp
      clear kk n0 n1 n2 n3 z0 z1 z2 z3
      go_wp2_with fail
      refine (CR.out).mono ?_
      rintro e w8 ⟨rfl, hb8⟩
      have f0 := (hb8.cell (p := ⟨w.heap.size, 0, none⟩) hltr).trans e0
      have f1 := (hb8.cell (p := ⟨w.heap.size, 1, none⟩) hltr).trans e1
      have f2 := (hb8.cell (p := ⟨w.heap.size, 2, none⟩) hltr).trans e2
      have f3 := (hb8.cell (p := ⟨w.heap.size, 3, none⟩) hltr).trans e3
      have hb9 := below_then hbr hb8
      have CM := Lib.hid (may5_any _ l w8 (HA.out _ hb8))
      have hlt8 : w.heap.size < w8.heap.size := block_lt f0
      clear CR e0 e1 e2 e3
      cases hall : allM l
      · rw [hall] at CM
        change Hid (Calls _ _ _ _ fun e w' => e = .returned (.int .i64 0) ∧ _) at CM
        clear hall
        go_wp2_with fail
        refine (CM.out).mono ?_
        rintro e w9 ⟨rfl, hb10⟩
        have hb11 := below_then hb9 hb10
        go_wp2_with fail
        go_ret
        exact ⟨rfl, hb11⟩
      · rw [hall] at CM
        change Hid (Calls _ _ _ _ fun e w' => e = .returned (.int .i64 1) ∧ _) at CM
        clear hall
        go_wp2_with fail
        refine (CM.out).mono ?_
        rintro e w9 ⟨rfl, hb10⟩
        have hb11 := below_then hb9 hb10
        have g0 := (hb10.cell (p := ⟨w.heap.size, 0, none⟩) hlt8).trans f0
        have g1 := (hb10.cell (p := ⟨w.heap.size, 1, none⟩) hlt8).trans f1
        have g2 := (hb10.cell (p := ⟨w.heap.size, 2, none⟩) hlt8).trans f2
        have g3 := (hb10.cell (p := ⟨w.heap.size, 3, none⟩) hlt8).trans f3
        have CT := Lib.hid (ttext_any s b c _ l w9 (HEN.out _ hb11) (ha.below hb11) HOK.out HIS.out.1 HIS.out.2.1 HIS.out.2.2 (by omega))
        generalize txnTxt s b c l = T at *
        clear CM f0 f1 f2 f3
        go_wp2_with fail
        refine (CT.out).mono ?_
        rintro e wz ⟨rfl, hbz⟩
        have hb12 := below_then hb11 hbz
        go_wp2_with fail
        go_ret
        exact ⟨rfl, hb12⟩
end Go.Proofs.YtcaomjieambomaaDoor
