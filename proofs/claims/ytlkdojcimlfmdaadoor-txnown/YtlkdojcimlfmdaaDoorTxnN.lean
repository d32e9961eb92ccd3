/- The walk of a transaction in words. Conditions: the library's table of tens lies as it is laid; a slice's cells are known, and hold operations of ints; there are at most 100000. -/
import Derived.Test.YtlkdojcimlfmdaaDoorTxnL
import Derived.Test.YtlkdojcimlfmdaaDoorJoinZ
namespace Go.Proofs.YtlkdojcimlfmdaaDoor
set_option maxRecDepth 100000
open Go.RowKit

/-- Operations in words, a line each; a transaction in words. -/
def opsTxt (l : List OpV) : List UInt8 := l.flatMap fun o => (textB o.wr o.key o.val).data.toList ++ [10]
def headTxt (s b c : Int) : List UInt8 := joinTo [116, 120, 110] [s, b, c] ++ [10]
def txnTxt (s b c : Int) (l : List OpV) : ByteArray := ⟨(headTxt s b c ++ opsTxt l).toArray⟩
theorem opsTxt_succ (l : List OpV) (k : Nat) (hk : k < l.length) : opsTxt (l.take (k + 1)) = opsTxt (l.take k) ++ (textB l[k].wr l[k].key l[k].val).data.toList ++ [10] := by
  unfold opsTxt; rw [take_snoc l k hk, List.flatMap_append]; simp
theorem textB_size (o : OpV) (h : o.ok) : (textB o.wr o.key o.val).size ≤ 45 := by
  have hl := joinTo_len (if o.wr then (⟨#[119]⟩ : ByteArray) else ⟨#[114]⟩).data.toList [o.key, o.val] (by intro n hn; simp at hn; rcases hn with rfl | rfl; exact h.1; exact h.2)
  have e : (if o.wr then (⟨#[119]⟩ : ByteArray) else ⟨#[114]⟩).data.toList.length = 1 := by cases o.wr <;> rfl
  rw [e] at hl
  unfold textB joinB
  simp only [ByteArray.size, List.size_toArray]
  simpa using hl
theorem opsTxt_len : ∀ (l : List OpV), (∀ o ∈ l, o.ok) → (opsTxt l).length ≤ 46 * l.length
  | [], _ => by simp [opsTxt]
  | a :: l, h => by
    have h1 := opsTxt_len l (fun o ho => h o (List.mem_cons_of_mem _ ho))
    have h2 := textB_size a (h a List.mem_cons_self)
    rw [Lib.size_eq] at h2
    unfold opsTxt at *
    simp only [List.flatMap_cons, List.length_append, List.length_cons, List.length_nil] at *
    omega
theorem headTxt_len (s b c : Int) (hs : IntOk s) (hb : IntOk b) (hc : IntOk c) : (headTxt s b c).length ≤ 80 := by
  have := joinTo_len [116, 120, 110] [s, b, c] (by intro n hn; simp at hn; rcases hn with rfl | rfl | rfl <;> assumption)
  unfold headTxt; simp at *; omega
set_option maxHeartbeats 8000000 in
theorem ttext_any (s b c : Int) (va : Value) (l : List OpV) (w : World) (he : Ten w) (ha : Ops w va l) (hok : ∀ o ∈ l, o.ok) (hs : IntOk s) (hb : IntOk b) (hc : IntOk c) (hlen : l.length ≤ 100000) :
    Calls Tryd.prog 24 #[.agg #[.int .i64 s, .int .i64 b, .int .i64 c, va]] w fun e w' => e = .returned (.string (txnTxt s b c l)) ∧ Below w.heap.size w w' := by
  obtain ⟨ao, cap, rfl, hal⟩ := ha.form
  have HOK := Lib.hid hok
  have HEN : Hid (∀ wx, Below w.heap.size w wx → Ten wx) := Lib.hid (fun wx h => he.below h)
  have hhl := headTxt_len s b c hs hb hc
  have HL : Hid (∀ k, k ≤ l.length → (opsTxt (l.take k)).length ≤ 46 * k) := Lib.hid (fun k hk => by
    have := opsTxt_len (l.take k) (fun o ho => hok o (List.mem_of_mem_take ho))
    rw [List.length_take, Nat.min_eq_left hk] at this; exact this)
  have hw1 := (Below.refl w.heap.size w).alloc (Nat.le_refl _) (.cells #[.int .i64 s, .int .i64 b, .int .i64 c, .slice ao l.length cap] 29)
  have hB1 := bld_new (w.alloc (.cells #[.int .i64 s, .int .i64 b, .int .i64 c, .slice ao l.length cap] 29))
  obtain ⟨t0, t1, t2, t3⟩ := txnBlock w (.int .i64 s) (.int .i64 b) (.int .i64 c) (.slice ao l.length cap) 29
  rw [show (w.alloc (.cells #[.int .i64 s, .int .i64 b, .int .i64 c, .slice ao l.length cap] 29)).heap.size = w.heap.size + 1 from by simp] at hB1
  have hw2 := hw1.alloc hw1.size (.cells #[.pointer none, .slice none 0 0] 67)
  have HI : Hid (∀ wx : World, Ints (wx.alloc (.cells #[.int .i64 s, .int .i64 b, .int .i64 c] 3)) (.slice (some ⟨wx.heap.size, 0, none⟩) 3 3) [s, b, c]) := Lib.hid (fun wx => ints_lit wx [s, b, c] #[.int .i64 s, .int .i64 b, .int .i64 c] 3 rfl rfl (by decide))
  have HIO : Hid (∀ n ∈ [s, b, c], IntOk n) := Lib.hid (by intro n hn; simp at hn; rcases hn with rfl | rfl | rfl <;> assumption)
  clear hok he hs hb hc
  go_enter Tryd.func24, Tryd.ntmps24
  go_wp2_with fail
  have HSZ : Hid (((w.alloc (.cells #[.int .i64 s, .int .i64 b, .int .i64 c, .slice ao l.length cap] 29)).alloc (.cells #[.pointer none, .slice none 0 0] 67)).heap.size = w.heap.size + 1 + 1) := Lib.hid (by simp)
  have t3' := ((box_below (w.alloc (.cells #[.int .i64 s, .int .i64 b, .int .i64 c, .slice ao l.length cap] 29)) (.cells #[.pointer none, .slice none 0 0] 67)).cell (p := ⟨w.heap.size, 3, none⟩) (block_lt t3)).trans t3
  clear t0 t1 t2 t3 hw1
  generalize (w.alloc (.cells #[.int .i64 s, .int .i64 b, .int .i64 c, .slice ao l.length cap] 29)).alloc (.cells #[.pointer none, .slice none 0 0] 67) = w2 at *
  rw [← HSZ.out]
  have hw3 := hw2.alloc hw2.size (.cells #[.int .i64 s, .int .i64 b, .int .i64 c] 3)
  refine (join_ten ⟨#[116, 120, 110]⟩ _ [s, b, c] _ (HEN.out _ hw3) (HI.out w2) HIO.out (by simp [ByteArray.size])).mono ?_
  rintro e w4 ⟨rfl, hb4⟩
  have hw4 := below_then hw3 hb4
  have hbb4 := below_then ((Below.refl w2.heap.size w2).alloc (Nat.le_refl _) (.cells #[.int .i64 s, .int .i64 b, .int .i64 c] 3)) hb4
  have hB4 := hB1.grown hbb4
  have t4 := (hbb4.cell (p := ⟨w.heap.size, 3, none⟩) (block_lt t3')).trans t3'
  have CW := Lib.hid (write_any (w.heap.size + 1) (w.heap.size + 1) [] (joinB ⟨#[116, 120, 110]⟩ [s, b, c]) w4 hB4 (by
    have := headTxt_len s b c (HIO.out s (by simp)) (HIO.out b (by simp)) (HIO.out c (by simp))
    have h2 : (headTxt s b c).length = (joinB ⟨#[116, 120, 110]⟩ [s, b, c]).size + 1 := by unfold headTxt joinB; simp [ByteArray.size]
    rw [List.length_nil]; omega))
  have HJ : Hid ((joinB ⟨#[116, 120, 110]⟩ [s, b, c]).data.toList ++ [10] = headTxt s b c) := Lib.hid (by unfold headTxt joinB; simp)
  clear hB1 hB4 hw2 hw3 hb4 hbb4 t3' HI HIO HSZ
  generalize joinB ⟨#[116, 120, 110]⟩ [s, b, c] = J at *
  go_wp2_with fail
  refine (CW.out).mono ?_
  rintro e w5 ⟨rfl, hB5, hb5⟩
  have hw5 := hw4.trans (hb5.mono (by omega))
  have t5 := (hb5.cell (p := ⟨w.heap.size, 3, none⟩) (by show w.heap.size < w.heap.size + 1; omega)).trans t4
  rw [List.nil_append] at hB5
  have hjl : Hid (J.data.toList.length + 1 = (headTxt s b c).length) := Lib.hid (by rw [← HJ.out]; simp)
  have CW2 := Lib.hid (write_any (w.heap.size + 1) (w.heap.size + 1) J.data.toList ⟨#[10]⟩ w5 hB5 (by have : (⟨#[10]⟩ : ByteArray).size = 1 := rfl; have := hjl.out; omega))
  clear CW hB5 hb5 hw4 t4
  go_wp2_with fail
  refine (CW2.out).mono ?_
  rintro e w6 ⟨rfl, hB6, hb6⟩
  have hw6 := hw5.trans (hb6.mono (by omega))
  have t6 := (hb6.cell (p := ⟨w.heap.size, 3, none⟩) (by show w.heap.size < w.heap.size + 1; omega)).trans t5
  rw [show J.data.toList ++ (⟨#[10]⟩ : ByteArray).data.toList = headTxt s b c from HJ.out] at hB6
  clear CW2 hb6 hw5 t5 HJ hjl
  have HT : Hid (txnTxt s b c l = ⟨(headTxt s b c ++ opsTxt l).toArray⟩) := Lib.hid rfl
  generalize headTxt s b c = T at *
  go_wp2_with fail
  go_loopw [19] (fun i wr => ∃ k : Nat, k ≤ l.length ∧ i = .int .i64 k ∧ Bld (w.heap.size + 1) (w.heap.size + 1) (T ++ opsTxt (l.take k)) wr ∧ Below w.heap.size w wr) (fun i _ => l.length - (intOf i).toNat)
  case atStart => exact ⟨0, by omega, rfl, by simpa [opsTxt] using hB6, hw6⟩
  case round =>
    obtain ⟨k, hk, rfl, hB, hbw⟩ := hrel
    clear hB6 hw6 t6
    by_cases hlt : k < l.length
    · have hki : (k : Int) < (l.length : Int) := by omega
      obtain ⟨g, o, hao, c0, c1, c2⟩ := (ha.below hbw).at hlt
      cases hao
      have HS := Lib.hid (opsTxt_succ l k hlt)
      have hlk := HL.out k hk
      have hox := HOK.out l[k] (List.getElem_mem hlt)
      have hts := textB_size l[k] hox
      generalize opsTxt (l.take k) = O at *
      generalize l[k] = x at *
      obtain ⟨xw, xk, xv⟩ := x
      try simp only at c0 c1 c2
      have hbx := hbw.alloc hbw.size (.cells #[.bool xw, .int .i64 xk, .int .i64 xv] 26)
      have CT := Lib.hid (text_ten xw xk xv _ (HEN.out _ hbx) hox.1 hox.2)
      have hBx := hB.grown ((Below.refl wr.heap.size wr).alloc (Nat.le_refl _) (.cells #[.bool xw, .int .i64 xk, .int .i64 xv] 26))
      generalize textB xw xk xv = t at *
      have htl := Lib.size_eq t
      clear hox hB hbw
      go_wp2_with fail
      refine (CT.out).mono ?_
      rintro e w7 ⟨rfl, hb7⟩
      have hw7 := below_then hbx hb7
      have hB7 := hBx.grown hb7
      have CW := Lib.hid (write_any (w.heap.size + 1) (w.heap.size + 1) (T ++ O) t w7 hB7 (by simp; omega))
      clear CT hBx hb7 hB7 hbx
      go_wp2_with fail
      refine (CW.out).mono ?_
      rintro e w8 ⟨rfl, hB8, hb8⟩
      have hw8 := hw7.trans (hb8.mono (by omega))
      have CW2 := Lib.hid (write_any (w.heap.size + 1) (w.heap.size + 1) (T ++ O ++ t.data.toList) ⟨#[10]⟩ w8 hB8 (by have : (⟨#[10]⟩ : ByteArray).size = 1 := rfl; simp; omega))
      clear CW hb8 hw7 hB8
      go_wp2_with fail
      refine (CW2.out).mono ?_
      rintro e w9 ⟨rfl, hB9, hb9⟩
      have hw9 := hw8.trans (hb9.mono (by omega))
      clear CW2 hb9 hw8
      go_wp2_with fail
      go_roundw
      case rel => exact ⟨k + 1, by omega, by go_num, by rw [HS.out]; simpa [List.append_assoc] using hB9, hw9⟩
      case measure => simp [intOf]; omega
    · have hkl : k = l.length := by omega
      subst hkl
      rw [List.take_length] at hB
      have CS := Lib.hid (bld_string (w.heap.size + 1) (w.heap.size + 1) _ wr hB)
      have HZ : Hid (txnTxt s b c l = ⟨(T ++ opsTxt l).toArray⟩) := Lib.hid HT.out
      clear hB
      go_wp2_with fail
      refine (CS.out).mono ?_
      rintro e w' ⟨rfl, hbs⟩
      rw [← HZ.out]
      go_wp2_with fail
      go_ret
      exact ⟨rfl, hbw.trans (hbs.mono (by omega))⟩
end Go.Proofs.YtlkdojcimlfmdaaDoor
