/- Walks and plain facts that the proof of the statement ScriptBack uses, joined: TxnN ScrE ScrF OpC OpD OpE OpF OpG OpH OpI ScrG ScrH. Conditions: each theorem's own. -/
import Derived.Laws.StructEq
import Derived.Deep.RegionHeld3
import Derived.StillTailTactics
import Derived.Test.YtlkdojcimlfmdaaDoorPScriptBack0
import Derived.Test.YtlkdojcimlfmdaaDoorPScriptBack1
import Derived.Test.YtlkdojcimlfmdaaDoorPScriptBack2
namespace Go.Proofs.YtlkdojcimlfmdaaDoor
set_option maxRecDepth 100000
open Go.RowKit

/-- Operations in words, a line each; a transaction in words. -/
def opsTxt (l : List OpV) : List UInt8 := l.flatMap fun o => (textB o.wr o.key o.val).data.toList ++ [10]
def headTxt (s b c : Int) : List UInt8 := joinTo [116, 120, 110] [s, b, c] ++ [10]
def txnTxt (s b c : Int) (l : List OpV) : ByteArray := ⟨(headTxt s b c ++ opsTxt l).toArray⟩
theorem opsTxt_succ (l : List OpV) (k : Nat) (hk : k < l.length) : opsTxt (l.take (k + 1)) = opsTxt (l.take k) ++ (textB l[k].wr l[k].key l[k].val).data.toList ++ [10] := by
  unfold opsTxt; rw [take_snoc l k hk, List.flatMap_append]; simp
theorem textB_size (o : OpV) (h : o.ok) : (textB o.wr o.key o.val).size ≤ 45 := by
  have hl := joinTo_len (if o.wr then (⟨#[119]⟩ : ByteArray) else ⟨#[114]⟩).data.toList [o.key, o.val] (by intro n hn; simp at hn; rcases hn with rfl | rfl; exact h.1; exact h.2)
  have e : (if o.wr then (⟨#[119]⟩ : ByteArray) else ⟨#[114]⟩).data.toList.length = 1 := by cases o.wr <;> rfl
  rw [e] at hl
  unfold textB joinB
  simp only [ByteArray.size, List.size_toArray]
  simpa using hl
theorem opsTxt_len : ∀ (l : List OpV), (∀ o ∈ l, o.ok) → (opsTxt l).length ≤ 46 * l.length
  | [], _ => by simp [opsTxt]
  | a :: l, h => by
    have h1 := opsTxt_len l (fun o ho => h o (List.mem_cons_of_mem _ ho))
    have h2 := textB_size a (h a List.mem_cons_self)
    rw [Lib.size_eq] at h2
    unfold opsTxt at *
    simp only [List.flatMap_cons, List.length_append, List.length_cons, List.length_nil] at *
    omega
theorem headTxt_len (s b c : Int) (hs : IntOk s) (hb : IntOk b) (hc : IntOk c) : (headTxt s b c).length ≤ 80 := by
  have := joinTo_len [116, 120, 110] [s, b, c] (by intro n hn; simp at hn; rcases hn with rfl | rfl | rfl <;> assumption)
  unfold headTxt; simp at *; omega
set_option maxHeartbeats 8000000 in
theorem ttext_any (s b c : Int) (va : Value) (l : List OpV) (w : World) (he : Ten w) (ha : Ops w va l) (hok : ∀ o ∈ l, o.ok) (hs : IntOk s) (hb : IntOk b) (hc : IntOk c) (hlen : l.length ≤ 100000) :
    Calls Tryd.prog 24 #[.agg #[.int .i64 s, .int .i64 b, .int .i64 c, va]] w fun e w' => e = .returned (.string (txnTxt s b c l)) ∧ Below w.heap.size w w' := by
  obtain ⟨ao, cap, rfl, hal⟩ := ha.form
  have HOK := Lib.hid hok
  have HEN : Hid (∀ wx, Below w.heap.size w wx → Ten wx) := Lib.hid (fun wx h => he.below h)
  have hhl := headTxt_len s b c hs hb hc
  have HL : Hid (∀ k, k ≤ l.length → (opsTxt (l.take k)).length ≤ 46 * k) := Lib.hid (fun k hk => by
    have := opsTxt_len (l.take k) (fun o ho => hok o (List.mem_of_mem_take ho))
    rw [List.length_take, Nat.min_eq_left hk] at this; exact this)
  have hw1 := (Below.refl w.heap.size w).alloc (Nat.le_refl _) (.cells #[.int .i64 s, .int .i64 b, .int .i64 c, .slice ao l.length cap] 29)
  have hB1 := bld_new (w.alloc (.cells #[.int .i64 s, .int .i64 b, .int .i64 c, .slice ao l.length cap] 29))
  obtain ⟨t0, t1, t2, t3⟩ := txnBlock w (.int .i64 s) (.int .i64 b) (.int .i64 c) (.slice ao l.length cap) 29
  rw [show (w.alloc (.cells #[.int .i64 s, .int .i64 b, .int .i64 c, .slice ao l.length cap] 29)).heap.size = w.heap.size + 1 from by simp] at hB1
  have hw2 := hw1.alloc hw1.size (.cells #[.pointer none, .slice none 0 0] 67)
  have HI : Hid (∀ wx : World, Ints (wx.alloc (.cells #[.int .i64 s, .int .i64 b, .int .i64 c] 3)) (.slice (some ⟨wx.heap.size, 0, none⟩) 3 3) [s, b, c]) := Lib.hid (fun wx => ints_lit wx [s, b, c] #[.int .i64 s, .int .i64 b, .int .i64 c] 3 rfl rfl (by decide))
  have HIO : Hid (∀ n ∈ [s, b, c], IntOk n) := Lib.hid (by intro n hn; simp at hn; rcases hn with rfl | rfl | rfl <;> assumption)
  clear hok he hs hb hc
  go_enter Tryd.func24, Tryd.ntmps24
  go_wp2_with fail
  have HSZ : Hid (((w.alloc (.cells #[.int .i64 s, .int .i64 b, .int .i64 c, .slice ao l.length cap] 29)).alloc (.cells #[.pointer none, .slice none 0 0] 67)).heap.size = w.heap.size + 1 + 1) := Lib.hid (by simp)
  have t3' := ((box_below (w.alloc (.cells #[.int .i64 s, .int .i64 b, .int .i64 c, .slice ao l.length cap] 29)) (.cells #[.pointer none, .slice none 0 0] 67)).cell (p := ⟨w.heap.size, 3, none⟩) (block_lt t3)).trans t3
  clear t0 t1 t2 t3 hw1
  generalize (w.alloc (.cells #[.int .i64 s, .int .i64 b, .int .i64 c, .slice ao l.length cap] 29)).alloc (.cells #[.pointer none, .slice none 0 0] 67) = w2 at *
  rw [← HSZ.out]
  have hw3 := hw2.alloc hw2.size (.cells #[.int .i64 s, .int .i64 b, .int .i64 c] 3)
  refine (join_ten ⟨#[116, 120, 110]⟩ _ [s, b, c] _ (HEN.out _ hw3) (HI.out w2) HIO.out (by simp [ByteArray.size])).mono ?_
  rintro e w4 ⟨rfl, hb4⟩
  have hw4 := below_then hw3 hb4
  have hbb4 := below_then ((Below.refl w2.heap.size w2).alloc (Nat.le_refl _) (.cells #[.int .i64 s, .int .i64 b, .int .i64 c] 3)) hb4
  have hB4 := hB1.grown hbb4
  have t4 := (hbb4.cell (p := ⟨w.heap.size, 3, none⟩) (block_lt t3')).trans t3'
  have CW := Lib.hid (write_any (w.heap.size + 1) (w.heap.size + 1) [] (joinB ⟨#[116, 120, 110]⟩ [s, b, c]) w4 hB4 (by
    have := headTxt_len s b c (HIO.out s (by simp)) (HIO.out b (by simp)) (HIO.out c (by simp))
    have h2 : (headTxt s b c).length = (joinB ⟨#[116, 120, 110]⟩ [s, b, c]).size + 1 := by unfold headTxt joinB; simp [ByteArray.size]
    rw [List.length_nil]; omega))
  have HJ : Hid ((joinB ⟨#[116, 120, 110]⟩ [s, b, c]).data.toList ++ [10] = headTxt s b c) := Lib.hid (by unfold headTxt joinB; simp)
  clear hB1 hB4 hw2 hw3 hb4 hbb4 t3' HI HIO HSZ
  generalize joinB ⟨#[116, 120, 110]⟩ [s, b, c] = J at *
  go_wp2_with fail
  refine (CW.out).mono ?_
  rintro e w5 ⟨rfl, hB5, hb5⟩
  have hw5 := hw4.trans (hb5.mono (by omega))
  have t5 := (hb5.cell (p := ⟨w.heap.size, 3, none⟩) (by show w.heap.size < w.heap.size + 1; omega)).trans t4
  rw [List.nil_append] at hB5
  have hjl : Hid (J.data.toList.length + 1 = (headTxt s b c).length) := Lib.hid (by rw [← HJ.out]; simp)
  have CW2 := Lib.hid (write_any (w.heap.size + 1) (w.heap.size + 1) J.data.toList ⟨#[10]⟩ w5 hB5 (by have : (⟨#[10]⟩ : ByteArray).size = 1 := rfl; have := hjl.out; omega))
  clear CW hB5 hb5 hw4 t4
  go_wp2_with fail
  refine (CW2.out).mono ?_
  rintro e w6 ⟨rfl, hB6, hb6⟩
  have hw6 := hw5.trans (hb6.mono (by omega))
  have t6 := (hb6.cell (p := ⟨w.heap.size, 3, none⟩) (by show w.heap.size < w.heap.size + 1; omega)).trans t5
  rw [show J.data.toList ++ (⟨#[10]⟩ : ByteArray).data.toList = headTxt s b c from HJ.out] at hB6
  clear CW2 hb6 hw5 t5 HJ hjl
  have HT : Hid (txnTxt s b c l = ⟨(headTxt s b c ++ opsTxt l).toArray⟩) := Lib.hid rfl
  generalize headTxt s b c = T at *
  go_wp2_with fail
  go_loopw [19] (fun i wr => ∃ k : Nat, k ≤ l.length ∧ i = .int .i64 k ∧ Bld (w.heap.size + 1) (w.heap.size + 1) (T ++ opsTxt (l.take k)) wr ∧ Below w.heap.size w wr) (fun i _ => l.length - (intOf i).toNat)
  case atStart => exact ⟨0, by omega, rfl, by simpa [opsTxt] using hB6, hw6⟩
  case round =>
    obtain ⟨k, hk, rfl, hB, hbw⟩ := hrel
    clear hB6 hw6 t6
    by_cases hlt : k < l.length
    · have hki : (k : Int) < (l.length : Int) := by omega
      obtain ⟨g, o, hao, c0, c1, c2⟩ := (ha.below hbw).at hlt
      cases hao
      have HS := Lib.hid (opsTxt_succ l k hlt)
      have hlk := HL.out k hk
      have hox := HOK.out l[k] (List.getElem_mem hlt)
      have hts := textB_size l[k] hox
      generalize opsTxt (l.take k) = O at *
      generalize l[k] = x at *
      obtain ⟨xw, xk, xv⟩ := x
      try simp only at c0 c1 c2
      have hbx := hbw.alloc hbw.size (.cells #[.bool xw, .int .i64 xk, .int .i64 xv] 26)
      have CT := Lib.hid (text_ten xw xk xv _ (HEN.out _ hbx) hox.1 hox.2)
      have hBx := hB.grown ((Below.refl wr.heap.size wr).alloc (Nat.le_refl _) (.cells #[.bool xw, .int .i64 xk, .int .i64 xv] 26))
      generalize textB xw xk xv = t at *
      have htl := Lib.size_eq t
      clear hox hB hbw
      go_wp2_with fail
      refine (CT.out).mono ?_
      rintro e w7 ⟨rfl, hb7⟩
      have hw7 := below_then hbx hb7
      have hB7 := hBx.grown hb7
      have CW := Lib.hid (write_any (w.heap.size + 1) (w.heap.size + 1) (T ++ O) t w7 hB7 (by simp; omega))
      clear CT hBx hb7 hB7 hbx
      go_wp2_with fail
      refine (CW.out).mono ?_
      rintro e w8 ⟨rfl, hB8, hb8⟩
      have hw8 := hw7.trans (hb8.mono (by omega))
      have CW2 := Lib.hid (write_any (w.heap.size + 1) (w.heap.size + 1) (T ++ O ++ t.data.toList) ⟨#[10]⟩ w8 hB8 (by have : (⟨#[10]⟩ : ByteArray).size = 1 := rfl; simp; omega))
      clear CW hb8 hw7 hB8
      go_wp2_with fail
      refine (CW2.out).mono ?_
      rintro e w9 ⟨rfl, hB9, hb9⟩
      have hw9 := hw8.trans (hb9.mono (by omega))
      clear CW2 hb9 hw8
      go_wp2_with fail
      go_roundw
      case rel => exact ⟨k + 1, by omega, by go_num, by rw [HS.out]; simpa [List.append_assoc] using hB9, hw9⟩
      case measure => simp [intOf]; omega
    · have hkl : k = l.length := by omega
      subst hkl
      rw [List.take_length] at hB
      have CS := Lib.hid (bld_string (w.heap.size + 1) (w.heap.size + 1) _ wr hB)
      have HZ : Hid (txnTxt s b c l = ⟨(T ++ opsTxt l).toArray⟩) := Lib.hid HT.out
      clear hB
      go_wp2_with fail
      refine (CS.out).mono ?_
      rintro e w' ⟨rfl, hbs⟩
      rw [← HZ.out]
      go_wp2_with fail
      go_ret
      exact ⟨rfl, hbw.trans (hbs.mono (by omega))⟩
end Go.Proofs.YtlkdojcimlfmdaaDoor

namespace Go.Proofs.YtlkdojcimlfmdaaDoor
set_option maxRecDepth 100000
open Go.RowKit

/-- Transactions in words. -/
def prTxt (h : List TxnV) : List UInt8 := h.flatMap fun t => headTxt t.s t.b t.c ++ opsTxt t.l
theorem prTxt_succ (h : List TxnV) (k : Nat) (hk : k < h.length) : prTxt (h.take (k + 1)) = prTxt (h.take k) ++ (txnTxt h[k].s h[k].b h[k].c h[k].l).data.toList := by
  unfold prTxt; rw [List.take_succ_eq_append_getElem hk, List.flatMap_append]; simp [txnTxt]
theorem prTxt_len : ∀ (h : List TxnV), (∀ t ∈ h, t.ok ∧ t.l.length ≤ 100000) → (prTxt h).length ≤ 4600080 * h.length
  | [], _ => by simp [prTxt]
  | t :: h, hh => by
    have ih := prTxt_len h (fun u hu => hh u (List.mem_cons_of_mem _ hu))
    obtain ⟨⟨⟨h1, h2, h3⟩, h4⟩, h5⟩ := hh t List.mem_cons_self
    have a1 := headTxt_len t.s t.b t.c h1 h2 h3
    have a2 := opsTxt_len t.l h4
    unfold prTxt at *
    rw [List.flatMap_cons, List.length_append, List.length_append, List.length_cons]
    omega
set_option maxHeartbeats 8000000 in
theorem print_any (va : Value) (h : List TxnV) (w : World) (he : Ten w) (hT : Txns w va h) (hh : ∀ t ∈ h, t.ok ∧ t.l.length ≤ 100000) (hl : h.length ≤ 100000) :
    Calls Tryd.prog 18 #[va] w fun e w' => e = .returned (.string ⟨(prTxt h).toArray⟩) ∧ Below w.heap.size w w' := by
  obtain ⟨ao, cap, rfl, hal⟩ := hT.form
  have HT := Lib.hid (fun wx (hx : Below w.heap.size w wx) => hT.below hx)
  have HE := Lib.hid (fun wx (hx : Below w.heap.size w wx) => he.below hx)
  have HH := Lib.hid hh
  have HL : Hid (∀ k, k ≤ h.length → (prTxt (h.take k)).length ≤ 4600080 * k) := Lib.hid (fun k hk => by
    have := prTxt_len (h.take k) (fun t ht => hh t (List.mem_of_mem_take ht))
    rw [List.length_take, Nat.min_eq_left hk] at this; exact this)
  have hB0 := bld_new w
  have hb0 := box_below w (.cells #[.pointer none, .slice none 0 0] 67)
  clear he hT hh
  go_enter Tryd.func18, Tryd.ntmps18
  go_wp2_with fail
  go_loopw [8] (fun i wr => ∃ k : Nat, k ≤ h.length ∧ i = .int .i64 k ∧ Bld w.heap.size w.heap.size (prTxt (h.take k)) wr ∧ Below w.heap.size w wr) (fun i _ => h.length - (intOf i).toNat)
  case atStart => exact ⟨0, by omega, rfl, hB0, hb0⟩
  case round =>
    obtain ⟨k, hk, rfl, hB, hb⟩ := hrel
    clear hB0 hb0
    by_cases hlt : k < h.length
    · have hki : (k : Int) < (h.length : Int) := by omega
      obtain ⟨g, o, hao, c0, c1, c2, c3⟩ := (HT.out _ hb).at hlt
      cases hao
      have HS := Lib.hid (prTxt_succ h k hlt)
      have hll := HL.out k hk
      have HL1 := Lib.hid (HL.out (k + 1) hlt)
      have hOps := fun wx (hx : Below w.heap.size w wx) => (HT.out wx hx).ops hlt
      obtain ⟨⟨⟨i1, i2, i3⟩, i4⟩, i5⟩ := HH.out h[k] (List.getElem_mem hlt)
      generalize h[k] = t at *
      obtain ⟨s, b, cc, v, l⟩ := t
      simp only at c0 c1 c2 c3 hOps HS i1 i2 i3 i4 i5
      obtain ⟨ai, capi, rfl, _⟩ := (hOps wr hb).form
      have hbx := box_below wr (.cells #[.int .i64 s, .int .i64 b, .int .i64 cc, .slice ai l.length capi] 29)
      have hbb := hb.trans (hbx.mono hb.size)
      have hB1 := hB.grown hbx
      have CT := Lib.hid (ttext_any s b cc _ l _ (HE.out _ hbb) (hOps _ hbb) i4 i1 i2 i3 i5)
      have hts : (prTxt (h.take k)).length + (txnTxt s b cc l).size ≤ 140737488355328 := by
        have := HL1.out
        rw [HS.out, List.length_append] at this
        rw [Lib.size_eq]; omega
      clear hOps i1 i2 i3 i4 i5 hB
      generalize txnTxt s b cc l = T at *
      generalize prTxt (h.take k) = P at *
      go_wp2_with fail
      refine (CT.out).mono ?_
      rintro e w2 ⟨rfl, hb2⟩
      have hB2 := hB1.grown hb2
      have hb3 := hbb.trans (hb2.mono hbb.size)
      clear hB1 hb2 hbx hbb CT
      go_wp2_with fail
      refine (write_any _ _ P T w2 hB2 hts).mono ?_
      rintro e w3 ⟨rfl, hB3, hb4⟩
      have hb5 := hb3.trans hb4
      clear hB2 hb3 hb4
      go_wp2_with fail
      go_roundw
      case rel => exact ⟨k + 1, by omega, by go_num, by rw [HS.out]; exact hB3, hb5⟩
      case measure => simp [intOf]; omega
    · have hkl : k = h.length := by omega
      subst hkl
      rw [List.take_length] at hB
      go_wp2_with fail
      refine (bld_string _ _ _ _ hB).mono ?_
      rintro e w3 ⟨rfl, hb4⟩
      have hb5 := hb.trans hb4
      go_wp2_with fail
      go_ret
      exact ⟨rfl, hb5⟩
end Go.Proofs.YtlkdojcimlfmdaaDoor

namespace Go.Proofs.YtlkdojcimlfmdaaDoor
set_option maxRecDepth 100000
open Go.RowKit

def sp7a : ByteArray := ⟨#[116, 120, 110, 32, 48, 32, 49, 32, 50, 10, 119, 32, 51, 32, 53, 10]⟩
def sp7b : ByteArray := ⟨#[116, 120, 110, 32, 48, 32, 49, 32, 50, 10, 119, 32, 51, 10]⟩
def sp7H : List (Int × Int × Int × List OpV) := [(0, 1, 2, [⟨true, 3, 5⟩])]
theorem sp7a_run : runL (linesB sp7a) = some sp7H := by decide
theorem sp7a_end : endedB sp7a = true := by unfold endedB; rw [ByteArray.toList_eq]; decide
theorem sp7b_len : (linesB sp7b).length = 2 := by decide
theorem one_of {c : List TxnV} {a b d : Int} {l : List OpV} (h : c.map txE = [(a, b, d, l)]) : ∃ v, c = [⟨a, b, d, v, l⟩] := by
  match c, h with
  | [t], h =>
    obtain ⟨s, b', c', v, l'⟩ := t
    simp [txE] at h
    obtain ⟨rfl, rfl, rfl, rfl⟩ := h
    exact ⟨v, rfl⟩
theorem sp7_check (v : Value) : checkI [⟨0, 1, 2, v, [⟨true, 3, 5⟩]⟩] = 0 := by rfl
theorem sp7_print (v : Value) : (⟨(prTxt [⟨0, 1, 2, v, [⟨true, 3, 5⟩]⟩]).toArray⟩ : ByteArray) = sp7a := by
  unfold prTxt headTxt opsTxt textB joinB joinTo
  have e0 : Lib.itoa 0 = [48] := by rw [itoa_digit (by decide) (by decide)]; rfl
  have e1 : Lib.itoa 1 = [49] := by rw [itoa_digit (by decide) (by decide)]; rfl
  have e2 : Lib.itoa 2 = [50] := by rw [itoa_digit (by decide) (by decide)]; rfl
  have e3 : Lib.itoa 3 = [51] := by rw [itoa_digit (by decide) (by decide)]; rfl
  have e5 : Lib.itoa 5 = [53] := by rw [itoa_digit (by decide) (by decide)]; rfl
  simp only [List.flatMap_cons, List.flatMap_nil, e0, e1, e2, e3, e5]
  rfl
theorem sp7_parse (w : World) (he : Env w) :
    Calls Tryd.prog 15 #[.string sp7a] w fun e w' => ∃ v tv, e = .returned (.tuple #[v, .int .i64 0, .int .i64 0]) ∧ Made w' w.heap.size v [⟨0, 1, 2, tv, [⟨true, 3, 5⟩]⟩] ∧ Below w.heap.size w w' :=
  (sparse_any sp7a w he (by decide)).mono fun e w' ⟨hR, hb⟩ => by
    rcases hR with ⟨k, hk, _, hno, _⟩ | ⟨c, hrun, hR⟩
    · exfalso
      have hl : (linesB sp7a).length = 2 := by decide
      rw [hl] at hk
      match k, hk with
      | 0, _ => exact absurd hno (by decide)
      | 1, _ => exact absurd hno (by decide)
    · rw [sp7a_run] at hrun
      obtain ⟨tv, rfl⟩ := one_of (Option.some.inj hrun).symm
      rcases hR with ⟨h1, _⟩ | ⟨_, h1, _⟩ | ⟨_, _, v, rfl, hM⟩
      · rw [sp7a_end] at h1; cases h1
      · exact absurd (sp7_check tv) h1
      · exact ⟨v, tv, rfl, hM, hb⟩
theorem sp7_not (w : World) (he : Env w) :
    Calls Tryd.prog 15 #[.string sp7b] w fun e w' => e = .returned (.tuple #[.slice none 0 0, .int .i64 2, .int .i64 1]) ∧ Below w.heap.size w w' :=
  (sparse_any sp7b w he (by decide)).mono fun e w' ⟨hR, hb⟩ => by
    rcases hR with ⟨k, hk, _, hno, rfl⟩ | ⟨c, hrun, hR⟩
    · rw [sp7b_len] at hk
      match k, hk with
      | 0, _ => exact absurd hno (by decide)
      | 1, _ => exact ⟨rfl, hb⟩
    · exfalso
      have : runL (linesB sp7b) = none := by decide
      rw [this] at hrun; cases hrun
set_option maxHeartbeats 4000000 in
theorem speaks7_any (w : World) (he : Env w) :
    Calls Tryd.prog 14 #[] w fun e w' => e = .returned (.bool true) ∧ Below w.heap.size w w' := by
  have HE := Lib.hid (fun wx (hx : Below w.heap.size w wx) => he.below hx)
  have C1 := Lib.hid (sp7_parse w he)
  have C2 := Lib.hid (fun wx (hx : Below w.heap.size w wx) => sp7_not wx (HE.out wx hx))
  unfold sp7a at C1
  unfold sp7b at C2
  clear he
  go_enter Tryd.func14, Tryd.ntmps14
  go_wp2_with fail
  refine (C1.out).mono ?_
  rintro e w1 ⟨v, tv, rfl, hM, hb1⟩
  go_wp2_with fail
  refine (C2.out _ hb1).mono ?_
  rintro e w2 ⟨rfl, hb2⟩
  have hb3 := hb1.trans (hb2.mono hb1.size)
  have hM2 := hM.below hb2
  obtain ⟨av, cv, rfl, _⟩ := hM2.txns.form
  obtain ⟨g, o, hao, _, _, _, c3⟩ := hM2.txns.at (k := 0) (by simp)
  cases hao
  obtain ⟨ai, ci, hv, _⟩ := (hM2.txns.ops (k := 0) (by simp)).form
  simp at hv c3
  subst hv
  have CP := Lib.hid (print_any _ _ w2 (HE.out _ hb3).1 hM2.txns (by
    intro t ht
    obtain rfl := List.mem_singleton.1 ht
    refine ⟨⟨⟨?_, ?_, ?_⟩, ?_⟩, by simp⟩
    iterate 3 (simp [IntOk])
    intro x hx
    obtain rfl := List.mem_singleton.1 hx
    simp [OpV.ok, IntOk]) (by simp))
  rw [sp7_print] at CP
  unfold sp7a at CP
  clear C1 C2 hM hM2 hb1 hb2
  go_wp2_with fail
  refine (CP.out).mono ?_
  rintro e w3 ⟨rfl, hb4⟩
  have hb5 := hb3.trans (hb4.mono hb3.size)
  clear hb3 hb4 CP
  go_wp2_with fail
  go_ret
  exact ⟨rfl, hb5⟩
end Go.Proofs.YtlkdojcimlfmdaaDoor

namespace Go.Proofs.YtlkdojcimlfmdaaDoor
set_option maxRecDepth 100000
open Go.RowKit

theorem mayO_inR (o : OpV) (h : mayO o = true) : inR o.key = true ∧ inR o.val = true := by
  obtain ⟨h1, h2, _⟩ := (mayO_iff o).1 h
  unfold inR
  simp; omega
theorem parse_text (wr : Bool) (key val : Int) : parseR (textB wr key val) = if mayO ⟨wr, key, val⟩ then (true, ⟨wr, key, val⟩) else (false, opZ) := by
  have hc : ∀ x ∈ (if wr then (⟨#[119]⟩ : ByteArray) else ⟨#[114]⟩).data.toList, x ≠ 32 := by cases wr <;> decide
  obtain ⟨e1, e2, e3⟩ := words_join (if wr then ⟨#[119]⟩ else ⟨#[114]⟩) [key, val] hc
  change wordsOK (textB wr key val) 2 = _ at e1
  change headB (textB wr key val) = _ at e2
  change _ → numsOf (textB wr key val) = _ at e3
  cases ha : allR [key, val]
  · rw [ha] at e1
    rw [parseR_no e1]
    have hm : mayO ⟨wr, key, val⟩ = false := by
      cases hm : mayO ⟨wr, key, val⟩
      · rfl
      · obtain ⟨h1, h2⟩ := mayO_inR _ hm
        have : allR [key, val] = true := by unfold allR; simp at h1 h2; simp [h1, h2]
        rw [this] at ha; cases ha
    rw [hm]; rfl
  · rw [ha] at e1
    rw [parseR_at e1 (e3 ha)]
    have i1 : isW (textB wr key val) = wr := by unfold isW; rw [e2]; cases wr <;> rfl
    have i2 : (isW (textB wr key val) || isRd (textB wr key val)) = true := by unfold isW isRd; rw [e2]; cases wr <;> rfl
    rw [i2, i1, Bool.true_and]
end Go.Proofs.YtlkdojcimlfmdaaDoor

namespace Go.Proofs.YtlkdojcimlfmdaaDoor
set_option maxRecDepth 100000
open Go.RowKit

def textO (o : OpV) : ByteArray := textB o.wr o.key o.val
theorem dec_ten (u : Nat) : ∀ x ∈ Lib.decDigits u, x ≠ 10 := by
  intro x hx e
  have := (dec_all u).1 x hx
  subst e
  exact absurd this (by decide)
theorem itoa_no10 (n : Int) : ∀ x ∈ Lib.itoa n, x ≠ 10 := by
  intro x hx
  unfold Lib.itoa at hx
  split at hx
  · rcases List.mem_cons.1 hx with rfl | hx
    · decide
    · exact dec_ten _ x hx
  · exact dec_ten _ x hx
theorem textO_ten (o : OpV) : ∀ x ∈ (textO o).data.toList, x ≠ 10 := by
  intro x hx
  unfold textO textB joinB joinTo at hx
  simp only [List.flatMap_cons, List.flatMap_nil, List.append_nil, List.mem_append, List.mem_cons] at hx
  rcases hx with hx | (rfl | hx) | (rfl | hx)
  · cases hw : o.wr
    · rw [hw] at hx; simp at hx; subst hx; decide
    · rw [hw] at hx; simp at hx; subst hx; decide
  · decide
  · exact itoa_no10 _ x hx
  · decide
  · exact itoa_no10 _ x hx
theorem parse_textO (o : OpV) (h : mayO o = true) : parseR (textO o) = (true, o) := by
  unfold textO
  rw [parse_text, h]; rfl
end Go.Proofs.YtlkdojcimlfmdaaDoor

namespace Go.Proofs.YtlkdojcimlfmdaaDoor
set_option maxRecDepth 100000
open Go.RowKit

/-- A transaction, its operations nowhere. -/
def zT (t : TxnV) : TxnV := ⟨t.s, t.b, t.c, .slice none 0 0, t.l⟩
theorem zT_of {c h : List TxnV} (e : c.map txE = h.map txE) : c.map zT = h.map zT := by
  have k : ∀ l : List TxnV, l.map zT = (l.map txE).map fun q => (⟨q.1, q.2.1, q.2.2.1, .slice none 0 0, q.2.2.2⟩ : TxnV) := fun l => by rw [List.map_map]; rfl
  rw [k, k, e]
theorem opsN_z (h : List TxnV) : opsN (h.map zT) = opsN h := by unfold opsN; rw [List.map_map]; rfl
theorem partsB_z (h : List TxnV) : partsB (h.map zT) = partsB h := by unfold partsB; rw [List.all_map]; rfl
theorem wvH_z (h : List TxnV) : wvH (h.map zT) = wvH h := by unfold wvH; rw [List.flatMap_map]; rfl
theorem opsAt_z (h : List TxnV) (k : Nat) : opsAt (h.map zT) k = opsAt h k := by unfold opsAt; rw [List.getElem?_map]; cases h[k]? <;> rfl
theorem wrTo_z (h : List TxnV) (k : Nat) : wrTo (h.map zT) k = wrTo h k := by
  unfold wrTo
  congr 1
  funext F j
  rw [opsAt_z]
theorem valuesB_z (h : List TxnV) : valuesB (h.map zT) = valuesB h := by
  unfold valuesB okW
  rw [wvH_z, List.all_map, List.length_map, wrTo_z]; rfl
theorem stampsB_z (h : List TxnV) : stampsB (h.map zT) = stampsB h := by
  have : stL (h.map zT) = stL h := by unfold stL; rw [List.flatMap_map]; rfl
  unfold stampsB; rw [this]
theorem endF_z (h : List TxnV) : endF (h.map zT) = endF h := by
  funext x
  unfold endF
  rw [List.filter_map, List.getLast?_map, Option.map_map]; rfl
theorem sesOk_z (h : List TxnV) (k : Nat) : sesOk (h.map zT) k = sesOk h k := by
  unfold sesOk
  rw [List.getElem?_map, ← List.map_take, endF_z]
  cases h[k]? <;> rfl
theorem sesB_z (h : List TxnV) : sesB (h.map zT) = sesB h := by
  unfold sesB
  rw [List.length_map]
  congr 1
  funext k
  exact sesOk_z h k
theorem checkI_z (h : List TxnV) : checkI (h.map zT) = checkI h := by
  unfold checkI rightB
  rw [List.length_map, opsN_z, partsB_z, valuesB_z, stampsB_z, sesB_z]
theorem checkI_txE {c h : List TxnV} (e : c.map txE = h.map txE) : checkI c = checkI h := by
  rw [← checkI_z c, ← checkI_z h, zT_of e]
theorem checkI_right {h : List TxnV} (e : checkI h = 0) : h.length ≤ 64 ∧ opsN h ≤ 1024 ∧ ∀ t ∈ h, mayT t.s t.b t.c t.l = true := by
  unfold checkI at e
  split at e
  · cases e
  · split at e
    · rename_i h1 h2
      refine ⟨by omega, by omega, ?_⟩
      unfold rightB at h2
      simp only [Bool.and_eq_true] at h2
      exact List.all_eq_true.1 h2.1
    · cases e
/-- The line that begins a transaction. -/
def headT (a b c : Int) : ByteArray := joinB ⟨#[116, 120, 110]⟩ [a, b, c]
def txnLines (t : TxnV) : List ByteArray := headT t.s t.b t.c :: t.l.map textO
def allLines (h : List TxnV) : List ByteArray := h.flatMap txnLines
theorem headT_ten (a b c : Int) : ∀ x ∈ (headT a b c).data.toList, x ≠ 10 := by
  intro x hx
  unfold headT joinB joinTo at hx
  simp only [List.flatMap_cons, List.flatMap_nil, List.append_nil, List.mem_append, List.mem_cons] at hx
  rcases hx with hx | (rfl | hx) | (rfl | hx) | (rfl | hx)
  · simp at hx; rcases hx with rfl | rfl | rfl <;> decide
  · decide
  · exact itoa_no10 _ x hx
  · decide
  · exact itoa_no10 _ x hx
  · decide
  · exact itoa_no10 _ x hx
theorem allLines_ten (h : List TxnV) : ∀ s ∈ allLines h, ∀ x ∈ s.data.toList, x ≠ 10 := by
  intro s hs
  unfold allLines txnLines at hs
  obtain ⟨t, _, hs⟩ := List.mem_flatMap.1 hs
  rcases List.mem_cons.1 hs with rfl | hs
  · exact headT_ten _ _ _
  · obtain ⟨o, _, rfl⟩ := List.mem_map.1 hs
    exact textO_ten o
theorem cut_lines : ∀ (L : List ByteArray), (∀ s ∈ L, ∀ x ∈ s.data.toList, x ≠ 10) → cutL 10 (L.flatMap fun s => s.data.toList ++ [10]) = L.map (fun s => s.data.toList) ++ [[]]
  | [], _ => rfl
  | s :: L, h => by
    rw [List.flatMap_cons, List.append_assoc, List.singleton_append, cutL_app _ (h s List.mem_cons_self), cut_lines L (fun u hu => h u (List.mem_cons_of_mem _ hu))]; rfl
theorem lines_of (L : List ByteArray) (h : ∀ s ∈ L, ∀ x ∈ s.data.toList, x ≠ 10) : linesB ⟨(L.flatMap fun s => s.data.toList ++ [10]).toArray⟩ = L ∧ endedB ⟨(L.flatMap fun s => s.data.toList ++ [10]).toArray⟩ = true := by
  have e : cutB 10 ⟨(L.flatMap fun s => s.data.toList ++ [10]).toArray⟩ = L ++ [⟨#[]⟩] := by
    unfold cutB
    have e : (⟨(L.flatMap fun s => s.data.toList ++ [10]).toArray⟩ : ByteArray).data.toList = L.flatMap fun s => s.data.toList ++ [10] := by simp
    rw [e, cut_lines L h, List.map_append, List.map_map]
    congr 1
    conv => rhs; rw [← List.map_id L]
    rfl
  unfold linesB endedB
  rw [e]
  refine ⟨by simp, ?_⟩
  rw [List.getLastD_eq_getLast?]
  simp [ByteArray.toList_eq]
theorem prTxt_lines (h : List TxnV) : prTxt h = (allLines h).flatMap fun s => s.data.toList ++ [10] := by
  unfold prTxt allLines
  rw [List.flatMap_assoc]
  congr 1
  funext t
  unfold txnLines
  rw [List.flatMap_cons, List.flatMap_map]
  rfl
theorem pr_lines (h : List TxnV) : linesB ⟨(prTxt h).toArray⟩ = allLines h ∧ endedB ⟨(prTxt h).toArray⟩ = true := by
  rw [prTxt_lines]; exact lines_of _ (allLines_ten h)
theorem begR_head {a b c : Int} (h : allR [a, b, c] = true) : begR (headT a b c) = (true, a, b, c) := by
  obtain ⟨e1, e2, e3⟩ := words_join ⟨#[116, 120, 110]⟩ [a, b, c] (by decide)
  refine begR_at ?_ (e3 h)
  unfold headT isT
  rw [e2]
  have e1' : wordsOK (joinB ⟨#[116, 120, 110]⟩ [a, b, c]) 3 = allR [a, b, c] := e1
  rw [e1', h]; rfl
theorem begR_textO (o : OpV) : begR (textO o) = (false, 0, 0, 0) := by
  have hc : ∀ x ∈ (if o.wr then (⟨#[119]⟩ : ByteArray) else ⟨#[114]⟩).data.toList, x ≠ 32 := by cases o.wr <;> decide
  obtain ⟨_, e2, _⟩ := words_join (if o.wr then ⟨#[119]⟩ else ⟨#[114]⟩) [o.key, o.val] hc
  refine begR_no ?_
  have : isT (textO o) = false := by
    unfold isT textO textB
    rw [e2]
    cases o.wr <;> rfl
  rw [this, Bool.and_false]
def runF (H : List (Int × Int × Int × List OpV)) (L : List ByteArray) : Option (List (Int × Int × Int × List OpV)) := L.foldl (fun o s => o.bind fun H => stepL H s) (some H)
theorem runF_cons {H H' : List (Int × Int × Int × List OpV)} {s : ByteArray} {L : List ByteArray} (h : stepL H s = some H') : runF H (s :: L) = runF H' L := by
  unfold runF; rw [List.foldl_cons]; simp only [Option.bind_some]; rw [h]
theorem runF_app {H H' : List (Int × Int × Int × List OpV)} {L M : List ByteArray} (h : runF H L = some H') : runF H (L ++ M) = runF H' M := by
  unfold runF at *; rw [List.foldl_append, h]
theorem runF_ops (H : List (Int × Int × Int × List OpV)) (a b c : Int) : ∀ (l m : List OpV), (∀ o ∈ m, mayO o = true) → runF (H ++ [(a, b, c, l)]) (m.map textO) = some (H ++ [(a, b, c, l ++ m)])
  | l, [], _ => by simp [runF]
  | l, o :: m, h => by
    rw [List.map_cons, runF_cons (stepL_op (begR_textO o) (parse_textO o (h o List.mem_cons_self)) _)]
    rw [runF_ops H a b c (l ++ [o]) m (fun x hx => h x (List.mem_cons_of_mem _ hx))]
    simp
theorem runF_txn (H : List (Int × Int × Int × List OpV)) (t : TxnV) (h : mayT t.s t.b t.c t.l = true) : runF H (txnLines t) = some (H ++ [txE t]) := by
  unfold mayT at h
  simp only [Bool.and_eq_true, decide_eq_true_eq] at h
  obtain ⟨⟨h1, h2, h3, h4, h5, _, _⟩, h6⟩ := h
  have hr : allR [t.s, t.b, t.c] = true := by
    unfold allR inR
    simp; omega
  unfold txnLines
  rw [runF_cons (stepL_beg (begR_head hr)), runF_ops H t.s t.b t.c [] t.l (fun o ho => List.all_eq_true.1 h6 o ho)]
  rfl
theorem runF_all : ∀ (h : List TxnV) (H : List (Int × Int × Int × List OpV)), (∀ t ∈ h, mayT t.s t.b t.c t.l = true) → runF H (allLines h) = some (H ++ h.map txE)
  | [], H, _ => by simp [runF, allLines]
  | t :: h, H, hh => by
    unfold allLines
    rw [List.flatMap_cons, runF_app (runF_txn H t (hh t List.mem_cons_self))]
    have := runF_all h (H ++ [txE t]) (fun u hu => hh u (List.mem_cons_of_mem _ hu))
    unfold allLines at this
    rw [this]; simp
theorem runL_pr {h : List TxnV} (hh : ∀ t ∈ h, mayT t.s t.b t.c t.l = true) : runL (linesB ⟨(prTxt h).toArray⟩) = some (h.map txE) := by
  rw [(pr_lines h).1]
  have := runF_all h [] hh
  simpa [runF, runL] using this
end Go.Proofs.YtlkdojcimlfmdaaDoor

namespace Go.Proofs.YtlkdojcimlfmdaaDoor
set_option maxRecDepth 100000
open Go.RowKit

theorem runL_stop {L : List ByteArray} {k : Nat} (h : runL (L.take k) = none) : runL L = none := by
  have : L = L.take k ++ L.drop k := (List.take_append_drop k L).symm
  rw [this]
  unfold runL at *
  rw [List.foldl_append, h]
  generalize L.drop k = M
  induction M with
  | nil => rfl
  | cons s M ih => rw [List.foldl_cons]; exact ih
theorem prTxt_len2 : ∀ (h : List TxnV), (∀ t ∈ h, t.ok) → (prTxt h).length ≤ 80 * h.length + 46 * opsN h
  | [], _ => by simp [prTxt]
  | t :: h, hh => by
    have ih := prTxt_len2 h (fun u hu => hh u (List.mem_cons_of_mem _ hu))
    obtain ⟨⟨h1, h2, h3⟩, h4⟩ := hh t List.mem_cons_self
    have a1 := headTxt_len t.s t.b t.c h1 h2 h3
    have a2 := opsTxt_len t.l h4
    have a3 : opsN (t :: h) = t.l.length + opsN h := by unfold opsN; simp
    rw [a3]
    unfold prTxt at *
    rw [List.flatMap_cons, List.length_append, List.length_append, List.length_cons]
    omega
theorem parse_back {h : List TxnV} (hok : ∀ t ∈ h, t.ok) (hc : checkI h = 0) (w : World) (he : Env w) :
    Calls Tryd.prog 15 #[.string ⟨(prTxt h).toArray⟩] w fun e w' => ∃ v c, e = .returned (.tuple #[v, .int .i64 0, .int .i64 0]) ∧ c.map txE = h.map txE ∧ Made w' w.heap.size v c ∧ Below w.heap.size w w' := by
  obtain ⟨h1, h2, h3⟩ := checkI_right hc
  have hl := prTxt_len2 h hok
  have hs : (⟨(prTxt h).toArray⟩ : ByteArray).size ≤ 100000 := by
    have e : (⟨(prTxt h).toArray⟩ : ByteArray).size = (prTxt h).length := by simp [ByteArray.size]
    rw [e]; omega
  have hrun := runL_pr h3
  have hend := (pr_lines h).2
  refine (sparse_any _ w he hs).mono ?_
  rintro e w' ⟨hR, hb⟩
  rcases hR with ⟨k, hk, _, hno, _⟩ | ⟨c, hr, hR⟩
  · rw [runL_stop hno] at hrun; cases hrun
  · rw [hrun] at hr
    have hce := (Option.some.inj hr).symm
    rcases hR with ⟨q, _⟩ | ⟨_, q, _⟩ | ⟨_, _, v, rfl, hM⟩
    · rw [hend] at q; cases q
    · exact absurd ((checkI_txE hce).trans hc) q
    · exact ⟨v, c, rfl, hce, hM, hb⟩
set_option maxHeartbeats 8000000 in
theorem back7_walk (va : Value) (h : List TxnV) (w : World) (he : Env w) (hT : Txns w va h) (hok : ∀ t ∈ h, t.ok) (hsh : Short h) :
    Calls Tryd.prog 5 #[va] w fun e w' => e = .returned (.bool true) ∧ Below w.heap.size w w' := by
  have HT := Lib.hid (fun wx (hx : Below w.heap.size w wx) => hT.below hx)
  have HE := Lib.hid (fun wx (hx : Below w.heap.size w wx) => he.below hx)
  have CS := Lib.hid (speaks7_any w he)
  obtain ⟨ao, cap, rfl, hal⟩ := hT.form
  clear hT he
  go_enter Tryd.func5, Tryd.ntmps5
  go_wp2_with fail
  refine (CS.out).mono ?_
  rintro e w1 ⟨rfl, hb1⟩
  clear CS
  go_wp2_with fail
  refine (big_any _ h _ (HT.out _ hb1) hsh).mono ?_
  rintro e w2 ⟨rfl, hb2⟩
  have hb2 := below_then hb1 hb2
  clear hb1
  by_cases hbig : bigI h = 1
  · rw [hbig]
    go_wp2_with fail
    go_ret
    exact ⟨rfl, hb2⟩
  have h0 : bigI h = 0 := by
    unfold bigI at hbig ⊢; split at hbig
    · exact (hbig rfl).elim
    · rename_i hn; rw [if_neg hn]
  obtain ⟨hs1, hs2⟩ := big_no h0
  rw [h0]
  clear hbig h0
  have CK := Lib.hid (rcheck_any _ h _ (HT.out _ hb2) hsh)
  by_cases hc : checkR h = 0
  · rw [hc] at CK
    rw [← check_ref] at hc
    have HB := Lib.hid (fun wx (hx : Env wx) => parse_back hok hc wx hx)
    have HP : Hid (∀ wx, Below w.heap.size w wx → Calls Tryd.prog 18 #[.slice ao h.length cap] wx fun e w' => e = .returned (.string ⟨(prTxt h).toArray⟩) ∧ Below wx.heap.size wx w') := Lib.hid (fun wx hx => print_any _ h wx (HE.out _ hx).1 (HT.out _ hx) (fun t ht => ⟨hok t ht, by
      obtain ⟨k, hk, rfl⟩ := List.mem_iff_getElem.1 ht
      have := opsN_at h k hk
      omega⟩) (by omega))
    clear hc hok hsh hs2
    generalize (⟨(prTxt h).toArray⟩ : ByteArray) = s at *
    go_wp2_with fail
    refine (CK.out).mono ?_
    rintro e w3 ⟨rfl, hb3⟩
    have hb3 := below_then hb2 hb3
    clear hb2 CK
    go_wp2_with fail
    refine (HP.out _ hb3).mono ?_
    rintro e w4 ⟨rfl, hb4⟩
    have hb4 := below_then hb3 hb4
    clear hb3
    go_wp2_with fail
    refine (HB.out _ (HE.out _ hb4)).mono ?_
    rintro e w5 ⟨v, c, rfl, hce, hM, hb5⟩
    have hb5 := below_then hb4 hb5
    clear hb4
    have CF := Lib.hid (sameH_any _ _ c h w5 hM.txns (HT.out _ hb5))
    rw [show sameH c h = true from decide_eq_true hce] at CF
    clear hM hce HP HB
    go_wp2_with fail
    refine (CF.out).mono ?_
    rintro e w6 ⟨rfl, hb6⟩
    have hb6 := below_then hb5 hb6
    go_wp2_with fail
    go_ret
    exact ⟨rfl, hb6⟩
  · generalize checkR h = E at *
    go_wp2_with fail
    refine (CK.out).mono ?_
    rintro e w3 ⟨rfl, hb3⟩
    have hb3 := below_then hb2 hb3
    go_wp2_with fail
    go_ret
    exact ⟨rfl, hb3⟩
end Go.Proofs.YtlkdojcimlfmdaaDoor
