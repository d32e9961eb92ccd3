/- Walks and plain facts that the proof of the statement WholeTexts uses, joined: ScrD TxnN ScrE ScrF HisY OpC OpD OpE OpF OpG OpH OpI ScrG ScrH OrdA OrdB OrdC OrdG OrdH RelM RelA RelC RelB RelD RelE RelF OrdD OrdE. Conditions: each theorem's own. -/
import Derived.Laws.StructEq
import Derived.Deep.RegionHeld3
import Derived.StillTailTactics
import Derived.WalkKit
import Derived.Laws.Tables
import Derived.Laws.CopyOwn
import Derived.Deep.QuietTactic
import Derived.BigQuiet
import Derived.Test.YtflalehpdngklaaGreatDoorPWholeTexts0
import Derived.Test.YtflalehpdngklaaGreatDoorPWholeTexts1
import Derived.Test.YtflalehpdngklaaGreatDoorPWholeTexts2
namespace Go.Proofs.YtflalehpdngklaaGreatDoor
set_option maxRecDepth 100000
open Go.RowKit

def okE (t : Int × Int × Int × List OpV) : Prop := (IntOk t.1 ∧ IntOk t.2.1 ∧ IntOk t.2.2.1) ∧ ∀ o ∈ t.2.2.2, o.ok
theorem intOk_small {n : Int} (h : 0 ≤ n ∧ n ≤ 2147483647) : IntOk n := by unfold IntOk; omega
theorem begR_ok {s : ByteArray} {a b c : Int} (h : begR s = (true, a, b, c)) : (0 ≤ a ∧ a ≤ 2147483647) ∧ (0 ≤ b ∧ b ≤ 2147483647) ∧ (0 ≤ c ∧ c ≤ 2147483647) := by
  unfold begR at h
  split at h
  · rename_i hw
    simp only [Bool.and_eq_true] at hw
    obtain ⟨a', b', c', e, h1, h2, h3⟩ := nums_three hw.1
    rw [e] at h
    simp at h
    obtain ⟨rfl, rfl, rfl⟩ := h
    exact ⟨h1, h2, h3⟩
  · simp at h
theorem parseR_mayO {s : ByteArray} {o : OpV} (h : parseR s = (true, o)) : mayO o = true := by
  unfold parseR at h
  split at h
  · split at h
    · split at h
      · rename_i hm
        simp only [Bool.and_eq_true] at hm
        simp at h
        rw [← h]; exact hm.2
      · simp at h
    · simp at h
  · simp at h
theorem mayO_ok {o : OpV} (h : mayO o = true) : o.ok := by
  obtain ⟨h1, h2, _⟩ := (mayO_iff o).1 h
  exact ⟨by unfold IntOk; omega, by unfold IntOk; omega⟩
theorem stepL_ok {H H' : List (Int × Int × Int × List OpV)} {s : ByteArray} (hH : ∀ t ∈ H, okE t) (h : stepL H s = some H') : ∀ t ∈ H', okE t := by
  unfold stepL at h
  cases hb : begR s with
  | mk rb r =>
    obtain ⟨a, b, c⟩ := r
    rw [hb] at h
    cases rb
    · simp only [Bool.false_eq_true, if_false] at h
      cases hl : H.getLast? with
      | none => rw [hl] at h; cases h
      | some t =>
        rw [hl] at h
        cases hp : parseR s with
        | mk qb o =>
          rw [hp] at h
          cases qb
          · cases h
          · simp only [if_true] at h
            obtain rfl := Option.some.inj h
            intro u hu
            rcases List.mem_append.1 hu with hu | hu
            · exact hH u ((List.dropLast_sublist H).subset hu)
            · obtain rfl := List.mem_singleton.1 hu
              have ht := hH t (List.mem_of_getLast? hl)
              refine ⟨ht.1, fun x hx => ?_⟩
              rcases List.mem_append.1 hx with hx | hx
              · exact ht.2 x hx
              · obtain rfl := List.mem_singleton.1 hx
                exact mayO_ok (parseR_mayO hp)
    · simp only [if_true] at h
      obtain rfl := Option.some.inj h
      obtain ⟨h1, h2, h3⟩ := begR_ok hb
      intro u hu
      rcases List.mem_append.1 hu with hu | hu
      · exact hH u hu
      · obtain rfl := List.mem_singleton.1 hu
        exact ⟨⟨intOk_small h1, intOk_small h2, intOk_small h3⟩, by simp⟩
theorem runL_ok (L : List ByteArray) : ∀ (k : Nat) (H : List (Int × Int × Int × List OpV)), k ≤ L.length → runL (L.take k) = some H → ∀ t ∈ H, okE t
  | 0, H, _, h => by
    have : H = [] := by
      unfold runL at h; simp at h; exact h
    rw [this]; simp
  | k + 1, H, hk, h => by
    rw [List.take_succ_eq_append_getElem (by omega), runL_snoc] at h
    cases h2 : runL (L.take k) with
    | none => rw [h2] at h; cases h
    | some H2 =>
      rw [h2] at h
      exact stepL_ok (runL_ok L k H2 (by omega) h2) h
theorem okE_txn {c : List TxnV} (h : ∀ t ∈ c.map txE, okE t) : ∀ t ∈ c, t.ok := fun t ht => h (txE t) (List.mem_map.2 ⟨t, ht, rfl⟩)
/-- What Parse answers, of a text that isn't too long. -/
def ParseRes (s : ByteArray) (base : Nat) (w : World) (e : Ending) : Prop :=
  (∃ k, k < (linesB s).length ∧ (∃ H, runL ((linesB s).take k) = some H) ∧ runL ((linesB s).take (k + 1)) = none ∧ e = .returned (.tuple #[.slice none 0 0, .int .i64 ((k : Int) + 1), .int .i64 1])) ∨
  (∃ c : List TxnV, runL (linesB s) = some (c.map txE) ∧
    ((endedB s = false ∧ e = .returned (.tuple #[.slice none 0 0, .int .i64 (((linesB s).length : Int) + 1), .int .i64 1])) ∨
     (endedB s = true ∧ checkI c ≠ 0 ∧ e = .returned (.tuple #[.slice none 0 0, .int .i64 0, .int .i64 (checkI c)])) ∨
     (endedB s = true ∧ checkI c = 0 ∧ ∃ v, e = .returned (.tuple #[v, .int .i64 0, .int .i64 0]) ∧ Made w base v c)))
theorem linesB_le (s : ByteArray) : (linesB s).length ≤ s.size := by
  have := cut_len_le 10 s
  unfold linesB; rw [List.length_dropLast]; omega
theorem piece_le (c : UInt8) : ∀ (l p : List UInt8), p ∈ cutL c l → p.length ≤ l.length
  | [], p, hp => by simp [cutL] at hp; subst hp; simp
  | b :: l, p, hp => by
    unfold cutL at hp
    split at hp
    · rcases List.mem_cons.1 hp with rfl | hp
      · simp
      · have := piece_le c l p hp; simp; omega
    · rcases List.mem_cons.1 hp with rfl | hp
      · have := cutL_ne c l
        cases hc : cutL c l with
        | nil => exact absurd hc this
        | cons a r =>
          have := piece_le c l a (by rw [hc]; exact List.mem_cons_self)
          simp; omega
      · have := piece_le c l p (List.mem_of_mem_tail hp); simp; omega
theorem linesB_size (s : ByteArray) (hs : s.size ≤ 100000) : ∀ t ∈ linesB s, t.size ≤ 100000 := fun t ht => by
  have ht2 : t ∈ cutB 10 s := (List.dropLast_sublist _).subset ht
  obtain ⟨p, hp, rfl⟩ := List.mem_map.1 ht2
  have := piece_le _ _ _ hp
  have e : (⟨p.toArray⟩ : ByteArray).size = p.length := by simp [ByteArray.size]
  rw [Lib.size_eq] at hs
  rw [e]; omega
set_option maxHeartbeats 8000000 in
theorem sparse_any (s : ByteArray) (w : World) (he : Env w) (hs : s.size ≤ 100000) :
    Calls Tryz.prog 46 #[.string s] w fun e w' => ParseRes s w.heap.size w' e ∧ Below w.heap.size w w' := by
  have HE := Lib.hid (fun wx (hx : Below w.heap.size w wx) => he.below hx)
  have CL := Lib.hid (lines_any s w he hs)
  have hll := linesB_le s
  have hls := Lib.hid (linesB_size s hs)
  have hsz : ¬ (1048576 : Int) < (s.size : Int) := by omega
  have HP : Hid (∀ w e, ParseRes s w.heap.size w e ↔ ParseRes s w.heap.size w e) := Lib.hid (fun _ _ => Iff.rfl)
  clear he HP
  go_enter Tryz.func46, Tryz.ntmps46
  go_wp2_with fail
  refine (CL.out).mono ?_
  rintro e w1 ⟨v, rfl, hS, hb1⟩
  clear CL
  obtain ⟨av, cv, rfl, _⟩ := hS.form
  go_wp2_with fail
  refine (slines_any _ (linesB s) w1 (HE.out _ hb1) hS hls.out (by omega)).mono ?_
  rintro e w2 ⟨hR, hb2⟩
  have hb2' := hb1.trans (hb2.mono hb1.size)
  rcases hR with ⟨v2, c, rfl, hrun, hM, hc1, hc2⟩ | ⟨k, hk, rfl, hH, hrun⟩
  · have HOK := Lib.hid (okE_txn (c := c) (fun t ht => runL_ok (linesB s) (linesB s).length _ (Nat.le_refl _) (by rw [List.take_length]; exact hrun) t ht))
    have HSH : Hid (Short c) := Lib.hid (fun t ht => by have := hc2 t ht; omega)
    have HM := Lib.hid hM
    have HRN := Lib.hid hrun
    obtain ⟨a2, c2, rfl, _⟩ := hM.txns.form
    have hl0 : wrap64 (((linesB s).length : Int) + 1) = ((linesB s).length : Int) + 1 := wrap64_small (by omega) (by omega)
    have hl1 : ¬ ((linesB s).length : Int) + 1 = 0 := by omega
    clear hM hrun hc2 hS hls
    cases hen : endedB s
    · have HRES : Hid (ParseRes s w.heap.size w2 (.returned (.tuple #[.slice none 0 0, .int .i64 (((linesB s).length : Int) + 1), .int .i64 1]))) := Lib.hid (.inr ⟨c, HRN.out, .inl ⟨hen, rfl⟩⟩)
      clear HM
      go_wp2_with fail
      go_ret3
      exact ⟨HRES.out, hb2'⟩
    · have CK := Lib.hid (hcheck_any _ c w2 HM.out.txns HOK.out HSH.out)
      have HK : Hid (checkI c ≠ 0 → ∀ wx, ParseRes s w.heap.size wx (.returned (.tuple #[.slice none 0 0, .int .i64 0, .int .i64 (checkI c)]))) := Lib.hid (fun hne wx => .inr ⟨c, HRN.out, .inr (.inl ⟨hen, hne, rfl⟩)⟩)
      have HK0 : Hid (checkI c = 0 → ∀ wx, Below w2.heap.size w2 wx → ParseRes s w.heap.size wx (.returned (.tuple #[.slice a2 c.length c2, .int .i64 0, .int .i64 0]))) := Lib.hid (fun he wx hx => .inr ⟨c, HRN.out, .inr (.inr ⟨hen, he, _, rfl, by
        have := HM.out.below hx
        exact ⟨⟨this.1.1, by
          rcases this.1.2 with q | ⟨g, cap, cur, q1, q2, q3⟩
          · exact .inl q
          · exact .inr ⟨g, cap, cur, q1, Nat.le_trans hb1.size q2, q3⟩⟩, fun t ht => (this.2.1 t ht).base hb1.size, this.2.2⟩⟩)⟩)
      generalize checkI c = E at *
      clear HM
      go_wp2_with fail
      refine (CK.out).mono ?_
      rintro e w3 ⟨rfl, hb3⟩
      have hb3' := hb2'.trans (hb3.mono hb2'.size)
      by_cases hE : E = 0
      · subst hE
        have HRES := Lib.hid (HK0.out rfl _ hb3)
        clear HK HK0
        go_wp2_with fail
        go_ret3
        exact ⟨HRES.out, hb3'⟩
      · have HRES := Lib.hid (HK.out hE w3)
        clear HK HK0
        go_wp2_with fail
        go_ret3
        exact ⟨HRES.out, hb3'⟩
  · have HRES : Hid (ParseRes s w.heap.size w2 (.returned (.tuple #[.slice none 0 0, .int .i64 ((k : Int) + 1), .int .i64 1]))) := Lib.hid (.inl ⟨k, hk, hH, hrun, rfl⟩)
    have hk1 : ¬ ((k : Int) + 1 = 0) := by omega
    clear hrun hH hS hls
    go_wp2_with fail
    go_ret3
    exact ⟨HRES.out, hb2'⟩
end Go.Proofs.YtflalehpdngklaaGreatDoor

namespace Go.Proofs.YtflalehpdngklaaGreatDoor
set_option maxRecDepth 100000
open Go.RowKit

/-- Operations in words, a line each; a transaction in words. -/
def opsTxt (l : List OpV) : List UInt8 := l.flatMap fun o => (textB o.wr o.key o.val).data.toList ++ [10]
def headTxt (s b c : Int) : List UInt8 := joinTo [116, 120, 110] [s, b, c] ++ [10]
def txnTxt (s b c : Int) (l : List OpV) : ByteArray := ⟨(headTxt s b c ++ opsTxt l).toArray⟩
theorem opsTxt_succ (l : List OpV) (k : Nat) (hk : k < l.length) : opsTxt (l.take (k + 1)) = opsTxt (l.take k) ++ (textB l[k].wr l[k].key l[k].val).data.toList ++ [10] := by
  unfold opsTxt; rw [take_snoc l k hk, List.flatMap_append]; simp
theorem textB_size (o : OpV) (h : o.ok) : (textB o.wr o.key o.val).size ≤ 45 := by
  have hl := joinTo_len (if o.wr then (⟨#[119]⟩ : ByteArray) else ⟨#[114]⟩).data.toList [o.key, o.val] (by intro n hn; simp at hn; rcases hn with rfl | rfl; exact h.1; exact h.2)
  have e : (if o.wr then (⟨#[119]⟩ : ByteArray) else ⟨#[114]⟩).data.toList.length = 1 := by cases o.wr <;> rfl
  rw [e] at hl
  unfold textB joinB
  simp only [ByteArray.size, List.size_toArray]
  simpa using hl
theorem opsTxt_len : ∀ (l : List OpV), (∀ o ∈ l, o.ok) → (opsTxt l).length ≤ 46 * l.length
  | [], _ => by simp [opsTxt]
  | a :: l, h => by
    have h1 := opsTxt_len l (fun o ho => h o (List.mem_cons_of_mem _ ho))
    have h2 := textB_size a (h a List.mem_cons_self)
    rw [Lib.size_eq] at h2
    unfold opsTxt at *
    simp only [List.flatMap_cons, List.length_append, List.length_cons, List.length_nil] at *
    omega
theorem headTxt_len (s b c : Int) (hs : IntOk s) (hb : IntOk b) (hc : IntOk c) : (headTxt s b c).length ≤ 80 := by
  have := joinTo_len [116, 120, 110] [s, b, c] (by intro n hn; simp at hn; rcases hn with rfl | rfl | rfl <;> assumption)
  unfold headTxt; simp at *; omega
set_option maxHeartbeats 8000000 in
theorem ttext_any (s b c : Int) (va : Value) (l : List OpV) (w : World) (he : Ten w) (ha : Ops w va l) (hok : ∀ o ∈ l, o.ok) (hs : IntOk s) (hb : IntOk b) (hc : IntOk c) (hlen : l.length ≤ 100000) :
    Calls Tryz.prog 124 #[.agg #[.int .i64 s, .int .i64 b, .int .i64 c, va]] w fun e w' => e = .returned (.string (txnTxt s b c l)) ∧ Below w.heap.size w w' := by
  obtain ⟨ao, cap, rfl, hal⟩ := ha.form
  have HOK := Lib.hid hok
  have HEN : Hid (∀ wx, Below w.heap.size w wx → Ten wx) := Lib.hid (fun wx h => he.below h)
  have hhl := headTxt_len s b c hs hb hc
  have HL : Hid (∀ k, k ≤ l.length → (opsTxt (l.take k)).length ≤ 46 * k) := Lib.hid (fun k hk => by
    have := opsTxt_len (l.take k) (fun o ho => hok o (List.mem_of_mem_take ho))
    rw [List.length_take, Nat.min_eq_left hk] at this; exact this)
  have hw1 := (Below.refl w.heap.size w).alloc (Nat.le_refl _) (.cells #[.int .i64 s, .int .i64 b, .int .i64 c, .slice ao l.length cap] 106)
  have hB1 := bld_new (w.alloc (.cells #[.int .i64 s, .int .i64 b, .int .i64 c, .slice ao l.length cap] 106))
  obtain ⟨t0, t1, t2, t3⟩ := txnBlock w (.int .i64 s) (.int .i64 b) (.int .i64 c) (.slice ao l.length cap) 106
  rw [show (w.alloc (.cells #[.int .i64 s, .int .i64 b, .int .i64 c, .slice ao l.length cap] 106)).heap.size = w.heap.size + 1 from by simp] at hB1
  have hw2 := hw1.alloc hw1.size (.cells #[.pointer none, .slice none 0 0] 167)
  have HI : Hid (∀ wx : World, Ints (wx.alloc (.cells #[.int .i64 s, .int .i64 b, .int .i64 c] 3)) (.slice (some ⟨wx.heap.size, 0, none⟩) 3 3) [s, b, c]) := Lib.hid (fun wx => ints_lit wx [s, b, c] #[.int .i64 s, .int .i64 b, .int .i64 c] 3 rfl rfl (by decide))
  have HIO : Hid (∀ n ∈ [s, b, c], IntOk n) := Lib.hid (by intro n hn; simp at hn; rcases hn with rfl | rfl | rfl <;> assumption)
  clear hok he hs hb hc
  go_enter Tryz.func124, Tryz.ntmps124
  go_wp2_with fail
  have HSZ : Hid (((w.alloc (.cells #[.int .i64 s, .int .i64 b, .int .i64 c, .slice ao l.length cap] 106)).alloc (.cells #[.pointer none, .slice none 0 0] 167)).heap.size = w.heap.size + 1 + 1) := Lib.hid (by simp)
  have t3' := ((box_below (w.alloc (.cells #[.int .i64 s, .int .i64 b, .int .i64 c, .slice ao l.length cap] 106)) (.cells #[.pointer none, .slice none 0 0] 167)).cell (p := ⟨w.heap.size, 3, none⟩) (block_lt t3)).trans t3
  clear t0 t1 t2 t3 hw1
  generalize (w.alloc (.cells #[.int .i64 s, .int .i64 b, .int .i64 c, .slice ao l.length cap] 106)).alloc (.cells #[.pointer none, .slice none 0 0] 167) = w2 at *
  rw [← HSZ.out]
  have hw3 := hw2.alloc hw2.size (.cells #[.int .i64 s, .int .i64 b, .int .i64 c] 3)
  refine (join_ten ⟨#[116, 120, 110]⟩ _ [s, b, c] _ (HEN.out _ hw3) (HI.out w2) HIO.out (by simp [ByteArray.size])).mono ?_
  rintro e w4 ⟨rfl, hb4⟩
  have hw4 := below_then hw3 hb4
  have hbb4 := below_then ((Below.refl w2.heap.size w2).alloc (Nat.le_refl _) (.cells #[.int .i64 s, .int .i64 b, .int .i64 c] 3)) hb4
  have hB4 := hB1.grown hbb4
  have t4 := (hbb4.cell (p := ⟨w.heap.size, 3, none⟩) (block_lt t3')).trans t3'
  have CW := Lib.hid (write_any (w.heap.size + 1) (w.heap.size + 1) [] (joinB ⟨#[116, 120, 110]⟩ [s, b, c]) w4 hB4 (by
    have := headTxt_len s b c (HIO.out s (by simp)) (HIO.out b (by simp)) (HIO.out c (by simp))
    have h2 : (headTxt s b c).length = (joinB ⟨#[116, 120, 110]⟩ [s, b, c]).size + 1 := by unfold headTxt joinB; simp [ByteArray.size]
    rw [List.length_nil]; omega))
  have HJ : Hid ((joinB ⟨#[116, 120, 110]⟩ [s, b, c]).data.toList ++ [10] = headTxt s b c) := Lib.hid (by unfold headTxt joinB; simp)
  clear hB1 hB4 hw2 hw3 hb4 hbb4 t3' HI HIO HSZ
  generalize joinB ⟨#[116, 120, 110]⟩ [s, b, c] = J at *
  go_wp2_with fail
  refine (CW.out).mono ?_
  rintro e w5 ⟨rfl, hB5, hb5⟩
  have hw5 := hw4.trans (hb5.mono (by omega))
  have t5 := (hb5.cell (p := ⟨w.heap.size, 3, none⟩) (by show w.heap.size < w.heap.size + 1; omega)).trans t4
  rw [List.nil_append] at hB5
  have hjl : Hid (J.data.toList.length + 1 = (headTxt s b c).length) := Lib.hid (by rw [← HJ.out]; simp)
  have CW2 := Lib.hid (write_any (w.heap.size + 1) (w.heap.size + 1) J.data.toList ⟨#[10]⟩ w5 hB5 (by have : (⟨#[10]⟩ : ByteArray).size = 1 := rfl; have := hjl.out; omega))
  clear CW hB5 hb5 hw4 t4
  go_wp2_with fail
  refine (CW2.out).mono ?_
  rintro e w6 ⟨rfl, hB6, hb6⟩
  have hw6 := hw5.trans (hb6.mono (by omega))
  have t6 := (hb6.cell (p := ⟨w.heap.size, 3, none⟩) (by show w.heap.size < w.heap.size + 1; omega)).trans t5
  rw [show J.data.toList ++ (⟨#[10]⟩ : ByteArray).data.toList = headTxt s b c from HJ.out] at hB6
  clear CW2 hb6 hw5 t5 HJ hjl
  have HT : Hid (txnTxt s b c l = ⟨(headTxt s b c ++ opsTxt l).toArray⟩) := Lib.hid rfl
  generalize headTxt s b c = T at *
  go_wp2_with fail
  go_loopw [19] (fun i wr => ∃ k : Nat, k ≤ l.length ∧ i = .int .i64 k ∧ Bld (w.heap.size + 1) (w.heap.size + 1) (T ++ opsTxt (l.take k)) wr ∧ Below w.heap.size w wr) (fun i _ => l.length - (intOf i).toNat)
  case atStart => exact ⟨0, by omega, rfl, by simpa [opsTxt] using hB6, hw6⟩
  case round =>
    obtain ⟨k, hk, rfl, hB, hbw⟩ := hrel
    clear hB6 hw6 t6
    by_cases hlt : k < l.length
    · have hki : (k : Int) < (l.length : Int) := by omega
      obtain ⟨g, o, hao, c0, c1, c2⟩ := (ha.below hbw).at hlt
      cases hao
      have HS := Lib.hid (opsTxt_succ l k hlt)
      have hlk := HL.out k hk
      have hox := HOK.out l[k] (List.getElem_mem hlt)
      have hts := textB_size l[k] hox
      generalize opsTxt (l.take k) = O at *
      generalize l[k] = x at *
      obtain ⟨xw, xk, xv⟩ := x
      try simp only at c0 c1 c2
      have hbx := hbw.alloc hbw.size (.cells #[.bool xw, .int .i64 xk, .int .i64 xv] 102)
      have CT := Lib.hid (text_ten xw xk xv _ (HEN.out _ hbx) hox.1 hox.2)
      have hBx := hB.grown ((Below.refl wr.heap.size wr).alloc (Nat.le_refl _) (.cells #[.bool xw, .int .i64 xk, .int .i64 xv] 102))
      generalize textB xw xk xv = t at *
      have htl := Lib.size_eq t
      clear hox hB hbw
      go_wp2_with fail
      refine (CT.out).mono ?_
      rintro e w7 ⟨rfl, hb7⟩
      have hw7 := below_then hbx hb7
      have hB7 := hBx.grown hb7
      have CW := Lib.hid (write_any (w.heap.size + 1) (w.heap.size + 1) (T ++ O) t w7 hB7 (by simp; omega))
      clear CT hBx hb7 hB7 hbx
      go_wp2_with fail
      refine (CW.out).mono ?_
      rintro e w8 ⟨rfl, hB8, hb8⟩
      have hw8 := hw7.trans (hb8.mono (by omega))
      have CW2 := Lib.hid (write_any (w.heap.size + 1) (w.heap.size + 1) (T ++ O ++ t.data.toList) ⟨#[10]⟩ w8 hB8 (by have : (⟨#[10]⟩ : ByteArray).size = 1 := rfl; simp; omega))
      clear CW hb8 hw7 hB8
      go_wp2_with fail
      refine (CW2.out).mono ?_
      rintro e w9 ⟨rfl, hB9, hb9⟩
      have hw9 := hw8.trans (hb9.mono (by omega))
      clear CW2 hb9 hw8
      go_wp2_with fail
      go_roundw
      case rel => exact ⟨k + 1, by omega, by go_num, by rw [HS.out]; simpa [List.append_assoc] using hB9, hw9⟩
      case measure => simp [intOf]; omega
    · have hkl : k = l.length := by omega
      subst hkl
      rw [List.take_length] at hB
      have CS := Lib.hid (bld_string (w.heap.size + 1) (w.heap.size + 1) _ wr hB)
      have HZ : Hid (txnTxt s b c l = ⟨(T ++ opsTxt l).toArray⟩) := Lib.hid HT.out
      clear hB
      go_wp2_with fail
      refine (CS.out).mono ?_
      rintro e w' ⟨rfl, hbs⟩
      rw [← HZ.out]
      go_wp2_with fail
      go_ret
      exact ⟨rfl, hbw.trans (hbs.mono (by omega))⟩
end Go.Proofs.YtflalehpdngklaaGreatDoor

namespace Go.Proofs.YtflalehpdngklaaGreatDoor
set_option maxRecDepth 100000
open Go.RowKit

/-- Transactions in words. -/
def prTxt (h : List TxnV) : List UInt8 := h.flatMap fun t => headTxt t.s t.b t.c ++ opsTxt t.l
theorem prTxt_succ (h : List TxnV) (k : Nat) (hk : k < h.length) : prTxt (h.take (k + 1)) = prTxt (h.take k) ++ (txnTxt h[k].s h[k].b h[k].c h[k].l).data.toList := by
  unfold prTxt; rw [List.take_succ_eq_append_getElem hk, List.flatMap_append]; simp [txnTxt]
theorem prTxt_len : ∀ (h : List TxnV), (∀ t ∈ h, t.ok ∧ t.l.length ≤ 100000) → (prTxt h).length ≤ 4600080 * h.length
  | [], _ => by simp [prTxt]
  | t :: h, hh => by
    have ih := prTxt_len h (fun u hu => hh u (List.mem_cons_of_mem _ hu))
    obtain ⟨⟨⟨h1, h2, h3⟩, h4⟩, h5⟩ := hh t List.mem_cons_self
    have a1 := headTxt_len t.s t.b t.c h1 h2 h3
    have a2 := opsTxt_len t.l h4
    unfold prTxt at *
    rw [List.flatMap_cons, List.length_append, List.length_append, List.length_cons]
    omega
set_option maxHeartbeats 8000000 in
theorem print_any (va : Value) (h : List TxnV) (w : World) (he : Ten w) (hT : Txns w va h) (hh : ∀ t ∈ h, t.ok ∧ t.l.length ≤ 100000) (hl : h.length ≤ 100000) :
    Calls Tryz.prog 48 #[va] w fun e w' => e = .returned (.string ⟨(prTxt h).toArray⟩) ∧ Below w.heap.size w w' := by
  obtain ⟨ao, cap, rfl, hal⟩ := hT.form
  have HT := Lib.hid (fun wx (hx : Below w.heap.size w wx) => hT.below hx)
  have HE := Lib.hid (fun wx (hx : Below w.heap.size w wx) => he.below hx)
  have HH := Lib.hid hh
  have HL : Hid (∀ k, k ≤ h.length → (prTxt (h.take k)).length ≤ 4600080 * k) := Lib.hid (fun k hk => by
    have := prTxt_len (h.take k) (fun t ht => hh t (List.mem_of_mem_take ht))
    rw [List.length_take, Nat.min_eq_left hk] at this; exact this)
  have hB0 := bld_new w
  have hb0 := box_below w (.cells #[.pointer none, .slice none 0 0] 167)
  clear he hT hh
  go_enter Tryz.func48, Tryz.ntmps48
  go_wp2_with fail
  go_loopw [8] (fun i wr => ∃ k : Nat, k ≤ h.length ∧ i = .int .i64 k ∧ Bld w.heap.size w.heap.size (prTxt (h.take k)) wr ∧ Below w.heap.size w wr) (fun i _ => h.length - (intOf i).toNat)
  case atStart => exact ⟨0, by omega, rfl, hB0, hb0⟩
  case round =>
    obtain ⟨k, hk, rfl, hB, hb⟩ := hrel
    clear hB0 hb0
    by_cases hlt : k < h.length
    · have hki : (k : Int) < (h.length : Int) := by omega
      obtain ⟨g, o, hao, c0, c1, c2, c3⟩ := (HT.out _ hb).at hlt
      cases hao
      have HS := Lib.hid (prTxt_succ h k hlt)
      have hll := HL.out k hk
      have HL1 := Lib.hid (HL.out (k + 1) hlt)
      have hOps := fun wx (hx : Below w.heap.size w wx) => (HT.out wx hx).ops hlt
      obtain ⟨⟨⟨i1, i2, i3⟩, i4⟩, i5⟩ := HH.out h[k] (List.getElem_mem hlt)
      generalize h[k] = t at *
      obtain ⟨s, b, cc, v, l⟩ := t
      simp only at c0 c1 c2 c3 hOps HS i1 i2 i3 i4 i5
      obtain ⟨ai, capi, rfl, _⟩ := (hOps wr hb).form
      have hbx := box_below wr (.cells #[.int .i64 s, .int .i64 b, .int .i64 cc, .slice ai l.length capi] 106)
      have hbb := hb.trans (hbx.mono hb.size)
      have hB1 := hB.grown hbx
      have CT := Lib.hid (ttext_any s b cc _ l _ (HE.out _ hbb) (hOps _ hbb) i4 i1 i2 i3 i5)
      have hts : (prTxt (h.take k)).length + (txnTxt s b cc l).size ≤ 140737488355328 := by
        have := HL1.out
        rw [HS.out, List.length_append] at this
        rw [Lib.size_eq]; omega
      clear hOps i1 i2 i3 i4 i5 hB
      generalize txnTxt s b cc l = T at *
      generalize prTxt (h.take k) = P at *
      go_wp2_with fail
      refine (CT.out).mono ?_
      rintro e w2 ⟨rfl, hb2⟩
      have hB2 := hB1.grown hb2
      have hb3 := hbb.trans (hb2.mono hbb.size)
      clear hB1 hb2 hbx hbb CT
      go_wp2_with fail
      refine (write_any _ _ P T w2 hB2 hts).mono ?_
      rintro e w3 ⟨rfl, hB3, hb4⟩
      have hb5 := hb3.trans hb4
      clear hB2 hb3 hb4
      go_wp2_with fail
      go_roundw
      case rel => exact ⟨k + 1, by omega, by go_num, by rw [HS.out]; exact hB3, hb5⟩
      case measure => simp [intOf]; omega
    · have hkl : k = h.length := by omega
      subst hkl
      rw [List.take_length] at hB
      go_wp2_with fail
      refine (bld_string _ _ _ _ hB).mono ?_
      rintro e w3 ⟨rfl, hb4⟩
      have hb5 := hb.trans hb4
      go_wp2_with fail
      go_ret
      exact ⟨rfl, hb5⟩
end Go.Proofs.YtflalehpdngklaaGreatDoor

namespace Go.Proofs.YtflalehpdngklaaGreatDoor
set_option maxRecDepth 100000
open Go.RowKit

def sp7a : ByteArray := ⟨#[116, 120, 110, 32, 48, 32, 49, 32, 50, 10, 119, 32, 51, 32, 53, 10]⟩
def sp7H : List (Int × Int × Int × List OpV) := [(0, 1, 2, [⟨true, 3, 5⟩])]
theorem sp7a_run : runL (linesB sp7a) = some sp7H := by decide
theorem sp7a_end : endedB sp7a = true := by unfold endedB; rw [ByteArray.toList_eq]; decide
theorem one_of {c : List TxnV} {a b d : Int} {l : List OpV} (h : c.map txE = [(a, b, d, l)]) : ∃ v, c = [⟨a, b, d, v, l⟩] := by
  match c, h with
  | [t], h =>
    obtain ⟨s, b', c', v, l'⟩ := t
    simp [txE] at h
    obtain ⟨rfl, rfl, rfl, rfl⟩ := h
    exact ⟨v, rfl⟩
theorem sp7_check (v : Value) : checkI [⟨0, 1, 2, v, [⟨true, 3, 5⟩]⟩] = 0 := by rfl
theorem sp7_parse (w : World) (he : Env w) :
    Calls Tryz.prog 46 #[.string sp7a] w fun e w' => ∃ v tv, e = .returned (.tuple #[v, .int .i64 0, .int .i64 0]) ∧ Made w' w.heap.size v [⟨0, 1, 2, tv, [⟨true, 3, 5⟩]⟩] ∧ Below w.heap.size w w' :=
  (sparse_any sp7a w he (by decide)).mono fun e w' ⟨hR, hb⟩ => by
    rcases hR with ⟨k, hk, _, hno, _⟩ | ⟨c, hrun, hR⟩
    · exfalso
      have hl : (linesB sp7a).length = 2 := by decide
      rw [hl] at hk
      match k, hk with
      | 0, _ => exact absurd hno (by decide)
      | 1, _ => exact absurd hno (by decide)
    · rw [sp7a_run] at hrun
      obtain ⟨tv, rfl⟩ := one_of (Option.some.inj hrun).symm
      rcases hR with ⟨h1, _⟩ | ⟨_, h1, _⟩ | ⟨_, _, v, rfl, hM⟩
      · rw [sp7a_end] at h1; cases h1
      · exact absurd (sp7_check tv) h1
      · exact ⟨v, tv, rfl, hM, hb⟩
end Go.Proofs.YtflalehpdngklaaGreatDoor

namespace Go.Proofs.YtflalehpdngklaaGreatDoor
set_option maxRecDepth 100000
open Go.RowKit

/-- A transaction, its operations nowhere. -/
def zT (t : TxnV) : TxnV := ⟨t.s, t.b, t.c, .slice none 0 0, t.l⟩
theorem zT_of {c h : List TxnV} (e : c.map txE = h.map txE) : c.map zT = h.map zT := by
  have k : ∀ l : List TxnV, l.map zT = (l.map txE).map fun q => (⟨q.1, q.2.1, q.2.2.1, .slice none 0 0, q.2.2.2⟩ : TxnV) := fun l => by rw [List.map_map]; rfl
  rw [k, k, e]
theorem opsN_z (h : List TxnV) : opsN (h.map zT) = opsN h := by unfold opsN; rw [List.map_map]; rfl
theorem partsB_z (h : List TxnV) : partsB (h.map zT) = partsB h := by unfold partsB; rw [List.all_map]; rfl
theorem wvH_z (h : List TxnV) : wvH (h.map zT) = wvH h := by unfold wvH; rw [List.flatMap_map]; rfl
theorem opsAt_z (h : List TxnV) (k : Nat) : opsAt (h.map zT) k = opsAt h k := by unfold opsAt; rw [List.getElem?_map]; cases h[k]? <;> rfl
theorem wrTo_z (h : List TxnV) (k : Nat) : wrTo (h.map zT) k = wrTo h k := by
  unfold wrTo
  congr 1
  funext F j
  rw [opsAt_z]
theorem valuesB_z (h : List TxnV) : valuesB (h.map zT) = valuesB h := by
  unfold valuesB okW
  rw [wvH_z, List.all_map, List.length_map, wrTo_z]; rfl
theorem stampsB_z (h : List TxnV) : stampsB (h.map zT) = stampsB h := by
  have : stL (h.map zT) = stL h := by unfold stL; rw [List.flatMap_map]; rfl
  unfold stampsB; rw [this]
theorem endF_z (h : List TxnV) : endF (h.map zT) = endF h := by
  funext x
  unfold endF
  rw [List.filter_map, List.getLast?_map, Option.map_map]; rfl
theorem sesOk_z (h : List TxnV) (k : Nat) : sesOk (h.map zT) k = sesOk h k := by
  unfold sesOk
  rw [List.getElem?_map, ← List.map_take, endF_z]
  cases h[k]? <;> rfl
theorem sesB_z (h : List TxnV) : sesB (h.map zT) = sesB h := by
  unfold sesB
  rw [List.length_map]
  congr 1
  funext k
  exact sesOk_z h k
theorem checkI_z (h : List TxnV) : checkI (h.map zT) = checkI h := by
  unfold checkI rightB
  rw [List.length_map, opsN_z, partsB_z, valuesB_z, stampsB_z, sesB_z]
theorem checkI_txE {c h : List TxnV} (e : c.map txE = h.map txE) : checkI c = checkI h := by
  rw [← checkI_z c, ← checkI_z h, zT_of e]
theorem checkI_right {h : List TxnV} (e : checkI h = 0) : h.length ≤ 64 ∧ opsN h ≤ 1024 ∧ ∀ t ∈ h, mayT t.s t.b t.c t.l = true := by
  unfold checkI at e
  split at e
  · cases e
  · split at e
    · rename_i h1 h2
      refine ⟨by omega, by omega, ?_⟩
      unfold rightB at h2
      simp only [Bool.and_eq_true] at h2
      exact List.all_eq_true.1 h2.1
    · cases e
end Go.Proofs.YtflalehpdngklaaGreatDoor

namespace Go.Proofs.YtflalehpdngklaaGreatDoor
set_option maxRecDepth 100000
open Go.RowKit

theorem mayO_inR (o : OpV) (h : mayO o = true) : inR o.key = true ∧ inR o.val = true := by
  obtain ⟨h1, h2, _⟩ := (mayO_iff o).1 h
  unfold inR
  simp; omega
theorem parse_text (wr : Bool) (key val : Int) : parseR (textB wr key val) = if mayO ⟨wr, key, val⟩ then (true, ⟨wr, key, val⟩) else (false, opZ) := by
  have hc : ∀ x ∈ (if wr then (⟨#[119]⟩ : ByteArray) else ⟨#[114]⟩).data.toList, x ≠ 32 := by cases wr <;> decide
  obtain ⟨e1, e2, e3⟩ := words_join (if wr then ⟨#[119]⟩ else ⟨#[114]⟩) [key, val] hc
  change wordsOK (textB wr key val) 2 = _ at e1
  change headB (textB wr key val) = _ at e2
  change _ → numsOf (textB wr key val) = _ at e3
  cases ha : allR [key, val]
  · rw [ha] at e1
    rw [parseR_no e1]
    have hm : mayO ⟨wr, key, val⟩ = false := by
      cases hm : mayO ⟨wr, key, val⟩
      · rfl
      · obtain ⟨h1, h2⟩ := mayO_inR _ hm
        have : allR [key, val] = true := by unfold allR; simp at h1 h2; simp [h1, h2]
        rw [this] at ha; cases ha
    rw [hm]; rfl
  · rw [ha] at e1
    rw [parseR_at e1 (e3 ha)]
    have i1 : isW (textB wr key val) = wr := by unfold isW; rw [e2]; cases wr <;> rfl
    have i2 : (isW (textB wr key val) || isRd (textB wr key val)) = true := by unfold isW isRd; rw [e2]; cases wr <;> rfl
    rw [i2, i1, Bool.true_and]
end Go.Proofs.YtflalehpdngklaaGreatDoor

namespace Go.Proofs.YtflalehpdngklaaGreatDoor
set_option maxRecDepth 100000
open Go.RowKit

def textO (o : OpV) : ByteArray := textB o.wr o.key o.val
theorem dec_ten (u : Nat) : ∀ x ∈ Lib.decDigits u, x ≠ 10 := by
  intro x hx e
  have := (dec_all u).1 x hx
  subst e
  exact absurd this (by decide)
theorem itoa_no10 (n : Int) : ∀ x ∈ Lib.itoa n, x ≠ 10 := by
  intro x hx
  unfold Lib.itoa at hx
  split at hx
  · rcases List.mem_cons.1 hx with rfl | hx
    · decide
    · exact dec_ten _ x hx
  · exact dec_ten _ x hx
theorem textO_ten (o : OpV) : ∀ x ∈ (textO o).data.toList, x ≠ 10 := by
  intro x hx
  unfold textO textB joinB joinTo at hx
  simp only [List.flatMap_cons, List.flatMap_nil, List.append_nil, List.mem_append, List.mem_cons] at hx
  rcases hx with hx | (rfl | hx) | (rfl | hx)
  · cases hw : o.wr
    · rw [hw] at hx; simp at hx; subst hx; decide
    · rw [hw] at hx; simp at hx; subst hx; decide
  · decide
  · exact itoa_no10 _ x hx
  · decide
  · exact itoa_no10 _ x hx
theorem parse_textO (o : OpV) (h : mayO o = true) : parseR (textO o) = (true, o) := by
  unfold textO
  rw [parse_text, h]; rfl
end Go.Proofs.YtflalehpdngklaaGreatDoor

namespace Go.Proofs.YtflalehpdngklaaGreatDoor
set_option maxRecDepth 100000
open Go.RowKit

/-- The line that begins a transaction. -/
def headT (a b c : Int) : ByteArray := joinB ⟨#[116, 120, 110]⟩ [a, b, c]
def txnLines (t : TxnV) : List ByteArray := headT t.s t.b t.c :: t.l.map textO
def allLines (h : List TxnV) : List ByteArray := h.flatMap txnLines
theorem headT_ten (a b c : Int) : ∀ x ∈ (headT a b c).data.toList, x ≠ 10 := by
  intro x hx
  unfold headT joinB joinTo at hx
  simp only [List.flatMap_cons, List.flatMap_nil, List.append_nil, List.mem_append, List.mem_cons] at hx
  rcases hx with hx | (rfl | hx) | (rfl | hx) | (rfl | hx)
  · simp at hx; rcases hx with rfl | rfl | rfl <;> decide
  · decide
  · exact itoa_no10 _ x hx
  · decide
  · exact itoa_no10 _ x hx
  · decide
  · exact itoa_no10 _ x hx
theorem allLines_ten (h : List TxnV) : ∀ s ∈ allLines h, ∀ x ∈ s.data.toList, x ≠ 10 := by
  intro s hs
  unfold allLines txnLines at hs
  obtain ⟨t, _, hs⟩ := List.mem_flatMap.1 hs
  rcases List.mem_cons.1 hs with rfl | hs
  · exact headT_ten _ _ _
  · obtain ⟨o, _, rfl⟩ := List.mem_map.1 hs
    exact textO_ten o
theorem cut_lines : ∀ (L : List ByteArray), (∀ s ∈ L, ∀ x ∈ s.data.toList, x ≠ 10) → cutL 10 (L.flatMap fun s => s.data.toList ++ [10]) = L.map (fun s => s.data.toList) ++ [[]]
  | [], _ => rfl
  | s :: L, h => by
    rw [List.flatMap_cons, List.append_assoc, List.singleton_append, cutL_app _ (h s List.mem_cons_self), cut_lines L (fun u hu => h u (List.mem_cons_of_mem _ hu))]; rfl
theorem lines_of (L : List ByteArray) (h : ∀ s ∈ L, ∀ x ∈ s.data.toList, x ≠ 10) : linesB ⟨(L.flatMap fun s => s.data.toList ++ [10]).toArray⟩ = L ∧ endedB ⟨(L.flatMap fun s => s.data.toList ++ [10]).toArray⟩ = true := by
  have e : cutB 10 ⟨(L.flatMap fun s => s.data.toList ++ [10]).toArray⟩ = L ++ [⟨#[]⟩] := by
    unfold cutB
    have e : (⟨(L.flatMap fun s => s.data.toList ++ [10]).toArray⟩ : ByteArray).data.toList = L.flatMap fun s => s.data.toList ++ [10] := by simp
    rw [e, cut_lines L h, List.map_append, List.map_map]
    congr 1
    conv => rhs; rw [← List.map_id L]
    rfl
  unfold linesB endedB
  rw [e]
  refine ⟨by simp, ?_⟩
  rw [List.getLastD_eq_getLast?]
  simp [ByteArray.toList_eq]
theorem prTxt_lines (h : List TxnV) : prTxt h = (allLines h).flatMap fun s => s.data.toList ++ [10] := by
  unfold prTxt allLines
  rw [List.flatMap_assoc]
  congr 1
  funext t
  unfold txnLines
  rw [List.flatMap_cons, List.flatMap_map]
  rfl
theorem pr_lines (h : List TxnV) : linesB ⟨(prTxt h).toArray⟩ = allLines h ∧ endedB ⟨(prTxt h).toArray⟩ = true := by
  rw [prTxt_lines]; exact lines_of _ (allLines_ten h)
theorem begR_head {a b c : Int} (h : allR [a, b, c] = true) : begR (headT a b c) = (true, a, b, c) := by
  obtain ⟨e1, e2, e3⟩ := words_join ⟨#[116, 120, 110]⟩ [a, b, c] (by decide)
  refine begR_at ?_ (e3 h)
  unfold headT isT
  rw [e2]
  have e1' : wordsOK (joinB ⟨#[116, 120, 110]⟩ [a, b, c]) 3 = allR [a, b, c] := e1
  rw [e1', h]; rfl
theorem begR_textO (o : OpV) : begR (textO o) = (false, 0, 0, 0) := by
  have hc : ∀ x ∈ (if o.wr then (⟨#[119]⟩ : ByteArray) else ⟨#[114]⟩).data.toList, x ≠ 32 := by cases o.wr <;> decide
  obtain ⟨_, e2, _⟩ := words_join (if o.wr then ⟨#[119]⟩ else ⟨#[114]⟩) [o.key, o.val] hc
  refine begR_no ?_
  have : isT (textO o) = false := by
    unfold isT textO textB
    rw [e2]
    cases o.wr <;> rfl
  rw [this, Bool.and_false]
def runF (H : List (Int × Int × Int × List OpV)) (L : List ByteArray) : Option (List (Int × Int × Int × List OpV)) := L.foldl (fun o s => o.bind fun H => stepL H s) (some H)
theorem runF_cons {H H' : List (Int × Int × Int × List OpV)} {s : ByteArray} {L : List ByteArray} (h : stepL H s = some H') : runF H (s :: L) = runF H' L := by
  unfold runF; rw [List.foldl_cons]; simp only [Option.bind_some]; rw [h]
theorem runF_app {H H' : List (Int × Int × Int × List OpV)} {L M : List ByteArray} (h : runF H L = some H') : runF H (L ++ M) = runF H' M := by
  unfold runF at *; rw [List.foldl_append, h]
theorem runF_ops (H : List (Int × Int × Int × List OpV)) (a b c : Int) : ∀ (l m : List OpV), (∀ o ∈ m, mayO o = true) → runF (H ++ [(a, b, c, l)]) (m.map textO) = some (H ++ [(a, b, c, l ++ m)])
  | l, [], _ => by simp [runF]
  | l, o :: m, h => by
    rw [List.map_cons, runF_cons (stepL_op (begR_textO o) (parse_textO o (h o List.mem_cons_self)) _)]
    rw [runF_ops H a b c (l ++ [o]) m (fun x hx => h x (List.mem_cons_of_mem _ hx))]
    simp
theorem runF_txn (H : List (Int × Int × Int × List OpV)) (t : TxnV) (h : mayT t.s t.b t.c t.l = true) : runF H (txnLines t) = some (H ++ [txE t]) := by
  unfold mayT at h
  simp only [Bool.and_eq_true, decide_eq_true_eq] at h
  obtain ⟨⟨h1, h2, h3, h4, h5, _, _⟩, h6⟩ := h
  have hr : allR [t.s, t.b, t.c] = true := by
    unfold allR inR
    simp; omega
  unfold txnLines
  rw [runF_cons (stepL_beg (begR_head hr)), runF_ops H t.s t.b t.c [] t.l (fun o ho => List.all_eq_true.1 h6 o ho)]
  rfl
theorem runF_all : ∀ (h : List TxnV) (H : List (Int × Int × Int × List OpV)), (∀ t ∈ h, mayT t.s t.b t.c t.l = true) → runF H (allLines h) = some (H ++ h.map txE)
  | [], H, _ => by simp [runF, allLines]
  | t :: h, H, hh => by
    unfold allLines
    rw [List.flatMap_cons, runF_app (runF_txn H t (hh t List.mem_cons_self))]
    have := runF_all h (H ++ [txE t]) (fun u hu => hh u (List.mem_cons_of_mem _ hu))
    unfold allLines at this
    rw [this]; simp
theorem runL_pr {h : List TxnV} (hh : ∀ t ∈ h, mayT t.s t.b t.c t.l = true) : runL (linesB ⟨(prTxt h).toArray⟩) = some (h.map txE) := by
  rw [(pr_lines h).1]
  have := runF_all h [] hh
  simpa [runF, runL] using this
end Go.Proofs.YtflalehpdngklaaGreatDoor

namespace Go.Proofs.YtflalehpdngklaaGreatDoor
set_option maxRecDepth 100000
open Go.RowKit

theorem runL_stop {L : List ByteArray} {k : Nat} (h : runL (L.take k) = none) : runL L = none := by
  have : L = L.take k ++ L.drop k := (List.take_append_drop k L).symm
  rw [this]
  unfold runL at *
  rw [List.foldl_append, h]
  generalize L.drop k = M
  induction M with
  | nil => rfl
  | cons s M ih => rw [List.foldl_cons]; exact ih
theorem prTxt_len2 : ∀ (h : List TxnV), (∀ t ∈ h, t.ok) → (prTxt h).length ≤ 80 * h.length + 46 * opsN h
  | [], _ => by simp [prTxt]
  | t :: h, hh => by
    have ih := prTxt_len2 h (fun u hu => hh u (List.mem_cons_of_mem _ hu))
    obtain ⟨⟨h1, h2, h3⟩, h4⟩ := hh t List.mem_cons_self
    have a1 := headTxt_len t.s t.b t.c h1 h2 h3
    have a2 := opsTxt_len t.l h4
    have a3 : opsN (t :: h) = t.l.length + opsN h := by unfold opsN; simp
    rw [a3]
    unfold prTxt at *
    rw [List.flatMap_cons, List.length_append, List.length_append, List.length_cons]
    omega
theorem parse_back {h : List TxnV} (hok : ∀ t ∈ h, t.ok) (hc : checkI h = 0) (w : World) (he : Env w) :
    Calls Tryz.prog 46 #[.string ⟨(prTxt h).toArray⟩] w fun e w' => ∃ v c, e = .returned (.tuple #[v, .int .i64 0, .int .i64 0]) ∧ c.map txE = h.map txE ∧ Made w' w.heap.size v c ∧ Below w.heap.size w w' := by
  obtain ⟨h1, h2, h3⟩ := checkI_right hc
  have hl := prTxt_len2 h hok
  have hs : (⟨(prTxt h).toArray⟩ : ByteArray).size ≤ 100000 := by
    have e : (⟨(prTxt h).toArray⟩ : ByteArray).size = (prTxt h).length := by simp [ByteArray.size]
    rw [e]; omega
  have hrun := runL_pr h3
  have hend := (pr_lines h).2
  refine (sparse_any _ w he hs).mono ?_
  rintro e w' ⟨hR, hb⟩
  rcases hR with ⟨k, hk, _, hno, _⟩ | ⟨c, hr, hR⟩
  · rw [runL_stop hno] at hrun; cases hrun
  · rw [hrun] at hr
    have hce := (Option.some.inj hr).symm
    rcases hR with ⟨q, _⟩ | ⟨_, q, _⟩ | ⟨_, _, v, rfl, hM⟩
    · rw [hend] at q; cases q
    · exact absurd ((checkI_txE hce).trans hc) q
    · exact ⟨v, c, rfl, hce, hM, hb⟩
end Go.Proofs.YtflalehpdngklaaGreatDoor

namespace Go.Proofs.YtflalehpdngklaaGreatDoor
set_option maxRecDepth 100000
open Go.RowKit

/-- The keys of some operations. -/
def keyV (l : List OpV) : List Value := l.map fun o => .int .i64 o.key
theorem keyV_take (l : List OpV) (k : Nat) (hk : k < l.length) : keyV (l.take (k + 1)) = keyV (l.take k) ++ [.int .i64 l[k].key] := by
  unfold keyV; rw [List.take_succ_eq_append_getElem hk, List.map_append]; rfl
theorem okeys_own {w : World} {base base' : Nat} {v : Value} {e : TypeId} {l : List OpV} (h : w.ownsRow base e 1 v (keyV l).length (keyV l)) (hb : base' ≤ base) : w.ownsRow base' e 1 v l.length (keyV l) := by
  have hkk : (keyV l).length = l.length := by simp [keyV]
  rw [hkk] at h
  obtain ⟨h1, h2⟩ := h
  refine ⟨h1, ?_⟩
  rcases h2 with h2 | ⟨g, cap, cur, e1, e2, r⟩
  · exact .inl h2
  · exact .inr ⟨g, cap, cur, e1, Nat.le_trans hb e2, r⟩
set_option maxHeartbeats 4000000 in
theorem okeys_any (s b c : Int) (va : Value) (l : List OpV) (w : World) (ha : Ops w va l) (hok : ∀ o ∈ l, o.ok) (hlen : l.length ≤ 100000) :
    Calls Tryz.prog 62 #[.agg #[.int .i64 s, .int .i64 b, .int .i64 c, va]] w fun e w' => ∃ v out, e = .returned v ∧ w'.ownsRow w.heap.size 3 1 v out.length (keyV out) ∧ Rise (lastW l) true out ∧ out.length ≤ l.length ∧ Below w.heap.size w w' := by
  obtain ⟨i0, hi, hz0, hz1, hz2⟩ := info_parts infoInt
  obtain ⟨ao, cap, rfl, hal⟩ := ha.form
  have hb0 := box_below w (.cells #[.int .i64 s, .int .i64 b, .int .i64 c, .slice ao l.length cap] 106)
  have CW := Lib.hid (writes_any s b c _ l _ (ha.below hb0) hok hlen)
  clear ha hok
  go_enter Tryz.func62, Tryz.ntmps62
  go_wp2_with fail
  refine (CW.out).mono ?_
  rintro e w1 ⟨v1, out, rfl, hO, hR, hol, hb1⟩
  have hb2 := below_then hb0 hb1
  have HR := Lib.hid (And.intro hR hol)
  have hlim : out.length ≤ 100000 := by omega
  clear CW hb0 hb1 hR hol
  obtain ⟨B, hB⟩ : ∃ B, B = w1.heap.size := ⟨_, rfl⟩
  have hBw : w.heap.size ≤ B := by have := hb2.size; omega
  have hBl : B ≤ w1.heap.size := by omega
  have HB := Lib.hid hB
  clear hB
  have hT := hO.ops
  clear hO
  obtain ⟨a1, cap1, rfl, _⟩ := hT.form
  go_wp2_with fail
  go_loopw [3, 9] (fun v i wr => ∃ k : Nat, k ≤ out.length ∧ i = .int .i64 k ∧ wr.ownsRow B 3 1 v (keyV (out.take k)).length (keyV (out.take k)) ∧ Below B w1 wr)
    (fun _ i _ => out.length - (intOf i).toNat)
  case atStart => exact ⟨0, by omega, rfl, World.ownsRow_nil _ _ _ _, HB.out ▸ Below.refl _ _⟩
  case round =>
    obtain ⟨k, hk, rfl, hown, hb⟩ := hrel
    have hsz := hb.size
    by_cases hlt : k < out.length
    · have hki : (k : Int) < (out.length : Int) := by omega
      obtain ⟨g, o, hao, c0, c1, c2⟩ := (hT.below (HB.out ▸ hb)).at hlt
      cases hao
      have HM := Lib.hid (keyV_take out k hlt)
      have hkl : (keyV (out.take k)).length ≤ 100000 := by simp [keyV]; omega
      generalize out[k].wr = x at *
      generalize out[k].key = y at *
      generalize out[k].val = z at *
      have hbx := hb.alloc (by omega) (.cells #[.bool x, .int .i64 y, .int .i64 z] 102)
      have hownx := hown.alloc (.cells #[.bool x, .int .i64 y, .int .i64 z] 102)
      go_wp2_with (at_builtin; refine wpList_append_own _ rfl _ _ 34 rfl B 3 i0 (.int .i64 0) 1 8 Tryz.underlying34 hi hz0 hz1 hz2 rfl (by decide) _ _ _ rfl (hownx.alloc _) ⟨_, 0, none⟩ 1 1 [.int .i64 y] rfl rfl ?c1 ?c2 ?c3 ?c4 ?c5 ?_)
      case c1 =>
        have e : wr.heap.size + 1 = (wr.alloc (.cells #[.bool x, .int .i64 y, .int .i64 z] 102)).heap.size := by simp
        rw [e]
        exact cell_one_new _ _ _
      case c2 => intro u hu; simp at hu; subst hu; rfl
      case c3 => unfold maxLen; omega
      case c4 => omega
      case c5 => simp; omega
      · intro v' w2 hown' hgrow _
        have hb' := below_app hbx (by omega) hownx hgrow
        clear hown hownx hbx hb hgrow
        go_wp2_with fail
        go_roundw
        case rel =>
          refine ⟨k + 1, by omega, by go_num, ?_, hb'⟩
          rw [HM.out, List.length_append]
          exact hown'
        case measure => simp [intOf]; omega
    · have hkl : k = out.length := by omega
      subst hkl
      rw [List.take_length] at hown
      go_wp2_with fail
      go_ret
      exact ⟨_, out, rfl, okeys_own hown hBw, HR.out.1, HR.out.2, hb2.trans (hb.mono hBw)⟩
end Go.Proofs.YtflalehpdngklaaGreatDoor

namespace Go.Proofs.YtflalehpdngklaaGreatDoor
set_option maxRecDepth 100000
open Go.RowKit

/-- Of whom a value is read; the keys and whom one reads of, but for oneself. -/
def fromO (F : Int → Option WV) (x : Int) : Int := ((F x).map (·.i)).getD (-1)
def rdFr (F : Int → Option WV) (i : Int) (l : List OpV) : List (Int × Int) := (l.filter fun o => fromO F o.val != i).map fun o => (o.key, fromO F o.val)
def frV (l : List (Int × Int)) : List Value := l.flatMap fun p => [.int .i64 p.1, .int .i64 p.2]
theorem frV_app (l m : List (Int × Int)) : frV (l ++ m) = frV l ++ frV m := by simp [frV]
theorem rdFr_snoc (F : Int → Option WV) (i : Int) (l : List OpV) (k : Nat) (hk : k < l.length) : rdFr F i (l.take (k + 1)) = rdFr F i (l.take k) ++ (if fromO F l[k].val = i then [] else [(l[k].key, fromO F l[k].val)]) := by
  unfold rdFr
  rw [List.take_succ_eq_append_getElem hk, List.filter_append, List.map_append]
  by_cases h : fromO F l[k].val = i <;> simp [h]
theorem rdFr_len (F : Int → Option WV) (i : Int) (l : List OpV) : (rdFr F i l).length ≤ l.length := by
  unfold rdFr; rw [List.length_map]; exact List.length_filter_le _ _
theorem infoRd : (Tryz.prog.info? 95).map (fun i => (i.zero, i.size, i.bytes)) = some (some (.agg #[.int .i64 0, .int .i64 0]), 2, 16) := by kernel_rfl
theorem lit_two (w : World) (x y : Value) (t : TypeId) : ∀ j u, [x, y][j]? = some u → (w.alloc (.cells #[x, y] t)).cell? ((⟨w.heap.size, 0, none⟩ : Addr).add j) = some u := by
  have h := At.new w (.cells #[x, y] t)
  unfold At at h
  generalize w.alloc (.cells #[x, y] t) = w1 at *
  generalize w.heap.size = p at *
  intro j u hu
  rcases j with _ | _ | j
  · simp at hu; subst hu; simp [World.cell?, Addr.add, h]
  · simp at hu; subst hu; simp [World.cell?, Addr.add, h]
  · simp at hu
theorem own_base' {w : World} {base base' : Nat} {v : Value} {e : TypeId} {size n : Nat} {xs : List Value} (h : w.ownsRow base e size v n xs) (hb : base' ≤ base) : w.ownsRow base' e size v n xs := by
  obtain ⟨h1, h2⟩ := h
  refine ⟨h1, ?_⟩
  rcases h2 with h2 | ⟨g, cap, cur, e1, e2, r⟩
  · exact .inl h2
  · exact .inr ⟨g, cap, cur, e1, Nat.le_trans hb e2, r⟩
set_option maxHeartbeats 4000000 in
theorem oreads_any (i s b c : Int) (va : Value) (l : List OpV) (F : Int → Option WV) (bm n cc : Nat) (w : World) (ha : Ops w va l) (hok : ∀ o ∈ l, o.ok) (hlen : l.length ≤ 100000) (hM : MapI eW Tryz.prog 3 w bm n F cc) :
    Calls Tryz.prog 63 #[.int .i64 i, .agg #[.int .i64 s, .int .i64 b, .int .i64 c, va], .map (some bm)] w fun e w' => ∃ v out, e = .returned v ∧ w'.ownsRow w.heap.size 95 2 v (rdFr F i out).length (frV (rdFr F i out)) ∧ Rise (firstO l) false out ∧ out.length ≤ l.length ∧ Below w.heap.size w w' := by
  obtain ⟨i0, hi, hz0, hz1, hz2⟩ := info_parts infoRd
  obtain ⟨ao, cap, rfl, hal⟩ := ha.form
  have hb0 := box_below w (.cells #[.int .i64 s, .int .i64 b, .int .i64 c, .slice ao l.length cap] 106)
  have CW := Lib.hid (reads_any s b c _ l _ (ha.below hb0) hok hlen)
  have HOK := Lib.hid hok
  have HMM := Lib.hid (fun wx (hx : Below w.heap.size w wx) => hM.below hx)
  clear ha hok hM
  go_enter Tryz.func63, Tryz.ntmps63
  go_wp2_with fail
  refine (CW.out).mono ?_
  rintro e w1 ⟨v1, out, rfl, hO, hR, hol, hb1⟩
  have hb2 := below_then hb0 hb1
  have HR := Lib.hid (And.intro hR hol)
  have HV := Lib.hid (fun o (ho : o ∈ out) => HOK.out o (firstO_key (((hR.2 o).1 ho).1)).2)
  have HM := Lib.hid ((HMM.out _ hb2))
  have hlim : out.length ≤ 100000 := by omega
  clear CW hb0 hb1 hR hol HOK HMM
  obtain ⟨B, hB⟩ : ∃ B, B = w1.heap.size := ⟨_, rfl⟩
  have hBw : w.heap.size ≤ B := by have := hb2.size; omega
  have hBl : B ≤ w1.heap.size := by omega
  have HB := Lib.hid hB
  clear hB
  have hT := hO.ops
  clear hO
  obtain ⟨a1, cap1, rfl, _⟩ := hT.form
  go_wp2_with fail
  go_loopw [7, 15] (fun v j wr => ∃ k : Nat, k ≤ out.length ∧ j = .int .i64 k ∧ wr.ownsRow B 95 2 v (rdFr F i (out.take k)).length (frV (rdFr F i (out.take k))) ∧ Below B w1 wr)
    (fun _ j _ => out.length - (intOf j).toNat)
  case atStart => exact ⟨0, by omega, rfl, World.ownsRow_nil _ _ _ _, HB.out ▸ Below.refl _ _⟩
  case round =>
    obtain ⟨k, hk, rfl, hown, hb⟩ := hrel
    have hsz := hb.size
    by_cases hlt : k < out.length
    · have hki : (k : Int) < (out.length : Int) := by omega
      obtain ⟨g, o, hao, c0, c1, c2⟩ := (hT.below (HB.out ▸ hb)).at hlt
      cases hao
      have HS := Lib.hid (rdFr_snoc F i out k hlt)
      have hkl : (rdFr F i (out.take k)).length ≤ 100000 := Nat.le_trans (rdFr_len _ _ _) (by rw [List.length_take]; omega)
      have hkv := inI_of (HV.out out[k] (List.getElem_mem hlt)).2
      have hM2 := (HM.out.below (HB.out ▸ hb)).alloc (.cells #[.bool out[k].wr, .int .i64 out[k].key, .int .i64 out[k].val] 102)
      generalize out[k].wr = x at *
      generalize out[k].key = y at *
      generalize out[k].val = z at *
      have hbx := hb.alloc (by omega) (.cells #[.bool x, .int .i64 y, .int .i64 z] 102)
      have hownx := hown.alloc (.cells #[.bool x, .int .i64 y, .int .i64 z] 102)
      cases hv : F z with
      | none =>
        have hf : fromO F z = -1 := by unfold fromO; rw [hv]; rfl
        rw [hf] at HS
        have hby := hbx.alloc (by have := hbx.size; omega) (.cells #[.int .i64 (-1), .int .i64 0, .bool false] 178)
        have howny := hownx.alloc (.cells #[.int .i64 (-1), .int .i64 0, .bool false] 178)
        by_cases hfi : (-1) = i
        · rw [if_pos hfi, List.append_nil] at HS
          subst hfi
          go_wp2_with (at_lookup; refine wpList_lookI_ok _ rfl _ _ 109 rfl 3 178 keyI mapIW wZ (zeroW _) _ _ _ _ rfl hM2 _ rfl hkv ?_; rw [hv]; simp only [Option.getD_none, Option.isSome_none, eW, wZ])
          go_roundw
          case rel => exact ⟨k + 1, by omega, by go_num, by rw [HS.out]; exact howny, hby⟩
          case measure => simp [intOf]; omega
        · rw [if_neg hfi] at HS
          go_wp2_with (first | (at_lookup; refine wpList_lookI_ok _ rfl _ _ 109 rfl 3 178 keyI mapIW wZ (zeroW _) _ _ _ _ rfl hM2 _ rfl hkv ?_; rw [hv]; simp only [Option.getD_none, Option.isSome_none, eW, wZ]) | (at_builtin; refine wpList_append_own _ rfl _ _ 89 rfl B 95 i0 (.agg #[.int .i64 0, .int .i64 0]) 2 16 Tryz.underlying89 hi hz0 hz1 hz2 rfl (by decide) _ _ _ rfl (howny.alloc _) ⟨_, 0, none⟩ 1 1 [.int .i64 y, .int .i64 (-1)] rfl rfl ?c1 ?c2 ?c3 ?c4 ?c5 ?_))
          case c1 =>
            have e : wr.heap.size + 1 + 1 = ((wr.alloc (.cells #[.bool x, .int .i64 y, .int .i64 z] 102)).alloc (.cells #[.int .i64 (-1), .int .i64 0, .bool false] 178)).heap.size := by simp
            rw [e]
            exact lit_two _ _ _ _
          case c2 => intro u hu; simp at hu; rcases hu with rfl | rfl <;> rfl
          case c3 => unfold maxLen; omega
          case c4 => omega
          case c5 => simp; omega
          · intro v' w2 hown' hgrow _
            have hb' := below_app hby (by omega) howny hgrow
            clear hown hownx howny hbx hby hb hgrow
            go_wp2_with fail
            go_roundw
            case rel =>
              refine ⟨k + 1, by omega, by go_num, ?_, hb'⟩
              rw [HS.out, frV_app, List.length_append]
              exact hown'
            case measure => simp [intOf]; omega
      | some u =>
        have hf : fromO F z = u.i := by unfold fromO; rw [hv]; rfl
        rw [hf] at HS
        obtain ⟨ui, uk, ul⟩ := u
        simp only at HS
        have hby := hbx.alloc (by have := hbx.size; omega) (.cells #[.int .i64 ui, .int .i64 uk, .bool ul] 178)
        have howny := hownx.alloc (.cells #[.int .i64 ui, .int .i64 uk, .bool ul] 178)
        by_cases hfi : ui = i
        · rw [if_pos hfi, List.append_nil] at HS
          subst hfi
          go_wp2_with (at_lookup; refine wpList_lookI_ok _ rfl _ _ 109 rfl 3 178 keyI mapIW wZ (zeroW _) _ _ _ _ rfl hM2 _ rfl hkv ?_; rw [hv]; simp only [Option.getD_some, Option.isSome_some, eW])
          go_roundw
          case rel => exact ⟨k + 1, by omega, by go_num, by rw [HS.out]; exact howny, hby⟩
          case measure => simp [intOf]; omega
        · rw [if_neg hfi] at HS
          go_wp2_with (first | (at_lookup; refine wpList_lookI_ok _ rfl _ _ 109 rfl 3 178 keyI mapIW wZ (zeroW _) _ _ _ _ rfl hM2 _ rfl hkv ?_; rw [hv]; simp only [Option.getD_some, Option.isSome_some, eW]) | (at_builtin; refine wpList_append_own _ rfl _ _ 89 rfl B 95 i0 (.agg #[.int .i64 0, .int .i64 0]) 2 16 Tryz.underlying89 hi hz0 hz1 hz2 rfl (by decide) _ _ _ rfl (howny.alloc _) ⟨_, 0, none⟩ 1 1 [.int .i64 y, .int .i64 ui] rfl rfl ?c1 ?c2 ?c3 ?c4 ?c5 ?_))
          case c2 => exact ⟨rfl, rfl⟩
          case c3 => unfold maxLen; omega
          case c4 => omega
          case c5 => omega
          · intro v' w2 hown' hgrow _
            have hb' := below_app hby (by omega) howny hgrow
            clear hown hownx howny hbx hby hb hgrow
            go_wp2_with fail
            go_roundw
            case rel =>
              refine ⟨k + 1, by omega, by go_num, ?_, hb'⟩
              rw [HS.out, frV_app, List.length_append]
              exact hown'
            case measure => simp [intOf]; omega
    · have hkl : k = out.length := by omega
      subst hkl
      rw [List.take_length] at hown
      go_wp2_with fail
      go_ret
      exact ⟨_, out, rfl, own_base' hown hBw, HR.out.1, HR.out.2, hb2.trans (hb.mono hBw)⟩
end Go.Proofs.YtflalehpdngklaaGreatDoor

namespace Go.Proofs.YtflalehpdngklaaGreatDoor
set_option maxRecDepth 100000
open Go.RowKit

/-- A read of what its writer overwrites, or of what oneself writes. -/
def badFr (F : Int → Option WV) (i : Int) (o : OpV) : Bool := match F o.val with | none => false | some u => decide (u.i = i) || !u.last
theorem anyf_take {f : OpV → Bool} {l : List OpV} {k : Nat} (hk : k < l.length) (h : (l.take k).any f = false) : (l.take (k + 1)).any f = f l[k] := by
  rw [List.take_succ_eq_append_getElem hk, List.any_append, h]; simp
theorem anyf_hit {f : OpV → Bool} {l : List OpV} {k : Nat} (hk : k < l.length) (h : f l[k] = true) : l.any f = true := List.any_eq_true.2 ⟨_, List.getElem_mem hk, h⟩
set_option maxHeartbeats 4000000 in
theorem osound_any (i s b c : Int) (va : Value) (l : List OpV) (F : Int → Option WV) (bm n cc : Nat) (w : World) (ha : Ops w va l) (hok : ∀ o ∈ l, o.ok) (hlen : l.length ≤ 100000) (hM : MapI eW Tryz.prog 3 w bm n F cc) :
    Calls Tryz.prog 64 #[.int .i64 i, .agg #[.int .i64 s, .int .i64 b, .int .i64 c, va], .map (some bm)] w fun e w' => ∃ out, e = .returned (.bool (!out.any (badFr F i) && steadyL l)) ∧ Rise (firstO l) false out ∧ out.length ≤ l.length ∧ Below w.heap.size w w' := by
  obtain ⟨ao, cap, rfl, hal⟩ := ha.form
  have hb0 := box_below w (.cells #[.int .i64 s, .int .i64 b, .int .i64 c, .slice ao l.length cap] 106)
  have CW := Lib.hid (reads_any s b c _ l _ (ha.below hb0) hok hlen)
  have HOK := Lib.hid hok
  have HA := Lib.hid (fun wx (hx : Below w.heap.size w wx) => ha.below hx)
  have HMM := Lib.hid (fun wx (hx : Below w.heap.size w wx) => hM.below hx)
  have hx0 := txnBlock w (.int .i64 s) (.int .i64 b) (.int .i64 c) (.slice ao l.length cap) 106
  have hA0 := At.new w (.cells #[.int .i64 s, .int .i64 b, .int .i64 c, .slice ao l.length cap] 106)
  clear ha hok hM hx0
  go_enter Tryz.func64, Tryz.ntmps64
  go_wp2_with fail
  refine (CW.out).mono ?_
  rintro e w1 ⟨v1, out, rfl, hO, hR, hol, hb1⟩
  have hb2 := below_then hb0 hb1
  have hA1 := hA0.below hb1
  have HR := Lib.hid (And.intro hR hol)
  have HV := Lib.hid (fun o (ho : o ∈ out) => HOK.out o (firstO_key (((hR.2 o).1 ho).1)).2)
  have HM := Lib.hid ((HMM.out _ hb2))
  have hlim : out.length ≤ 100000 := by omega
  clear CW hb0 hb1 hR hol HMM hA0
  have hT := hO.ops
  clear hO
  obtain ⟨a1, cap1, rfl, _⟩ := hT.form
  go_wp2_with fail
  go_loopw [14] (fun j wr => ∃ k : Nat, k ≤ out.length ∧ j = .int .i64 k ∧ (out.take k).any (badFr F i) = false ∧ Below w1.heap.size w1 wr)
    (fun j _ => out.length - (intOf j).toNat)
  case atStart => exact ⟨0, by omega, rfl, rfl, Below.refl _ _⟩
  case round =>
    obtain ⟨k, hk, rfl, hno, hb⟩ := hrel
    have HNO := Lib.hid hno
    clear hno
    have hsz := hb.size
    by_cases hlt : k < out.length
    · have hki : (k : Int) < (out.length : Int) := by omega
      obtain ⟨g, o, hao, c0, c1, c2⟩ := (hT.below hb).at hlt
      cases hao
      have HS := Lib.hid (anyf_take hlt HNO.out)
      have HH := Lib.hid (fun h => anyf_hit (f := badFr F i) hlt h)
      have HBD : Hid (badFr F i out[k] = match F out[k].val with | none => false | some u => decide (u.i = i) || !u.last) := Lib.hid rfl
      have hkv := inI_of (HV.out out[k] (List.getElem_mem hlt)).2
      have hM2 := (HM.out.below hb).alloc (.cells #[.bool out[k].wr, .int .i64 out[k].key, .int .i64 out[k].val] 102)
      generalize badFr F i out[k] = bd at *
      generalize out[k].wr = x at *
      generalize out[k].key = y at *
      generalize out[k].val = z at *
      have hbx := hb.alloc hb.size (.cells #[.bool x, .int .i64 y, .int .i64 z] 102)
      cases hv : F z with
      | none =>
        have HF : Hid (bd = false) := Lib.hid (by rw [HBD.out, hv])
        have hby := hbx.alloc hbx.size (.cells #[.int .i64 0, .int .i64 0, .bool false] 178)
        clear HBD
        go_wp2_with (at_lookup; refine wpList_lookI_ok _ rfl _ _ 109 rfl 3 178 keyI mapIW wZ (zeroW _) _ _ _ _ rfl hM2 _ rfl hkv ?_; rw [hv]; simp only [Option.getD_none, Option.isSome_none, eW, wZ])
        go_roundw
        case rel => exact ⟨k + 1, by omega, by go_num, by rw [HS.out, HF.out], hby⟩
        case measure => simp [intOf]; omega
      | some u =>
        obtain ⟨ui, uk, ul⟩ := u
        have HF : Hid (bd = (decide (ui = i) || !ul)) := Lib.hid (by rw [HBD.out, hv])
        have hby := hbx.alloc hbx.size (.cells #[.int .i64 ui, .int .i64 uk, .bool ul] 178)
        clear HBD
        by_cases hfi : ui = i
        · have HB2 : Hid (bd = true) := Lib.hid (by rw [HF.out, decide_eq_true hfi]; rfl)
          subst hfi
          go_wp2_with (at_lookup; refine wpList_lookI_ok _ rfl _ _ 109 rfl 3 178 keyI mapIW wZ (zeroW _) _ _ _ _ rfl hM2 _ rfl hkv ?_; rw [hv]; simp only [Option.getD_some, Option.isSome_some, eW])
          go_ret
          exact ⟨out, by rw [HH.out HB2.out]; rfl, HR.out.1, HR.out.2, hb2.trans (hby.mono hb2.size)⟩
        · cases ul with
          | false =>
            have HB2 : Hid (bd = true) := Lib.hid (by rw [HF.out]; simp)
            go_wp2_with (at_lookup; refine wpList_lookI_ok _ rfl _ _ 109 rfl 3 178 keyI mapIW wZ (zeroW _) _ _ _ _ rfl hM2 _ rfl hkv ?_; rw [hv]; simp only [Option.getD_some, Option.isSome_some, eW])
            go_ret
            exact ⟨out, by rw [HH.out HB2.out]; rfl, HR.out.1, HR.out.2, hb2.trans (hby.mono hb2.size)⟩
          | true =>
            have HB2 : Hid (bd = false) := Lib.hid (by rw [HF.out, decide_eq_false hfi]; rfl)
            go_wp2_with (at_lookup; refine wpList_lookI_ok _ rfl _ _ 109 rfl 3 178 keyI mapIW wZ (zeroW _) _ _ _ _ rfl hM2 _ rfl hkv ?_; rw [hv]; simp only [Option.getD_some, Option.isSome_some, eW])
            go_roundw
            case rel => exact ⟨k + 1, by omega, by go_num, by rw [HS.out, HB2.out], hby⟩
            case measure => simp [intOf]; omega
    · have hkl : k = out.length := by omega
      subst hkl
      have HNA : Hid (out.any (badFr F i) = false) := Lib.hid (by have h := HNO.out; rwa [List.take_length] at h)
      obtain ⟨q0, q1, q2, q3⟩ := (hA1.below hb).cells4
      have hb3 := hb2.trans (hb.mono hb2.size)
      have CS := Lib.hid (steady_any s b c _ l wr (HA.out _ hb3) HOK.out hlen)
      go_wp2_with fail
      refine (CS.out).mono ?_
      rintro e w6 ⟨rfl, hb6⟩
      have hb7 := hb3.trans (hb6.mono hb3.size)
      go_wp2_with fail
      go_ret
      exact ⟨out, by rw [HNA.out]; rfl, HR.out.1, HR.out.2, hb7⟩
end Go.Proofs.YtflalehpdngklaaGreatDoor

namespace Go.Proofs.YtflalehpdngklaaGreatDoor
set_option maxRecDepth 100000
open Go.RowKit

/-- A slice of what is read of others. -/
def Frs (w : World) (v : Value) (l : List (Int × Int)) : Prop := Row w v l.length 2 (frV l)
theorem Frs.below {w w' : World} {v : Value} {l : List (Int × Int)} (h : Frs w v l) (hb : Below w.heap.size w w') : Frs w' v l := Row.below h hb
theorem frV_at : ∀ (l : List (Int × Int)) (k : Nat) (hk : k < l.length), (frV l)[k * 2]? = some (.int .i64 l[k].1) ∧ (frV l)[k * 2 + 1]? = some (.int .i64 l[k].2)
  | [], k, hk => by simp at hk
  | p :: l, 0, _ => by simp [frV]
  | p :: l, k + 1, hk => by
    obtain ⟨h1, h2⟩ := frV_at l k (by simpa using hk)
    have e : (k + 1) * 2 = k * 2 + 1 + 1 := by omega
    have e2 : frV (p :: l) = .int .i64 p.1 :: .int .i64 p.2 :: frV l := rfl
    rw [e, e2]
    exact ⟨by simpa using h1, by simpa using h2⟩
theorem Frs.form {w : World} {v : Value} {l : List (Int × Int)} (h : Frs w v l) : ∃ ao cap, v = .slice ao l.length cap ∧ l.length ≤ 9223372036854775807 := by
  obtain ⟨_, ao, cap, rfl, hm, _, _⟩ := h
  exact ⟨ao, cap, rfl, Nat.le_trans hm.1 hm.2⟩
theorem Frs.at {w : World} {ao : Option Addr} {n cap : Nat} {l : List (Int × Int)} (h : Frs w (.slice ao n cap) l) {k : Nat} (hk : k < l.length) :
    ∃ b off, ao = some ⟨b, off, none⟩ ∧ w.cell? ⟨b, off + k * 2, none⟩ = some (.int .i64 l[k].1) ∧ w.cell? ⟨b, off + k * 2 + 1, none⟩ = some (.int .i64 l[k].2) := by
  obtain ⟨_, ao', cap', he, hm, _, hc⟩ := h
  obtain ⟨rfl, _, _⟩ : ao = ao' ∧ n = l.length ∧ cap = cap' := by simpa using he
  obtain ⟨b, off, rfl, hcell⟩ := hc (by omega)
  obtain ⟨h0, h1⟩ := frV_at l k hk
  exact ⟨b, off, rfl, by rw [hcell _ (by omega), h0], by rw [Nat.add_assoc, hcell _ (by omega), h1]⟩
set_option maxHeartbeats 4000000 in
theorem offrom1_any (y f a : Int) (q : Nat) (w : World) (hq : w.cell? ⟨q, 0, none⟩ = some (.int .i64 a)) :
    Calls Tryz.prog 71 #[.agg #[.int .i64 y, .int .i64 f], .pointer (some ⟨q, 0, none⟩)] w fun e w' => e = .returned (.bool (decide (f = a))) ∧ Below w.heap.size w w' := by
  have hq' := (box_below w (.cells #[.int .i64 y, .int .i64 f] 95)).cell (p := ⟨q, 0, none⟩) (block_lt hq)
  rw [hq] at hq'
  go_enter Tryz.func71, Tryz.ntmps71
  go_wp2_with fail
  go_ret
  exact ⟨rfl, (Below.refl _ _).alloc (Nat.le_refl _) _⟩
theorem frs_take {f : Int × Int → Bool} {l : List (Int × Int)} {k : Nat} (hk : k < l.length) (h : (l.take k).any f = false) : (l.take (k + 1)).any f = f l[k] := by
  rw [List.take_succ_eq_append_getElem hk, List.any_append, h]; simp
set_option maxHeartbeats 4000000 in
theorem ofindex_any (va : Value) (l : List (Int × Int)) (a : Int) (q : Nat) (w : World) (hT : Frs w va l) (hq : w.cell? ⟨q, 0, none⟩ = some (.int .i64 a)) :
    Calls Tryz.prog 137 #[va, .func (.func 71) #[] #[.pointer (some ⟨q, 0, none⟩)]] w fun e w' => ∃ r : Int, e = .returned (.int .i64 r) ∧ decide (0 ≤ r) = l.any (fun p => decide (p.2 = a)) ∧ Below w.heap.size w w' := by
  obtain ⟨ao, cap, rfl, hal⟩ := hT.form
  have HQ := Lib.hid (fun wx (hx : Below w.heap.size w wx) => (hx.cell (p := ⟨q, 0, none⟩) (block_lt hq)).trans hq)
  clear hq
  go_enter Tryz.func137, Tryz.ntmps137
  go_wp2_with fail
  go_loopw [8] (fun i wr => ∃ k : Nat, k ≤ l.length ∧ i = .int .i64 k ∧ (l.take k).any (fun p => decide (p.2 = a)) = false ∧ Below w.heap.size w wr) (fun i _ => l.length - (intOf i).toNat)
  case atStart => exact ⟨0, by omega, rfl, rfl, Below.refl _ _⟩
  case round =>
    obtain ⟨k, hk, rfl, hno, hb⟩ := hrel
    have HNO := Lib.hid hno
    clear hno
    by_cases hlt : k < l.length
    · have hki : (k : Int) < (l.length : Int) := by omega
      obtain ⟨g, o, hao, c0, c1⟩ := (hT.below hb).at hlt
      cases hao
      have HS := Lib.hid (frs_take hlt HNO.out)
      have HH : Hid (decide (l[k].2 = a) = true → l.any (fun p => decide (p.2 = a)) = true) := Lib.hid (fun h => List.any_eq_true.2 ⟨_, List.getElem_mem hlt, h⟩)
      have CF := Lib.hid (offrom1_any l[k].1 l[k].2 a q wr (HQ.out _ hb))
      generalize l[k] = z at *
      obtain ⟨y, f⟩ := z
      simp only at c0 c1 HS HH CF
      by_cases hf : f = a
      · have HD : Hid (l.any (fun p => decide (p.2 = a)) = true) := Lib.hid (HH.out (decide_eq_true hf))
        rw [decide_eq_true hf] at CF
        clear hf HH HS
        go_wp2_with (go_at_call 71; refine (CF.out).mono ?_; rintro e w6 ⟨rfl, hb6⟩)
        have hbb := hb.trans (hb6.mono hb.size)
        go_ret
        exact ⟨_, rfl, by rw [HD.out]; exact decide_eq_true (by omega), hbb⟩
      · have HD : Hid ((l.take (k + 1)).any (fun p => decide (p.2 = a)) = false) := Lib.hid (by rw [HS.out]; exact decide_eq_false hf)
        rw [decide_eq_false hf] at CF
        clear hf HH HS
        go_wp2_with (go_at_call 71; refine (CF.out).mono ?_; rintro e w6 ⟨rfl, hb6⟩)
        have hbb := hb.trans (hb6.mono hb.size)
        go_roundw
        case rel => exact ⟨k + 1, by omega, by go_num, HD.out, hbb⟩
        case measure => simp [intOf]; omega
    · have hkl : k = l.length := by omega
      subst hkl
      have HD : Hid (l.any (fun p => decide (p.2 = a)) = false) := Lib.hid (by have h := HNO.out; rwa [List.take_length] at h)
      go_wp2_with fail
      go_ret
      exact ⟨_, rfl, by rw [HD.out]; rfl, hb⟩
end Go.Proofs.YtflalehpdngklaaGreatDoor

namespace Go.Proofs.YtflalehpdngklaaGreatDoor
set_option maxRecDepth 100000
open Go.RowKit

set_option maxHeartbeats 4000000 in
theorem ofcontains_any (va : Value) (l : List (Int × Int)) (a : Int) (q : Nat) (w : World) (hT : Frs w va l) (hq : w.cell? ⟨q, 0, none⟩ = some (.int .i64 a)) :
    Calls Tryz.prog 70 #[va, .func (.func 71) #[] #[.pointer (some ⟨q, 0, none⟩)]] w fun e w' => e = .returned (.bool (l.any (fun p => decide (p.2 = a)))) ∧ Below w.heap.size w w' := by
  have CI := Lib.hid (ofindex_any va l a q w hT hq)
  obtain ⟨ao, cap, rfl, hal⟩ := hT.form
  clear hT hq
  generalize l.any (fun p => decide (p.2 = a)) = B at *
  go_enter Tryz.func70, Tryz.ntmps70
  go_wp2_with fail
  refine (CI.out).mono ?_
  rintro e w6 ⟨r, rfl, hr, hb6⟩
  go_wp2_with fail
  go_ret
  exact ⟨by subst hr; rfl, hb6⟩
/-- Slices of what is read of others in a slice. -/
def FRws (w : World) (v : Value) (K : List (Value × List (Int × Int))) : Prop := Row w v K.length 1 (K.map (·.1)) ∧ ∀ p ∈ K, Frs w p.1 p.2
theorem FRws.below {w w' : World} {v : Value} {K : List (Value × List (Int × Int))} (h : FRws w v K) (hb : Below w.heap.size w w') : FRws w' v K := ⟨Row.below h.1 hb, fun p hp => (h.2 p hp).below hb⟩
theorem FRws.form {w : World} {v : Value} {K : List (Value × List (Int × Int))} (h : FRws w v K) : ∃ ao cap, v = .slice ao K.length cap := by
  obtain ⟨⟨_, ao, cap, rfl, _⟩, _⟩ := h
  exact ⟨ao, cap, rfl⟩
theorem FRws.at {w : World} {ao : Option Addr} {n cap : Nat} {K : List (Value × List (Int × Int))} (h : FRws w (.slice ao n cap) K) {k : Nat} (hk : k < K.length) :
    ∃ b off, ao = some ⟨b, off, none⟩ ∧ w.cell? ⟨b, off + k, none⟩ = some K[k].1 ∧ Frs w K[k].1 K[k].2 := by
  obtain ⟨⟨_, ao', cap', he, hm, _, hc⟩, hi⟩ := h
  obtain ⟨rfl, _, _⟩ : ao = ao' ∧ n = K.length ∧ cap = cap' := by simpa using he
  obtain ⟨b, off, rfl, hcell⟩ := hc (by omega)
  exact ⟨b, off, rfl, by rw [hcell k (by omega)]; simp [List.getElem?_eq_getElem hk], hi _ (List.getElem_mem hk)⟩
set_option maxHeartbeats 4000000 in
theorem offrom_any (vr : Value) (K : List (Value × List (Int × Int))) (a b : Nat) (p ob : Nat) (w : World) (hp : w.cell? ⟨p, 0, none⟩ = some (.pointer (some ⟨ob, 0, none⟩))) (hr : w.cell? ⟨ob, 195, none⟩ = some vr) (hT : FRws w vr K) (hb : b < K.length) :
    Calls Tryz.prog 69 #[.int .i64 a, .int .i64 b, .pointer (some ⟨p, 0, none⟩)] w fun e w' => e = .returned (.bool (K[b].2.any (fun r => decide (r.2 = (a : Int))))) ∧ Below w.heap.size w w' := by
  obtain ⟨ao, cap, rfl⟩ := hT.form
  have hbi : (b : Int) < (K.length : Int) := by omega
  have hb0 := box_below w (.cells #[.int .i64 a] 3)
  have hp0 := (hb0.cell (p := ⟨p, 0, none⟩) (block_lt hp)).trans hp
  have hr0 := (hb0.cell (p := ⟨ob, 195, none⟩) (block_lt hr)).trans hr
  have hq0 : (w.alloc (.cells #[.int .i64 a] 3)).cell? ⟨w.heap.size, 0, none⟩ = some (.int .i64 a) := by rw [cell_of_row _ _ 0 _ _ _ (heap_alloc_new w _)]; rfl
  obtain ⟨g, o, hao, c0, hF⟩ := (hT.below hb0).at hb
  cases hao
  have CC := Lib.hid (ofcontains_any _ _ (a : Int) w.heap.size _ hF hq0)
  obtain ⟨aq, capq, hqv, hql⟩ := hF.form
  rw [hqv] at c0 CC
  have hmf : ∀ (fn : Fn) (first cap : Array Value) (w : World), (Instr.makeFunc fn first cap).run Tryz.prog w = .ok (.func fn first cap) w := fun _ _ _ _ => rfl
  generalize K[b].2.any (fun r => decide (r.2 = (a : Int))) = B at *
  generalize K[b].2.length = m at *
  clear hT hF hqv hp hr
  go_enter Tryz.func69, Tryz.ntmps69
  go_wp2_with fail
  refine (CC.out).mono ?_
  rintro e w6 ⟨rfl, hb6⟩
  have hbb := below_then hb0 hb6
  go_wp2_with fail
  go_ret
  exact ⟨rfl, hbb⟩
end Go.Proofs.YtflalehpdngklaaGreatDoor

namespace Go.Proofs.YtflalehpdngklaaGreatDoor
set_option maxRecDepth 100000
open Go.RowKit

/-- The set of the numbers below 64 that a test lets by. -/
def mkS (p : Nat → Bool) : Nat := ((List.range 64).filter p).foldl (fun s i => s ||| 2 ^ i) 0
theorem testBit_fold (l : List Nat) : ∀ (s i : Nat), (l.foldl (fun s i => s ||| 2 ^ i) s).testBit i = (s.testBit i || l.contains i) := by
  induction l with
  | nil => intro s i; simp
  | cons a l ih =>
    intro s i
    rw [List.foldl_cons, ih, Nat.testBit_or, Nat.testBit_two_pow, List.contains_cons, Bool.or_assoc]
    congr 2
    rw [Bool.eq_iff_iff, decide_eq_true_iff, beq_iff_eq]
    exact ⟨fun h => h.symm, fun h => h.symm⟩
theorem testBit_mkS (p : Nat → Bool) (i : Nat) : (mkS p).testBit i = (decide (i < 64) && p i) := by
  unfold mkS
  rw [testBit_fold, Nat.zero_testBit, Bool.false_or, Bool.eq_iff_iff]
  simp
theorem isSet_mkS (p : Nat → Bool) : IsSet (mkS p) := by
  apply isSet_of_bits
  intro i hi
  rw [testBit_mkS]
  have : ¬ i < 64 := by omega
  simp [this]
theorem mkS_eq {s : Nat} {p : Nat → Bool} (hs : IsSet s) (h : ∀ i, i < 64 → s.testBit i = p i) : s = mkS p := by
  apply set_ext hs (isSet_mkS p)
  intro i hi
  rw [testBit_mkS, h i hi]; simp [hi]
theorem mkS_congr {p q : Nat → Bool} (h : ∀ i, i < 64 → p i = q i) : mkS p = mkS q := by
  apply mkS_eq (isSet_mkS p)
  intro i hi
  rw [testBit_mkS, h i hi]; simp [hi]
theorem mkS_false : mkS (fun _ => false) = 0 := (mkS_eq (by unfold IsSet; omega) fun i _ => by simp).symm
/-- A relation: does a stand to b? -/
abbrev Mat := Nat → Nat → Bool
/-- The array of a relation's rows. -/
def rowsA (R : Mat) : Array Value := ((List.range 64).map fun i => Value.int .u64 ((mkS (R i) : Nat) : Int)).toArray
theorem rowsA_size (R : Mat) : (rowsA R).size = 64 := by simp [rowsA]
theorem rowsA_at (R : Mat) {i : Nat} (hi : i < 64) : (rowsA R)[i]? = some (.int .u64 ((mkS (R i) : Nat) : Int)) := by
  simp [rowsA, hi]
/-- A relation with one row anew. -/
def rowSet (R : Mat) (a : Nat) (p : Nat → Bool) : Mat := fun i => if i = a then p else R i
theorem rowsA_set (R : Mat) (a s : Nat) (p : Nat → Bool) (hs : s = mkS p) : (rowsA R).setIfInBounds a (.int .u64 (s : Int)) = rowsA (rowSet R a p) := by
  subst hs
  apply Array.ext_getElem?
  intro i
  by_cases hi : i < 64
  · rw [rowsA_at _ hi, Array.getElem?_setIfInBounds]
    unfold rowSet
    by_cases e : a = i
    · subst e; simp [rowsA_size, hi]
    · rw [if_neg e, rowsA_at R hi, if_neg (fun h => e h.symm)]
  · rw [Array.getElem?_eq_none (by rw [Array.size_setIfInBounds, rowsA_size]; omega), Array.getElem?_eq_none (by rw [rowsA_size]; omega)]
theorem rowsA_congr {R S : Mat} (h : ∀ i j, i < 64 → j < 64 → R i j = S i j) : rowsA R = rowsA S := by
  apply Array.ext_getElem?
  intro i
  by_cases hi : i < 64
  · rw [rowsA_at _ hi, rowsA_at _ hi, mkS_congr fun j hj => h i j hi hj]
  · rw [Array.getElem?_eq_none (by rw [rowsA_size]; omega), Array.getElem?_eq_none (by rw [rowsA_size]; omega)]
theorem rowsA_inj {R S : Mat} (h : rowsA R = rowsA S) : ∀ i j, i < 64 → j < 64 → R i j = S i j := by
  intro i j hi hj
  have h1 := rowsA_at R hi
  rw [h, rowsA_at S hi] at h1
  have h2 : mkS (R i) = mkS (S i) := by
    have := Option.some.inj h1
    simp at this; omega
  have h3 := congrArg (fun s => s.testBit j) h2
  simpa [testBit_mkS, hj] using h3
/-- The block that holds a relation. -/
def RelAt (w : World) (g : Nat) (t : TypeId) (R : Mat) : Prop := w.heap[g]? = some (.cells (rowsA R) t (0, 0))
theorem RelAt.cell {w : World} {g : Nat} {t : TypeId} {R : Mat} (h : RelAt w g t R) {i : Nat} (hi : i < 64) : w.cell? ⟨g, i, none⟩ = some (.int .u64 ((mkS (R i) : Nat) : Int)) := by
  rw [cell_of_row w g i _ _ _ h, rowsA_at R hi]
theorem RelAt.free {w : World} {g : Nat} {t : TypeId} {R : Mat} (h : RelAt w g t R) (i : Nat) : w.frozen? ⟨g, i, none⟩ = false := frozen_of_row w g i _ _ h
theorem RelAt.lt {w : World} {g : Nat} {t : TypeId} {R : Mat} (h : RelAt w g t R) : g < w.heap.size := by
  by_cases h0 : g < w.heap.size
  · exact h0
  · unfold RelAt at h; rw [Array.getElem?_eq_none (Nat.le_of_not_lt h0)] at h; cases h
theorem RelAt.below {w w' : World} {g B : Nat} {t : TypeId} {R : Mat} (h : RelAt w g t R) (hb : Below B w w') (hB : g < B) : RelAt w' g t R := by
  unfold RelAt at *; rw [hb.block g hB, h]
theorem RelAt.store {w : World} {g : Nat} {t : TypeId} {R : Mat} (h : RelAt w g t R) (a s : Nat) (p : Nat → Bool) (hs : s = mkS p) :
    RelAt (w.setCell ⟨g, a, none⟩ (.int .u64 (s : Int))) g t (rowSet R a p) := by
  unfold RelAt at *
  rw [heap_setCell_same w g a _ t _ h, rowsA_set R a s p hs]
theorem RelAt.other {w : World} {g : Nat} {t : TypeId} {R : Mat} (h : RelAt w g t R) {k : Addr} (hk : g ≠ k.block) (v : Value) : RelAt (w.setCell k v) g t R := by
  unfold RelAt at *; rw [heap_setCell_other w k g v hk, h]
theorem RelAt.alloc {w : World} {g : Nat} {t : TypeId} {R : Mat} (h : RelAt w g t R) (o : Obj) : RelAt (w.alloc o) g t R := by
  have hl := RelAt.lt h
  unfold RelAt at *; rw [Below.heap_alloc w o g hl, h]
theorem RelAt.new (w : World) (t : TypeId) (R : Mat) : RelAt (w.alloc (.cells (rowsA R) t)) w.heap.size t R := heap_alloc_new w _
/-- The relation that has nothing. -/
def noR : Mat := fun _ _ => false
theorem rowsA_none : rowsA noR = Array.replicate 64 (.int .u64 0) := by
  apply Array.ext_getElem?
  intro i
  by_cases hi : i < 64
  · rw [rowsA_at _ hi, Array.getElem?_replicate, if_pos hi]
    have : mkS (noR i) = 0 := mkS_false
    rw [this]; rfl
  · rw [Array.getElem?_eq_none (by rw [rowsA_size]; omega), Array.getElem?_eq_none (by simp; omega)]
theorem RelAt.made (w : World) (t : TypeId) (R : Mat) {cs : Array Value} {g : Nat} (hg : g = w.heap.size) (hc : cs = rowsA R) : RelAt (w.alloc (.cells cs t)) g t R := by
  subst hg hc; exact RelAt.new w t R
end Go.Proofs.YtflalehpdngklaaGreatDoor

namespace Go.Proofs.YtflalehpdngklaaGreatDoor
set_option maxRecDepth 100000
open Go.RowKit

def mayB (n : Int) : Bool := decide (0 ≤ n ∧ n < 64)
set_option maxHeartbeats 400000 in
theorem rmayn_any (n : Int) (w : World) :
    Calls Tryz.prog 120 #[.int .i64 n] w fun e w' => e = .returned (.bool (mayB n)) ∧ w = w' := by
  have H : Hid ((decide (0 ≤ n) && decide (n < 64)) = mayB n) := Lib.hid (by unfold mayB; simp)
  by_cases h0 : 0 ≤ n
  · have H1 : Hid (decide (n < 64) = mayB n) := Lib.hid (by rw [← H.out]; simp [h0])
    go_enter Tryz.func120, Tryz.ntmps120
    go_wp2
    go_ret
    exact ⟨ret_b H1.out, rfl⟩
  · have H1 : Hid (false = mayB n) := Lib.hid (by rw [← H.out]; simp [h0])
    go_enter Tryz.func120, Tryz.ntmps120
    go_wp2
    go_ret
    exact ⟨ret_b H1.out, rfl⟩
theorem may_yes (n : Int) (w : World) (h : 0 ≤ n ∧ n < 64) : Calls Tryz.prog 120 #[.int .i64 n] w fun e w' => e = .returned (.bool true) ∧ w = w' := by
  have := rmayn_any n w
  rwa [show mayB n = true from by unfold mayB; simp [h]] at this
theorem may_no (n : Int) (w : World) (h : ¬ (0 ≤ n ∧ n < 64)) : Calls Tryz.prog 120 #[.int .i64 n] w fun e w' => e = .returned (.bool false) ∧ w = w' := by
  have := rmayn_any n w
  rwa [show mayB n = false from by unfold mayB; simp [h]] at this

/-- Does a stand to b, of any numbers? -/
def hasR (R : Mat) (a b : Int) : Bool := mayB a && hasB (mkS (R a.toNat)) b
set_option maxHeartbeats 400000 in
theorem rhasR_any (R : Mat) (a b : Int) (w : World) :
    Calls Tryz.prog 45 #[.agg (rowsA R), .int .i64 a, .int .i64 b] w fun e w' => e = .returned (.bool (hasR R a b)) ∧ Below w.heap.size w w' := by
  by_cases ha : 0 ≤ a ∧ a < 64
  · obtain ⟨i, rfl⟩ := Int.eq_ofNat_of_zero_le ha.1
    have hi : i < 64 := by omega
    have CM := Lib.hid (fun wx => may_yes (i : Int) wx ha)
    have HR : Hid (hasB (mkS (R i)) b = hasR R (i : Int) b) := Lib.hid (by unfold hasR mayB; simp [ha])
    have hc := (RelAt.new w 38 R).cell hi
    have hset := isSet_mkS (R i)
    clear ha
    generalize mkS (R i) = s at *
    go_enter Tryz.func45, Tryz.ntmps45
    go_wp2_with (first
      | (go_at_call 120; refine (CM.out _).mono ?_; rintro e w' ⟨rfl, rfl⟩)
      | (go_at_call 44; refine (has_any s b _ hset).mono ?_; rintro e w' ⟨rfl, rfl⟩))
    go_ret
    exact ⟨ret_b HR.out, (Below.refl _ _).alloc (Nat.le_refl _) _⟩
  · have CM := Lib.hid (fun wx => may_no a wx ha)
    have HR : Hid (false = hasR R a b) := Lib.hid (by unfold hasR mayB; simp [ha])
    clear ha
    go_enter Tryz.func45, Tryz.ntmps45
    go_wp2_with (go_at_call 120; refine (CM.out _).mono ?_; rintro e w' ⟨rfl, rfl⟩)
    go_ret
    exact ⟨ret_b HR.out, (Below.refl _ _).alloc (Nat.le_refl _) _⟩

theorem infoRel : (Tryz.prog.info? 38).map (·.size) = some 64 := by kernel_rfl
theorem infoRel' (R : Mat) : (Tryz.prog.info? 38).map (·.size) = some (rowsA R).size := by rw [rowsA_size]; exact infoRel
theorem rows_one (R : Mat) : (rowsA R).all (·.oneCell') = true := by
  rw [Array.all_eq_true_iff_forall_mem]
  intro v hv
  have : v ∈ (rowsA R).toList := by simpa using hv
  simp only [rowsA, List.toList_toArray, List.mem_map] at this
  obtain ⟨i, _, rfl⟩ := this
  rfl
theorem RelAt.setRow {w : World} {g : Nat} {t : TypeId} {R : Mat} (h : RelAt w g t R) (S : Mat) : RelAt (w.setRow g (rowsA S)) g t S := setRow_heap w g _ _ t _ h
/-- A whole relation read out of its block, and written into one. -/
theorem wpList_load_rel {ops : Array Oper} {rest : List Oper} {o : Oper} {a : Act} {w : World} {Q : Exit → Act → World → Prop} {g : Nat} {R : Mat} (h : RelAt w g 38 R) (hgd : o.guard = none) (x : Operand) (ho : o.op = .load 38 x)
    (hx : a.eval x = .pointer (some ⟨g, 0, none⟩)) (hn : wpList Tryz.prog ops Q rest (a.put o.dst (.agg (rowsA R))) w) : wpList Tryz.prog ops Q (o :: rest) a w :=
  wpList_load_row hgd 38 x ho g hx _ (rowsA R) _ _ h Tryz.underlying38 rfl (infoRel' _) hn
theorem wpList_store_rel {ops : Array Oper} {rest : List Oper} {o : Oper} {a : Act} {w : World} {Q : Exit → Act → World → Prop} {g : Nat} {S : Mat} (h : RelAt w g 38 S) (R : Mat) (hgd : o.guard = none) (x y : Operand) (ho : o.op = .store 38 x y)
    (hx : a.eval x = .pointer (some ⟨g, 0, none⟩)) (hy : a.eval y = .agg (rowsA R)) (hn : wpList Tryz.prog ops Q rest (a.put o.dst undef) (w.setRow g (rowsA R))) : wpList Tryz.prog ops Q (o :: rest) a w :=
  wpList_store_row hgd 38 x y ho g (rowsA R) hx hy _ _ h (infoRel' _) (by rw [rowsA_size, rowsA_size]) (rows_one _) hn
theorem results_rel {fn : Func} {p : Tmp} (h : fn.results = #[.cell p 38]) (tmps : Array Value) (w : World) (g : Nat) (R : Mat)
    (hp : tmps.getD p undef = .pointer (some ⟨g, 0, none⟩)) (hg : RelAt w g 38 R) : (results fn tmps).run Tryz.prog w = .ok (.agg (rowsA R)) w :=
  results_cell_row h tmps w g _ (rowsA R) _ _ hp hg Tryz.underlying38 rfl (infoRel' _)
def orR (R S : Mat) : Mat := fun i j => R i j || S i j
theorem mkS_or (p q : Nat → Bool) : mkS p ||| mkS q = mkS fun j => p j || q j := by
  apply mkS_eq (isSet_or (isSet_mkS p) (isSet_mkS q))
  intro i hi
  rw [Nat.testBit_or, testBit_mkS, testBit_mkS]; simp [hi]
theorem u64_or (p q : Nat → Bool) : Go.bits .or .u64 ((mkS p : Nat) : Int) ((mkS q : Nat) : Int) = ((mkS (fun j => p j || q j) : Nat) : Int) := by
  rw [Go.bits_or_u64_nat _ _ (isSet_mkS p) (isSet_mkS q), mkS_or]
end Go.Proofs.YtflalehpdngklaaGreatDoor

namespace Go.Proofs.YtflalehpdngklaaGreatDoor
set_option maxRecDepth 100000

/-- One comes from i to j, in one step or more, by numbers below 64. -/
inductive Path (R : Mat) : Nat → Nat → Prop
  | one {i j : Nat} : R i j = true → Path R i j
  | more {i m j : Nat} : R i m = true → m < 64 → Path R m j → Path R i j
theorem Path.trans {R : Mat} {i m j : Nat} (h : Path R i m) (hm : m < 64) (k : Path R m j) : Path R i j := by
  induction h with
  | one h => exact .more h hm k
  | more h h2 _ ih => exact .more h h2 (ih hm k)
theorem Path.mono {R S : Mat} {i j : Nat} (h : Path R i j) (hRS : ∀ a b, R a b = true → S a b = true) : Path S i j := by
  induction h with
  | one h => exact .one (hRS _ _ h)
  | more h h2 _ ih => exact .more (hRS _ _ h) h2 ih
/-- One pass: what comes by m is added on. -/
def wPass (R : Mat) (m : Nat) : Mat := fun i j => R i j || (R i m && R m j)
/-- The pass, done for the rows below k. -/
def wTo (R : Mat) (m k : Nat) : Mat := fun i j => if i < k then wPass R m i j else R i j
def cloTo (R : Mat) : Nat → Mat
  | 0 => R
  | m + 1 => wPass (cloTo R m) m
def clo (R : Mat) : Mat := cloTo R 64
theorem cloTo_path (R : Mat) : ∀ (k : Nat), k ≤ 64 → ∀ i j, cloTo R k i j = true → Path R i j
  | 0, _, i, j, h => .one h
  | k + 1, hk, i, j, h => by
    have h' : (cloTo R k i j || (cloTo R k i k && cloTo R k k j)) = true := h
    rw [Bool.or_eq_true, Bool.and_eq_true] at h'
    rcases h' with h' | ⟨h1, h2⟩
    · exact cloTo_path R k (by omega) i j h'
    · exact (cloTo_path R k (by omega) i k h1).trans (by omega) (cloTo_path R k (by omega) k j h2)
theorem cloTo_sub (R : Mat) (i j : Nat) (h : R i j = true) : ∀ k, cloTo R k i j = true
  | 0 => h
  | k + 1 => by
    show (cloTo R k i j || _) = true
    rw [cloTo_sub R i j h k]; rfl
theorem cloTo_trans (R : Mat) : ∀ (k : Nat) (i m j : Nat), m < k → cloTo R k i m = true → cloTo R k m j = true → cloTo R k i j = true
  | 0, _, _, _, h, _, _ => by omega
  | k + 1, i, m, j, hm, h1, h2 => by
    have ih := cloTo_trans R k
    have e1 : (cloTo R k i m || (cloTo R k i k && cloTo R k k m)) = true := h1
    have e2 : (cloTo R k m j || (cloTo R k m k && cloTo R k k j)) = true := h2
    show (cloTo R k i j || (cloTo R k i k && cloTo R k k j)) = true
    generalize cloTo R k = A at *
    rw [Bool.or_eq_true, Bool.and_eq_true] at *
    by_cases hmk : m = k
    · subst hmk
      exact .inr ⟨e1.elim id (·.1), e2.elim id (·.2)⟩
    · have hlt : m < k := by omega
      rcases e1 with a | ⟨a1, a2⟩ <;> rcases e2 with b | ⟨b1, b2⟩
      · exact .inl (ih i m j hlt a b)
      · exact .inr ⟨ih i m k hlt a b1, b2⟩
      · exact .inr ⟨a1, ih k m j hlt a2 b⟩
      · exact .inr ⟨a1, b2⟩
theorem clo_iff (R : Mat) (i j : Nat) : clo R i j = true ↔ Path R i j := by
  constructor
  · exact cloTo_path R 64 (Nat.le_refl _) i j
  · intro h
    induction h with
    | one h => exact cloTo_sub R _ _ h 64
    | more h hm _ ih => exact cloTo_trans R 64 _ _ _ hm (cloTo_sub R _ _ h 64) ih
theorem wTo_row (R : Mat) (m k : Nat) : wTo R m k m = R m := by
  funext j
  unfold wTo wPass
  split
  · cases R m m <;> cases R m j <;> rfl
  · rfl
theorem wTo_at (R : Mat) (m k : Nat) : wTo R m k k = R k := by funext j; unfold wTo; rw [if_neg (by omega)]
theorem wTo_hit (R : Mat) (m k : Nat) (h : R k m = true) : rowSet (wTo R m k) k (fun j => R k j || R m j) = wTo R m (k + 1) := by
  funext i j
  unfold rowSet wTo
  by_cases e : i = k
  · subst e; rw [if_pos rfl, if_pos (by omega)]; unfold wPass; rw [h]; simp
  · rw [if_neg e]
    by_cases h2 : i < k
    · rw [if_pos h2, if_pos (by omega)]
    · rw [if_neg h2, if_neg (by omega)]
theorem wTo_miss (R : Mat) (m k : Nat) (h : R k m = false) : wTo R m (k + 1) = wTo R m k := by
  funext i j
  unfold wTo
  by_cases e : i = k
  · subst e; rw [if_pos (by omega), if_neg (by omega)]; unfold wPass; rw [h]; simp
  · by_cases h2 : i < k
    · rw [if_pos h2, if_pos (by omega)]
    · rw [if_neg h2, if_neg (by omega)]
theorem wTo_end (R : Mat) (m : Nat) : rowsA (wTo R m 64) = rowsA (wPass R m) := rowsA_congr fun i j hi _ => by unfold wTo; rw [if_pos hi]
/-- Does nothing stand to itself? -/
def irr (R : Mat) : Bool := (List.range 64).all fun i => !R i i
def acy (R : Mat) : Bool := irr (clo R)
theorem irr_succ (R : Mat) (k : Nat) : ((List.range (k + 1)).all fun i => !R i i) = (((List.range k).all fun i => !R i i) && !R k k) := by
  rw [List.range_succ, List.all_append]; simp
theorem acy_iff (R : Mat) : acy R = true ↔ ∀ i, i < 64 → ¬ Path R i i := by
  unfold acy irr
  rw [List.all_eq_true]
  constructor
  · intro h i hi hp
    have := h i (List.mem_range.2 hi)
    rw [(clo_iff R i i).2 hp] at this
    cases this
  · intro h i hi
    cases e : clo R i i
    · rfl
    · exact absurd ((clo_iff R i i).1 e) (h i (List.mem_range.1 hi))
end Go.Proofs.YtflalehpdngklaaGreatDoor

namespace Go.Proofs.YtflalehpdngklaaGreatDoor
set_option maxRecDepth 100000
open Go.RowKit

theorem infoSet : (Tryz.prog.info? 36).map (·.size) = some 1 := by kernel_rfl
theorem run_index_rel (R : Mat) (k : Nat) (hk : k < 64) (w : World) :
    (Instr.index 38 (.agg (rowsA R)) (.int .i64 (k : Int))).run Tryz.prog w = .ok (.int .u64 ((mkS (R k) : Nat) : Int)) w := by
  have h1 := rowsA_at R hk
  obtain ⟨i, hi, hs⟩ := Option.map_eq_some_iff.1 infoSet
  simp [Instr.index, asIntOf, Sem.run_bind, run_underlying Tryz.underlying38 w, hk, sizeOf, typeInfo, hi, hs, part, isAgg, h1]

def inMTo (R S : Mat) (k : Nat) : Bool := (List.range k).all fun i => inB (mkS (R i)) (mkS (S i))
/-- Is a relation within another one? -/
def inM (R S : Mat) : Bool := inMTo R S 64
theorem inMTo_succ (R S : Mat) (k : Nat) : inMTo R S (k + 1) = (inMTo R S k && inB (mkS (R k)) (mkS (S k))) := by
  unfold inMTo
  rw [List.range_succ, List.all_append]; simp
theorem inMTo_no (R S : Mat) (k : Nat) (hk : k < 64) (h : inB (mkS (R k)) (mkS (S k)) = false) : false = inM R S := by
  symm
  unfold inM inMTo
  rw [List.all_eq_false]
  exact ⟨k, List.mem_range.2 hk, by simp [h]⟩
set_option maxHeartbeats 1000000 in
theorem withinR_any (R S : Mat) (w : World) :
    Calls Tryz.prog 51 #[.agg (rowsA R), .agg (rowsA S)] w fun e w' => e = .returned (.bool (inM R S)) ∧ Below w.heap.size w w' := by
  go_enter Tryz.func51, Tryz.ntmps51
  go_wp2
  go_loopw [6] (fun i wr => ∃ k : Nat, k ≤ 64 ∧ i = .int .i64 k ∧ inMTo R S k = true ∧ RelAt wr w.heap.size 38 R ∧ RelAt wr (w.heap.size + 1) 38 S ∧ Below w.heap.size w wr)
    (fun i _ => 64 - (intOf i).toNat)
  case atStart =>
    refine ⟨0, by omega, rfl, rfl, ?_, ?_, ?_⟩
    · exact (RelAt.made w _ R rfl rfl).alloc _
    · exact RelAt.made _ _ S (by simp) rfl
    · exact ((Below.refl w.heap.size w).alloc (Nat.le_refl _) _).alloc (by simp) _
  case round =>
    obtain ⟨k, hk, rfl, hin, h0, h1, hb⟩ := hrel
    have HI := Lib.hid hin
    clear hin
    by_cases hlt : k < 64
    · have hc0 := h0.cell hlt
      have hc1 := h1.cell hlt
      have H0 := Lib.hid h0
      have H1 := Lib.hid h1
      have HS := Lib.hid (inMTo_succ R S k)
      have HN := Lib.hid (inMTo_no R S k hlt)
      have hs0 := isSet_mkS (R k)
      have hs1 := isSet_mkS (S k)
      clear h0 h1
      generalize mkS (R k) = x at *
      generalize mkS (S k) = y at *
      have C : ∀ wx, Calls Tryz.prog 109 #[.int .u64 (x : Int), .int .u64 (y : Int)] wx fun e w' => e = .returned (.bool (inB x y)) ∧ w' = wx :=
        fun wx => (within_any x y wx hs0 hs1).mono fun _ _ h => ⟨h.1, h.2.symm⟩
      cases hh : inB x y
      all_goals
        rw [hh] at C
        have CH := Lib.hid C
        have HE := Lib.hid hh
        clear C hh
        go_wp2
        go_quiet ((go_at_call 109; exact Calls.quiet_of_same (CH.out _)))
        go_wp2
      · go_ret
        exact ⟨ret_b (HN.out HE.out), below_drewN hb _⟩
      · go_roundw
        case rel => exact ⟨k + 1, by omega, by go_num, by rw [HS.out, HI.out, HE.out]; rfl, H0.out, H1.out, below_drewN hb _⟩
        case measure => simp [intOf]; omega
    · have hk64 : k = 64 := by omega
      subst hk64
      have HI' : Hid (true = inM R S) := Lib.hid HI.out.symm
      go_wp2
      go_ret
      exact ⟨ret_b HI'.out, hb⟩

theorem hasB_mkS (p : Nat → Bool) (n : Nat) (hn : n < 64) : hasB (mkS p) (n : Int) = p n := by
  unfold hasB
  have h : 0 ≤ (n : Int) ∧ (n : Int) < 64 := by omega
  rw [Int.toNat_natCast, testBit_mkS]
  simp [h, hn]
set_option maxHeartbeats 2000000 in
theorem rclos_any (R : Mat) (w : World) :
    Calls Tryz.prog 52 #[.agg (rowsA R)] w fun e w' => e = .returned (.agg (rowsA (clo R))) ∧ Below w.heap.size w w' := by
  go_enter Tryz.func52, Tryz.ntmps52
  go_wp2
  go_loopw [5] (fun i wr => ∃ m : Nat, m ≤ 64 ∧ i = .int .i64 m ∧ RelAt wr w.heap.size 38 (cloTo R m) ∧ RelAt wr (w.heap.size + 1) 38 noR ∧ Below w.heap.size w wr)
    (fun i _ => 64 - (intOf i).toNat)
  case atStart =>
    refine ⟨0, by omega, rfl, ?_, ?_, ?_⟩
    · exact (RelAt.made w _ R rfl rfl).alloc _
    · exact RelAt.made _ _ noR (by simp) (by rw [rowsA_none]; rfl)
    · exact ((Below.refl w.heap.size w).alloc (Nat.le_refl _) _).alloc (by simp) _
  case round =>
    obtain ⟨m, hm, rfl, h0, h1, hb⟩ := hrel
    by_cases hlt : m < 64
    · have HE : Hid (rowsA (wTo (cloTo R m) m 64) = rowsA (cloTo R (m + 1))) := Lib.hid (wTo_end _ _)
      have HA : Hid (rowsA (cloTo R m) = rowsA (wTo (cloTo R m) m 0)) := Lib.hid (rowsA_congr fun i j _ _ => by unfold wTo; rw [if_neg (by omega)])
      have H0 := Lib.hid h0
      clear h0
      generalize cloTo R m = A at *
      have hdm : decide ((m : Int) < 64) = true := by simp; omega
      go_wp2_with fail
      go_loopw [8] (fun i wx => ∃ k : Nat, k ≤ 64 ∧ i = .int .i64 k ∧ RelAt wx w.heap.size 38 (wTo A m k) ∧ RelAt wx (w.heap.size + 1) 38 noR ∧ Below w.heap.size w wx)
        (fun i _ => 64 - (intOf i).toNat)
      case atStart => exact ⟨0, by omega, rfl, by have := H0.out; unfold RelAt at *; rw [← HA.out]; exact this, h1, hb⟩
      case round =>
        obtain ⟨k, hk, rfl, hx0, hx1, hxb⟩ := hrel
        by_cases hlk : k < 64
        · have hc0 := hx0.cell hlk
          have hc1 := hx0.cell hlt
          rw [wTo_at] at hc0
          rw [wTo_row] at hc1
          have hf := hx0.free k
          have C := fun wx => has_any (mkS (A k)) (m : Int) wx (isSet_mkS _)
          rw [hasB_mkS _ _ hlt] at C
          cases hh : A k m
          · rw [hh] at C
            have CH := Lib.hid C
            have HM := Lib.hid (wTo_miss A m k hh)
            have HX := Lib.hid hx0
            clear C hh hx0
            generalize mkS (A k) = x at *
            generalize mkS (A m) = y at *
            go_wp2_with (go_at_call 44; refine (CH.out _).mono ?_; rintro e w' ⟨rfl, rfl⟩)
            go_roundw
            case rel => exact ⟨k + 1, by omega, by go_num, by rw [HM.out]; exact HX.out, hx1, hxb⟩
            case measure => simp [intOf]; omega
          · rw [hh] at C
            have CH := Lib.hid C
            have HM := Lib.hid (wTo_hit A m k hh)
            have HO := u64_or (A k) (A m)
            have HN := Lib.hid (hx0.store k _ (fun j => A k j || A m j) rfl)
            have H1 := Lib.hid (hx1.other (k := ⟨w.heap.size, k, none⟩) (by simp) (.int .u64 ((mkS (fun j => A k j || A m j) : Nat) : Int)))
            have HB := Lib.hid (hxb.setCell (p := ⟨w.heap.size, k, none⟩) (Nat.le_refl _) (.int .u64 ((mkS (fun j => A k j || A m j) : Nat) : Int)))
            clear C hh hx0 hx1 hxb
            generalize mkS (fun j => A k j || A m j) = z at *
            generalize mkS (A k) = x at *
            generalize mkS (A m) = y at *
            have hmi : (m : Int) < 64 := by omega
            have hki : (k : Int) < 64 := by omega
            go_wp2_with (go_at_call 44; refine (CH.out _).mono ?_; rintro e w' ⟨rfl, rfl⟩)
            go_still_tail 8, (by kernel_rfl)
            go_wp2
            go_roundw
            case rel => exact ⟨k + 1, by omega, by go_num, by rw [← HM.out]; exact HN.out, H1.out, HB.out.drew⟩
            case measure => simp [intOf]; omega
        · have hk64 : k = 64 := by omega
          subst hk64
          have HX : Hid (RelAt _ w.heap.size 38 (cloTo R (m + 1))) := Lib.hid (by unfold RelAt at *; rw [← HE.out]; exact hx0)
          clear hx0
          go_wp2
          go_roundw
          case rel => exact ⟨m + 1, by omega, by go_num, HX.out, hx1, hxb⟩
          case measure => simp [intOf]; omega
    · have hm64 : m = 64 := by omega
      subst hm64
      go_wp2_with (first
        | (with_reducible refine wpList_load_rel h0 rfl _ rfl rfl ?_)
        | (with_reducible refine wpList_store_rel h1 (cloTo R 64) rfl _ _ rfl rfl rfl ?_))
      exact bodyPost_ret (results_rel rfl _ _ _ _ rfl (h1.setRow (cloTo R 64))) rfl ⟨rfl, below_setRow hb (by omega) _⟩
end Go.Proofs.YtflalehpdngklaaGreatDoor

namespace Go.Proofs.YtflalehpdngklaaGreatDoor
set_option maxRecDepth 100000
open Go.RowKit

def irrTo (R : Mat) (k : Nat) : Bool := (List.range k).all fun i => !R i i
theorem irrTo_no (R : Mat) (k : Nat) (hk : k < 64) (h : R k k = true) : false = irr R := by
  symm
  unfold irr
  rw [List.all_eq_false]
  exact ⟨k, List.mem_range.2 hk, by simp [h]⟩
set_option maxHeartbeats 1000000 in
theorem acyclic_any (R : Mat) (w : World) :
    Calls Tryz.prog 53 #[.agg (rowsA R)] w fun e w' => e = .returned (.bool (acy R)) ∧ Below w.heap.size w w' := by
  have h0 := RelAt.new w 38 R
  have HD : Hid (acy R = irr (clo R)) := Lib.hid rfl
  go_enter Tryz.func53, Tryz.ntmps53
  go_wp2_with (with_reducible refine wpList_load_rel h0 rfl _ rfl rfl ?_)
  refine (rclos_any R _).mono ?_
  rintro e w1 ⟨rfl, hb⟩
  have hb1 : Below w.heap.size w w1 := ((Below.refl w.heap.size w).alloc (Nat.le_refl _) _).trans (hb.mono (by simp))
  clear hb h0
  go_wp2_with fail
  generalize clo R = C at *
  go_loop [7] (fun i => ∃ k : Nat, k ≤ 64 ∧ i = .int .i64 k ∧ irrTo C k = true) (fun i => 64 - (intOf i).toNat)
  case atStart => exact ⟨0, by omega, rfl, rfl⟩
  case round =>
    obtain ⟨k, hk, rfl, hirr⟩ := hrel
    have HI := Lib.hid hirr
    clear hirr
    by_cases hlt : k < 64
    · have hidx := fun wx => run_index_rel C k hlt wx
      have CH := fun wx => has_any (mkS (C k)) (k : Int) wx (isSet_mkS _)
      rw [hasB_mkS _ _ hlt] at CH
      have HS := Lib.hid (irr_succ C k)
      have HN := Lib.hid (irrTo_no C k hlt)
      cases hh : C k k
      all_goals
        rw [hh] at CH
        have CH' := Lib.hid CH
        have HE := Lib.hid hh
        clear CH hh
        generalize mkS (C k) = x at *
        go_wp2_with (go_at_call 44; refine (CH'.out _).mono ?_; rintro e w' ⟨rfl, rfl⟩)
      · go_round
        case rel => exact ⟨k + 1, by omega, by go_num, by unfold irrTo; rw [HS.out, HE.out]; have := HI.out; unfold irrTo at this; rw [this]; rfl⟩
        case measure => simp [intOf]; omega
      · go_ret
        exact ⟨ret_b (by rw [HD.out]; exact HN.out HE.out), hb1⟩
    · have hk64 : k = 64 := by omega
      subst hk64
      go_wp2
      go_ret
      exact ⟨ret_b (by rw [HD.out]; exact HI.out.symm), hb1⟩

theorem withS_mkS (q : Nat → Bool) (a : Nat) (ha : a < 64) : withS (mkS q) (a : Int) = mkS fun j => q j || decide (j = a) := by
  apply mkS_eq (isSet_withS (isSet_mkS q))
  intro i hi
  rw [testBit_withS, testBit_mkS]
  have h : 0 ≤ (a : Int) ∧ (a : Int) < 64 := by omega
  simp only [hi, h, decide_true, Bool.true_and, and_self, Int.toNat_natCast]
  congr 1
  rw [Bool.eq_iff_iff]; simp; exact ⟨fun h => h.symm, fun h => h.symm⟩
end Go.Proofs.YtflalehpdngklaaGreatDoor

namespace Go.Proofs.YtflalehpdngklaaGreatDoor
set_option maxRecDepth 100000
open Go.RowKit

def thenR (R S : Mat) : Mat := fun i j => (List.range 64).any fun m => R i m && S m j
end Go.Proofs.YtflalehpdngklaaGreatDoor

namespace Go.Proofs.YtflalehpdngklaaGreatDoor
set_option maxRecDepth 100000
open Go.RowKit

/-- With one pair more, if both may be. -/
def addM (R : Mat) (a b : Int) : Mat := if mayB a = true ∧ mayB b = true then rowSet R a.toNat (fun j => R a.toNat j || decide (j = b.toNat)) else R
set_option maxHeartbeats 1000000 in
theorem add_yes (R : Mat) (g : Nat) (a b : Nat) (w : World) (h : RelAt w g 38 R) (ha : a < 64) (hb : b < 64) :
    Calls Tryz.prog 73 #[.pointer (some ⟨g, 0, none⟩), .int .i64 (a : Int), .int .i64 (b : Int)] w fun e w' => e = .returned (.bool true) ∧ RelAt w' g 38 (rowSet R a (fun j => R a j || decide (j = b))) ∧ w.grownBy w' (some g) := by
  have hma : mayB (a : Int) = true := by unfold mayB; simp; omega
  have hmb : mayB (b : Int) = true := by unfold mayB; simp; omega
  have hc := h.cell ha
  have hf := h.free a
  have hM := Lib.hid (withS_mkS (R a) b hb)
  have hset := isSet_mkS (R a)
  have hlt := h.lt
  have HN := Lib.hid (h.store a _ (fun j => R a j || decide (j = b)) hM.out)
  have CW : ∀ wx, Calls Tryz.prog 112 #[.int .u64 ((mkS (R a) : Nat) : Int), .int .i64 (b : Int)] wx fun e w' => e = .returned (.int .u64 ((withS (mkS (R a)) (b : Int) : Nat) : Int)) ∧ w' = wx :=
    fun wx => (with_any _ _ wx hset).mono fun _ _ h => ⟨h.1, h.2.symm⟩
  have HG : Hid (w.grownBy (w.setCell ⟨g, a, none⟩ (.int .u64 ((withS (mkS (R a)) (b : Int) : Nat) : Int))) (some g)) :=
    Lib.hid ⟨rfl, rfl, rfl, by simp, fun k _ hk => Below.heap_setCell w ⟨g, a, none⟩ _ k (fun e => hk (by rw [e]))⟩
  have CWH := Lib.hid CW
  clear CW h
  generalize mkS (R a) = x at *
  generalize withS x (b : Int) = z at *
  have hai : (a : Int) < 64 := by omega
  go_enter Tryz.func73, Tryz.ntmps73
  go_wp2_with (go_at_call 120; refine (rmayn_any _ _).mono ?_; rintro e w' ⟨rfl, rfl⟩)
  go_still_tail 11, (by kernel_rfl)
  still_call (CWH.out _)
  repeat still_step
  refine wpStill_nil ?_
  go_wp2
  go_ret
  exact ⟨rfl, HN.out, ⟨HG.out.os, HG.out.tape, HG.out.output, HG.out.size, HG.out.block⟩⟩
theorem add_no (R : Mat) (g : Nat) (a b : Int) (w : World) (h : RelAt w g 38 R) (hab : ¬ (mayB a = true ∧ mayB b = true)) :
    Calls Tryz.prog 73 #[.pointer (some ⟨g, 0, none⟩), .int .i64 a, .int .i64 b] w fun e w' => e = .returned (.bool false) ∧ RelAt w' g 38 R ∧ w.grownBy w' (some g) := by
  have HR := Lib.hid h
  clear h
  cases ha : mayB a
  · clear hab
    go_enter Tryz.func73, Tryz.ntmps73
    go_wp2_with (go_at_call 120; refine (rmayn_any _ _).mono ?_; rintro e w' ⟨rfl, rfl⟩)
    go_ret
    exact ⟨rfl, HR.out, World.grownBy.refl _ _⟩
  · have hb : mayB b = false := by cases hb : mayB b <;> simp_all
    clear hab
    go_enter Tryz.func73, Tryz.ntmps73
    go_wp2_with (go_at_call 120; refine (rmayn_any _ _).mono ?_; rintro e w' ⟨rfl, rfl⟩)
    go_ret
    exact ⟨rfl, HR.out, World.grownBy.refl _ _⟩
theorem mayB_iff (n : Int) : mayB n = true ↔ 0 ≤ n ∧ n < 64 := by unfold mayB; simp
theorem add_any (R : Mat) (g : Nat) (a b : Int) (w : World) (h : RelAt w g 38 R) :
    Calls Tryz.prog 73 #[.pointer (some ⟨g, 0, none⟩), .int .i64 a, .int .i64 b] w fun e w' => e = .returned (.bool (mayB a && mayB b)) ∧ RelAt w' g 38 (addM R a b) ∧ w.grownBy w' (some g) := by
  by_cases hab : mayB a = true ∧ mayB b = true
  · have h1 := (mayB_iff a).1 hab.1
    have h2 := (mayB_iff b).1 hab.2
    have e1 : (mayB a && mayB b) = true := by rw [hab.1, hab.2]; rfl
    have e2 : addM R a b = rowSet R a.toNat (fun j => R a.toNat j || decide (j = b.toNat)) := if_pos hab
    rw [e1, e2]
    obtain ⟨i, rfl⟩ := Int.eq_ofNat_of_zero_le h1.1
    obtain ⟨j, rfl⟩ := Int.eq_ofNat_of_zero_le h2.1
    simp only [Int.toNat_natCast]
    exact add_yes R g i j w h (by omega) (by omega)
  · have e1 : (mayB a && mayB b) = false := by cases ha : mayB a <;> cases hb : mayB b <;> simp_all
    have e2 : addM R a b = R := if_neg hab
    rw [e1, e2]
    exact add_no R g a b w h hab
end Go.Proofs.YtflalehpdngklaaGreatDoor

namespace Go.Proofs.YtflalehpdngklaaGreatDoor
set_option maxRecDepth 100000
open Go.RowKit

/-- The first k numbers of a row; the first a rows. -/
def prsRow (S : Nat → Nat → Bool) (a : Nat) (R : Mat) : Nat → Mat
  | 0 => R
  | b + 1 => if S a b then addM (prsRow S a R b) a b else prsRow S a R b
def prsTo (S : Nat → Nat → Bool) (n : Nat) : Nat → Mat
  | 0 => noR
  | a + 1 => prsRow S a (prsTo S n a) n
theorem prsRow_hit {S : Nat → Nat → Bool} {a b : Nat} (R : Mat) (h : S a b = true) : prsRow S a R (b + 1) = addM (prsRow S a R b) a b := if_pos h
theorem prsRow_miss {S : Nat → Nat → Bool} {a b : Nat} (R : Mat) (h : S a b = false) : prsRow S a R (b + 1) = prsRow S a R b := if_neg (by simp [h])
theorem results_rel1 {fn : Func} {p : Tmp} (h : fn.results = #[.cell p 38]) (tmps : Array Value) (w : World) (g : Nat) (R : Mat)
    (hp : tmps.getD p undef = .pointer (some ⟨g, 0, none⟩)) (hg : RelAt w g 38 R) : (results fn tmps).run Tryz.prog w = .ok (.agg (rowsA R)) w := by
  have hp' : tmps[p]?.getD undef = .pointer (some ⟨g, 0, none⟩) := by simpa using hp
  simp [results, h, hp', asAddr, run_loadVar_row w g _ 38 (rowsA R) _ _ hg Tryz.underlying38 rfl (infoRel' _)]
set_option maxHeartbeats 4000000 in
theorem pairs_any (S : Nat → Nat → Bool) (n : Nat) (hn : n ≤ 100) (f : FuncId) (cap : Array Value) (w : World) (hcf : ∀ (args : Array Value) (wx : World), Sem.run Tryz.prog (callFunc f args) wx = .ok (.enter f args) wx)
    (HF : ∀ (a b : Nat) (wx : World), a < n → b < n → Below w.heap.size w wx → Calls Tryz.prog f (#[.int .i64 a, .int .i64 b] ++ cap) wx fun e w' => e = .returned (.bool (S a b)) ∧ Below wx.heap.size wx w') :
    Calls Tryz.prog 66 #[.int .i64 n, .func (.func f) #[] cap] w fun e w' => e = .returned (.agg (rowsA (prsTo S n n))) ∧ Below w.heap.size w w' := by
  have HF' := Lib.hid HF
  clear HF
  go_enter Tryz.func66, Tryz.ntmps66
  go_wp2
  go_loopw [9] (fun i wr => ∃ k : Nat, k ≤ n ∧ i = .int .i64 k ∧ RelAt wr (w.heap.size + 1) 38 (prsTo S n k) ∧ RelAt wr w.heap.size 38 noR ∧ Below w.heap.size w wr)
    (fun i _ => n - (intOf i).toNat)
  case atStart =>
    refine ⟨0, by omega, rfl, ?_, ?_, ?_⟩
    · exact RelAt.made _ _ noR (by simp) (by rw [rowsA_none]; rfl)
    · exact (RelAt.made w _ noR rfl (by rw [rowsA_none]; rfl)).alloc _
    · exact ((Below.refl w.heap.size w).alloc (Nat.le_refl _) _).alloc (by simp) _
  case round =>
    obtain ⟨k, hk, rfl, h1, h0, hb⟩ := hrel
    by_cases hlt : k < n
    · have hki : (k : Int) < (n : Int) := by omega
      have HN : Hid (prsTo S n (k + 1) = prsRow S k (prsTo S n k) n) := Lib.hid rfl
      generalize prsTo S n k = R at *
      go_wp2_with fail
      go_loopw [13] (fun i wx => ∃ j : Nat, j ≤ n ∧ i = .int .i64 j ∧ RelAt wx (w.heap.size + 1) 38 (prsRow S k R j) ∧ RelAt wx w.heap.size 38 noR ∧ Below w.heap.size w wx)
        (fun i _ => n - (intOf i).toNat)
      case atStart => exact ⟨0, by omega, rfl, h1, h0, hb⟩
      case round =>
        clear h1 h0 hb
        obtain ⟨j, hj, rfl, h1, h0, hb⟩ := hrel
        by_cases hltj : j < n
        · have hkj : (j : Int) < (n : Int) := by omega
          have CF := Lib.hid (HF'.out k j wr hlt hltj hb)
          cases hs : S k j
          · rw [hs] at CF
            have HM := Lib.hid (prsRow_miss R hs)
            clear hs
            go_wp2_with fail
            refine (CF.out).mono ?_
            rintro e w6 ⟨rfl, hb6⟩
            have h16 := h1.below hb6 h1.lt
            have h06 := h0.below hb6 h0.lt
            have hbb := hb.trans (hb6.mono hb.size)
            clear h1 h0 hb hb6 CF
            go_wp2_with fail
            go_roundw
            case rel => exact ⟨j + 1, by omega, by go_num, by rw [HM.out]; exact h16, h06, hbb⟩
            case measure => simp [intOf]; omega
          · rw [hs] at CF
            have HM := Lib.hid (prsRow_hit R hs)
            clear hs
            go_wp2_with fail
            refine (CF.out).mono ?_
            rintro e w6 ⟨rfl, hb6⟩
            have h16 := h1.below hb6 h1.lt
            have h06 := h0.below hb6 h0.lt
            have hbb := hb.trans (hb6.mono hb.size)
            have CA := Lib.hid (add_any _ _ (k : Int) (j : Int) _ h16)
            clear h1 h0 hb hb6 CF h16
            go_wp2_with fail
            refine (CA.out).mono ?_
            rintro e w7 ⟨rfl, h17, hg7⟩
            have h07 : RelAt w7 w.heap.size 38 noR := by
              have := hg7.block w.heap.size h06.lt (by simp)
              unfold RelAt at *
              rw [this]
              exact h06
            have hb7 : Below w.heap.size w w7 := hbb.grown hg7 hbb.size (by simp)
            clear CA h06 hbb hg7
            go_wp2_with fail
            go_roundw
            case rel => exact ⟨j + 1, by omega, by go_num, by rw [HM.out]; exact h17, h07, hb7⟩
            case measure => simp [intOf]; omega
        · have hjn : j = n := by omega
          subst hjn
          go_wp2_with fail
          go_roundw
          case rel => exact ⟨k + 1, by omega, by go_num, by rw [HN.out]; exact h1, h0, hb⟩
          case measure => simp [intOf]; omega
    · have hkn : k = n := by omega
      subst hkn
      go_wp2_with (first
        | (with_reducible refine wpList_load_rel h1 rfl _ rfl rfl ?_)
        | (with_reducible refine wpList_store_rel h0 (prsTo S k k) rfl _ _ rfl rfl rfl ?_))
      have h3 := h0.setRow (prsTo S k k)
      exact bodyPost_ret (results_rel1 rfl _ _ _ _ rfl h3) rfl ⟨rfl, below_setRow hb (by omega) _⟩
end Go.Proofs.YtflalehpdngklaaGreatDoor

namespace Go.Proofs.YtflalehpdngklaaGreatDoor
set_option maxRecDepth 100000
open Go.RowKit

/-- Slices of ints in a slice: each one's value and what it holds. -/
def Rws (w : World) (v : Value) (K : List (Value × List Int)) : Prop := Row w v K.length 1 (K.map (·.1)) ∧ ∀ p ∈ K, Ints w p.1 p.2
theorem Rws.below {w w' : World} {v : Value} {K : List (Value × List Int)} (h : Rws w v K) (hb : Below w.heap.size w w') : Rws w' v K := ⟨Row.below h.1 hb, fun p hp => (h.2 p hp).below hb⟩
theorem Rws.form {w : World} {v : Value} {K : List (Value × List Int)} (h : Rws w v K) : ∃ ao cap, v = .slice ao K.length cap := by
  obtain ⟨⟨_, ao, cap, rfl, _⟩, _⟩ := h
  exact ⟨ao, cap, rfl⟩
theorem Rws.at {w : World} {ao : Option Addr} {n cap : Nat} {K : List (Value × List Int)} (h : Rws w (.slice ao n cap) K) {k : Nat} (hk : k < K.length) :
    ∃ b off, ao = some ⟨b, off, none⟩ ∧ w.cell? ⟨b, off + k, none⟩ = some K[k].1 ∧ Ints w K[k].1 K[k].2 := by
  obtain ⟨⟨_, ao', cap', he, hm, _, hc⟩, hi⟩ := h
  obtain ⟨rfl, _, _⟩ : ao = ao' ∧ n = K.length ∧ cap = cap' := by simpa using he
  obtain ⟨b, off, rfl, hcell⟩ := hc (by omega)
  exact ⟨b, off, rfl, by rw [hcell k (by omega)]; simp [List.getElem?_eq_getElem hk], hi _ (List.getElem_mem hk)⟩
def eS (s : Nat) : Value := .int .u64 (s : Int)
/-- Who writes to each key: a row's first ones; the first rows. -/
def wrsRow (i : Nat) (F : Int → Option Nat) (xs : List Int) : Int → Option Nat := xs.foldl (fun F x => putF F x (withS ((F x).getD 0) i)) F
def wrsTo (K : List (Value × List Int)) : Nat → Int → Option Nat
  | 0 => fun _ => none
  | k + 1 => wrsRow k (wrsTo K k) ((K[k]?.map (·.2)).getD [])
theorem wrsRow_snoc (i : Nat) (F : Int → Option Nat) (xs : List Int) (k : Nat) (hk : k < xs.length) : wrsRow i F (xs.take (k + 1)) = putF (wrsRow i F (xs.take k)) xs[k] (withS ((wrsRow i F (xs.take k) xs[k]).getD 0) i) := by
  unfold wrsRow; rw [List.take_succ_eq_append_getElem hk, List.foldl_append]; rfl
theorem wrsTo_succ {K : List (Value × List Int)} {k : Nat} (hk : k < K.length) : wrsTo K (k + 1) = wrsRow k (wrsTo K k) K[k].2 := by
  show wrsRow k (wrsTo K k) _ = _
  rw [List.getElem?_eq_getElem hk]; rfl
/-- Each key's is a set. -/
def AllSet (F : Int → Option Nat) : Prop := ∀ x, IsSet ((F x).getD 0)
theorem AllSet.put {F : Int → Option Nat} (h : AllSet F) (x : Int) {s : Nat} (hs : IsSet s) : AllSet (putF F x s) := fun y => by
  by_cases e : y = x
  · rw [e, putF_same]; exact hs
  · rw [putF_other F s e]; exact h y
theorem mapIS : Tryz.prog.underlying 90 = some (.map 3 36) := Tryz.underlying90
theorem zeroS (w : World) : (zeroValue 36).run Tryz.prog w = .ok (eS 0) w := by kernel_rfl
set_option maxHeartbeats 8000000 in
theorem owriters_any (v : Value) (K : List (Value × List Int)) (w : World) (hK : Rws w v K) (hlen : K.length ≤ 100) (hrow : ∀ p ∈ K, p.2.length ≤ 100000) (hint : ∀ p ∈ K, ∀ x ∈ p.2, InI x) :
    Calls Tryz.prog 65 #[v] w fun e w' => ∃ b n c, e = .returned (.map (some b)) ∧ w.heap.size ≤ b ∧ MapI eS Tryz.prog 3 w' b n (wrsTo K K.length) c ∧ AllSet (wrsTo K K.length) ∧ Below w.heap.size w w' := by
  obtain ⟨ao, cap, rfl⟩ := hK.form
  have HR := Lib.hid hrow
  have HI := Lib.hid hint
  clear hrow hint
  have hm0 := MapI.made eS Tryz.prog 3 w
  have hb1 := (Below.refl w.heap.size w).alloc (Nat.le_refl _) (.map #[] 0)
  have hmm := @run_makeMap Tryz.prog
  go_enter Tryz.func65, Tryz.ntmps65
  go_wp2_with fail
  go_loopw [11] (fun i wr => ∃ k n c : Nat, k ≤ K.length ∧ i = .int .i64 k ∧ n ≤ 100000 * k ∧ AllSet (wrsTo K k) ∧ MapI eS Tryz.prog 3 wr w.heap.size n (wrsTo K k) c ∧ Below w.heap.size w wr) (fun i _ => K.length - (intOf i).toNat)
  case atStart => exact ⟨0, 0, 0, by omega, rfl, by omega, fun _ => (show IsSet 0 from by unfold IsSet; omega), hm0, hb1⟩
  case round =>
    obtain ⟨k, n, c, hk, rfl, hnn, hA, hM, hb⟩ := hrel
    clear hm0 hb1
    by_cases hlt : k < K.length
    · have hki : (k : Int) < (K.length : Int) := by omega
      have hKr := hK.below hb
      obtain ⟨g, o, hao, c0, hin⟩ := hKr.at hlt
      cases hao
      have HS := Lib.hid (wrsTo_succ hlt)
      have hrl := HR.out K[k] (List.getElem_mem hlt)
      have HIK := Lib.hid (HI.out K[k] (List.getElem_mem hlt))
      have HIN := Lib.hid (fun wx (hx : Below w.heap.size w wx) => (hK.2 K[k] (List.getElem_mem hlt)).below hx)
      generalize K[k] = q at *
      obtain ⟨qv, xs⟩ := q
      simp only at c0 hin HS hrl HIK HIN
      obtain ⟨ax, cx, rfl, hxl⟩ := hin.form
      generalize wrsTo K k = F at *
      clear hKr hin
      go_wp2_with fail
      go_loopw [18] (fun i wx => ∃ j m d : Nat, j ≤ xs.length ∧ i = .int .i64 j ∧ m ≤ 100000 * k + j ∧ AllSet (wrsRow k F (xs.take j)) ∧ MapI eS Tryz.prog 3 wx w.heap.size m (wrsRow k F (xs.take j)) d ∧ Below w.heap.size w wx) (fun i _ => xs.length - (intOf i).toNat)
      case atStart => exact ⟨0, n, c, by omega, rfl, by omega, hA, hM, hb⟩
      case round =>
        obtain ⟨j, m, d, hj, rfl, hmm2, hA2, hM2, hb2⟩ := hrel
        clear hA hM
        by_cases hltj : j < xs.length
        · have hkj : (j : Int) < (xs.length : Int) := by omega
          obtain ⟨g2, o2, hao2, e0⟩ := (HIN.out _ hb2).at hltj
          cases hao2
          have HSJ := Lib.hid (wrsRow_snoc k F xs j hltj)
          have hkv := HIK.out xs[j] (List.getElem_mem hltj)
          have hset := hA2 xs[j]
          have HAN := Lib.hid (hA2.put xs[j] (isSet_withS (n := (k : Int)) hset))
          generalize xs[j] = x at *
          generalize wrsRow k F (xs.take j) = G at *
          have CW := Lib.hid (fun wx => with_any ((G x).getD 0) (k : Int) wx hset)
          clear hset hA2
          go_wp2_with (first
            | (at_lookup; refine wpList_lookI _ rfl _ _ 90 rfl 3 36 keyI mapIS 0 (zeroS _) _ _ _ _ rfl hM2 _ rfl hkv ?_; simp only [eS])
            | (go_at_call 112; refine (CW.out _).mono ?_; rintro e w' ⟨rfl, rfl⟩)
            | (at_mapUpdate; refine wpList_putI _ rfl _ _ _ 90 rfl 3 36 keyI mapIS _ _ _ _ rfl hM2 (by unfold maxLen; omega) _ rfl hkv (withS ((G x).getD 0) (k : Int)) rfl ?_; intro w5 hM5 hg5; go_frame))
          have hb5 := hb2.grown hg5 hb2.size (fun q hq => by cases hq; exact Nat.le_refl _)
          clear hM2 hb2 hg5
          go_wp2_with fail
          go_roundw
          case rel => exact ⟨j + 1, m + 1, _, by omega, by go_num, by omega, by rw [HSJ.out]; exact HAN.out, by rw [HSJ.out]; exact hM5, hb5⟩
          case measure => simp [intOf]; omega
        · have hj2 : j = xs.length := by omega
          subst hj2
          rw [List.take_length] at hA2 hM2
          go_wp2_with fail
          go_roundw
          case rel => exact ⟨k + 1, m, d, by omega, by go_num, by omega, by rw [HS.out]; exact hA2, by rw [HS.out]; exact hM2, hb2⟩
          case measure => simp [intOf]; omega
    · have hkl : k = K.length := by omega
      subst hkl
      go_wp2_with fail
      go_ret
      exact ⟨_, _, _, rfl, Nat.le_refl _, hM, hA, hb⟩
end Go.Proofs.YtflalehpdngklaaGreatDoor
