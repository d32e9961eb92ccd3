/- Walks and plain facts that the proof of the statement PlaceAll uses, joined: PlaR. Conditions: each theorem's own. -/
import Derived.Test.YtflalehpdngklaaGreatDoorPPlaceAll10
namespace Go.Proofs.YtflalehpdngklaaGreatDoor
set_option maxRecDepth 100000
open Go.RowKit

theorem allT_app (h : List TxnV) (C : Nat) : ∀ (m m' r : List Nat), allT h C r (m ++ m') = (allT h C r m && allT h C (m.reverse ++ r) m')
  | [], m', r => by simp [allT]
  | i :: m, m', r => by
    rw [List.cons_append, allT, allT, allT_app h C m m' (i :: r), Bool.and_assoc, List.reverse_cons, List.append_assoc]; rfl
theorem allT_step {h : List TxnV} {C k : Nat} {L : List Nat} (hk : k < L.length) (ha : allT h C [] (L.take k) = true) : allT h C [] (L.take (k + 1)) = tryP h C (L.take k).reverse L[k] := by
  rw [List.take_succ_eq_append_getElem hk, allT_app, ha, List.append_nil]
  simp [allT]
theorem allT_fail {h : List TxnV} {C k : Nat} {L : List Nat} (hf : allT h C [] (L.take k) = false) : allT h C [] L = false := by
  rw [← List.take_append_drop k L, allT_app, hf]; rfl
theorem rev_step {k : Nat} {L : List Nat} (hk : k < L.length) : L[k] :: (L.take k).reverse = (L.take (k + 1)).reverse := by
  rw [List.take_succ_eq_append_getElem hk, List.reverse_append]; rfl
/-- How far it has come: all that were tried are placed, or one could not come. -/
def AllS (h : List TxnV) (C : Nat) (L : List Nat) (k : Nat) (all : Bool) (r : List Nat) : Prop := (all = true → r = (L.take k).reverse ∧ allT h C [] (L.take k) = true) ∧ (all = false → allT h C [] L = false)
theorem goodR_nil (h : List TxnV) (C : Nat) : goodR h C [] := fun k hk => by cases hk
/-- What the law holds against each other. -/
theorem all_holds {h : List TxnV} (hc : checkI h = 0) {lv : Int} (hlv : isLv lv = true) {L : List Nat} (hp : L.Perm (List.range h.length)) {R : Mat} (hR : LeastIs h (askN lv) (L.map Int.ofNat) R) :
    holdsB h lv (L.map Int.ofNat) R = (allT h (clI ((askN lv : Nat) : Int)) [] L && soundTo h h.length) ∧
    (holdsB h lv (L.map Int.ofNat) R = true → ∀ j k, j < h.length → k < h.length → hasB (plSeeI h (clI ((askN lv : Nat) : Int)) L.reverse (k : Int)) (j : Int) = hasR (inR h lv (L.map Int.ofNat) R) (j : Int) (k : Int)) := by
  have h64 := (check_zero hc).1
  have hy : clI ((askN lv : Nat) : Int) < 9223372036854775808 := by have := clI_lt ((askN lv : Nat) : Int); omega
  have e : L.reverse.reverse = L := List.reverse_reverse L
  obtain ⟨g1, g2⟩ := good_holds hc hlv (r := L.reverse) (by rw [e]; exact hp) (R := R) (by rw [e]; exact hR)
  rw [e] at g1 g2
  have hnd : L.reverse.Nodup := (List.reverse_perm L).nodup_iff.2 (hp.nodup_iff.2 List.nodup_range)
  have hmem : ∀ k, k ∈ L.reverse ↔ k < h.length := fun k => by rw [List.mem_reverse, hp.mem_iff, List.mem_range]
  have ha := allT_iff hc hy L [] (by rw [List.append_nil]; exact hnd) (fun a ha => by rw [List.append_nil] at ha; exact (hmem a).1 ha) (goodR_nil _ _)
  rw [List.append_nil] at ha
  refine ⟨?_, fun hh j k hj hk => ?_⟩
  · rw [Bool.eq_iff_iff, g1, Bool.and_eq_true, ha]
    exact ⟨fun ⟨x, y⟩ => ⟨y, x⟩, fun ⟨x, y⟩ => ⟨y, x⟩⟩
  · have hlt : ∀ a ∈ L.reverse, a < 64 := fun a ha => by have := (hmem a).1 ha; omega
    have hin : hasB (plS L.reverse) (k : Int) = true := by
      unfold hasB
      have : decide (0 ≤ (k : Int) ∧ (k : Int) < 64) = true := by simp; omega
      rw [this, Int.toNat_natCast, plS_bit k _ hlt, decide_eq_true ((hmem k).2 hk)]; rfl
    have hd : decide (0 ≤ (j : Int) ∧ (j : Int) < 64) = true := by simp; omega
    unfold inR
    rw [if_pos hh, hasR_nat R j k (by omega) (by omega), g2 hh j k (by omega) (by omega)]
    unfold plSeeI
    rw [if_pos hin]
    unfold hasB
    rw [hd, Int.toNat_natCast, Int.toNat_natCast, Bool.true_and]
set_option maxRecDepth 100000 in
set_option maxHeartbeats 16000000 in
theorem all14_walk (vh vb : Value) (h : List TxnV) (bs : List Int) (a : Nat) (lv : Int) (w : World) (ht : Tab w) (hK : Kinds w) (hT : Txns w vh h) (hok : ∀ t ∈ h, t.ok) (hsh : Short h) (hB : Row w vb bs.length 1 (bs.map (Value.int .u8))) (hbs : ∀ x ∈ bs, 0 ≤ x ∧ x < 256) :
    Calls Tryz.prog 8 #[.agg #[vh, .int .u8 a, vb], .int .i64 lv] w fun e w' => e = .returned (.bool true) ∧ Below w.heap.size w w' := by
  have hg := ht.pos
  have HT : Hid (∀ wx, Below w.heap.size w wx → Tab wx ∧ Kinds wx) := Lib.hid (fun wx hb => ⟨ht.below hb hg, hK.below hb⟩)
  have HH := Lib.hid (fun wx (hx : Below w.heap.size w wx) => hT.below hx)
  have HBY := Lib.hid (fun wx (hx : Below w.heap.size w wx) => hB.below hx)
  obtain ⟨ao, cap, rfl, hal⟩ := hT.form
  have HOK := Lib.hid hok
  have HSH := Lib.hid hsh
  have HBS := Lib.hid hbs
  have hbx := box_below w (.cells #[.slice ao h.length cap, .int .u8 a, vb] 54)
  have hC0 : CaseS w.heap.size (.slice ao h.length cap) a vb (w.alloc (.cells #[.slice ao h.length cap, .int .u8 a, vb] 54)) := by
    refine ⟨?_, ?_, ?_⟩ <;> (rw [cell_of_row _ _ _ _ _ _ (heap_alloc_new w _)]; rfl)
  obtain ⟨bo, bcap, rfl⟩ : ∃ bo bcap, vb = .slice bo bs.length bcap := by
    obtain ⟨_, bo, bcap, e, _⟩ := hB
    exact ⟨bo, bcap, e⟩
  clear ht hK hT hok hB hbs
  go_enter Tryz.func8, Tryz.ntmps8
  go_upto_region 1 with fail
  generalize w.alloc (.cells #[.slice ao h.length cap, .int .u8 a, .slice bo bs.length bcap] 54) = w0 at *
  go_wp2_with fail
  refine (speaks14_any _ (HT.out _ hbx).1).mono ?_
  rintro e w1 ⟨rfl, hb1⟩
  have hC1 := hC0.below hb1
  have hb1 := below_then hbx hb1
  obtain ⟨n0, n1, n2⟩ := hC1
  go_wp2_with fail
  refine (small_any _ h _ (HH.out _ hb1) HSH.out).mono ?_
  rintro e w2 ⟨rfl, hb2⟩
  have hC2 := CaseS.below ⟨n0, n1, n2⟩ hb2
  have hb2 := below_then hb1 hb2
  clear n0 n1 n2 hb1 hC0 hbx
  by_cases hs : smallI h = 0
  · rw [hs]
    go_wp2_with fail
    go_ret
    exact ⟨rfl, hb2⟩
  obtain ⟨h7, hc, h1⟩ := small_no hs
  rw [h1]
  by_cases hl0 : 0 ≤ lv
  rotate_left
  · have hl0' : lv < 0 := by omega
    go_wp2_with fail
    go_ret
    exact ⟨rfl, hb2⟩
  have hl0' : ¬ lv < 0 := by omega
  by_cases hl1 : lv ≤ 11
  rotate_left
  · have hl1' : (11 : Int) < lv := by omega
    go_wp2_with fail
    go_ret
    exact ⟨rfl, hb2⟩
  have hl1' : ¬ (11 : Int) < lv := by omega
  have HLV : Hid (isLv lv = true) := Lib.hid (by unfold isLv; simp; omega)
  have CO := Lib.hid (of_done _ h w2 (HH.out _ hb2) HOK.out HSH.out hc)
  have HC := Lib.hid hc
  clear hs h1 hc hsh
  obtain ⟨n0, n1, n2⟩ := hC2
  clear hl0 hl1
  go_wp2_with fail
  refine (CO.out).mono ?_
  rintro e w3 ⟨⟨B, rfl, hB, hO⟩, hb3⟩
  have hC3 := CaseS.below ⟨n0, n1, n2⟩ hb3
  have hb3 := below_then hb2 hb3
  clear n0 n1 n2 hb2 CO hB
  have CR := Lib.hid (lrow_any h.length (by omega) _ bs w3 (HBY.out _ hb3) HBS.out)
  obtain ⟨n0, n1, n2⟩ := hC3
  go_wp2_with fail
  refine (CR.out).mono ?_
  rintro e w4 ⟨⟨v, L, rfl, hI, hP⟩, h4⟩
  have hC4 := CaseS.below ⟨n0, n1, n2⟩ h4
  have hO := hO.below h4
  have hb4 := below_then hb3 h4
  have HS := Lib.hid (fun wx (hx : Below w4.heap.size w4 wx) => hC4.below hx)
  have HW := Lib.hid (fun wx (hx : Below w4.heap.size w4 wx) => hb4.trans (hx.mono hb4.size))
  have HI := Lib.hid (fun wx (hx : Below w4.heap.size w4 wx) => hI.below hx)
  have CK := Lib.hid (lasks_any lv w4 (HT.out _ hb4).2)
  have CN := Lib.hid (pnew_any ((askN lv : Nat) : Int) h B (B + 2) w4 hO HC.out (HT.out _ hb4).1)
  have HAH := Lib.hid (fun R (hR : LeastIs h (askN lv) (L.map Int.ofNat) R) => all_holds HC.out HLV.out hP hR)
  have HCL : Hid (clI ((askN lv : Nat) : Int) < 9223372036854775808) := Lib.hid (by have := clI_lt ((askN lv : Nat) : Int); omega)
  have HLL : Hid (L.length = h.length) := Lib.hid (by rw [hP.length_eq, List.length_range])
  have hL7 : L.length ≤ 7 := by rw [HLL.out]; exact h7
  obtain ⟨va, vc, rfl, _⟩ := hI.form
  simp only [List.length_map] at HI
  rw [List.length_map]
  clear n0 n1 n2 hb3 CR hC4 h4 hO hI hP
  go_wp2_with fail
  refine (CK.out).mono ?_
  rintro e wq ⟨rfl, rfl⟩
  go_wp2_with fail
  refine (CN.out).mono ?_
  rintro e w5 ⟨S, vb2, aF, sF, rfl, p⟩
  clear CN CK
  generalize clI ((askN lv : Nat) : Int) = C at *
  have h64 := (check_zero HC.out).1
  go_wp2_with fail
  go_loopw [9, 54] (fun fv iv wr => ∃ (k : Nat) (all : Bool) (r : List Nat) (vr : Value) (aF sF : Nat → Nat), k ≤ L.length ∧ iv = .int .i64 k ∧ fv = .bool all ∧ PlIs w4 S B (B + 2) h C r vb2 vr aF sF wr ∧ Hid (AllS h C L k all r)) (fun _ iv _ => L.length - (intOf iv).toNat)
  case atStart => exact ⟨0, true, [], _, _, _, by omega, rfl, rfl, p, Lib.hid ⟨fun _ => ⟨rfl, rfl⟩, fun e => by cases e⟩⟩
  case round =>
    clear p
    obtain ⟨k, all, r, vr, aF, sF, hk, rfl, rfl, p, HA⟩ := hrel
    by_cases hlt : k < L.length
    · have hki : (k : Int) < (L.length : Int) := by omega
      obtain ⟨g, o, hao, hcell⟩ := Ints.at (HI.out _ p.bel) (k := k) (by rw [List.length_map]; exact hlt)
      cases hao
      rw [List.getElem_map, show Int.ofNat L[k] = ((L[k] : Nat) : Int) from rfl] at hcell
      have HST := Lib.hid (fun ha => allT_step (h := h) (C := C) hlt ha)
      have HRV := Lib.hid (rev_step hlt)
      generalize L[k] = i at *
      cases all with
      | false =>
        have HN : Hid (AllS h C L (k + 1) false r) := Lib.hid ⟨fun e => (by cases e), fun e => HA.out.2 e⟩
        clear HST HRV
        go_wp2_with fail
        go_roundw
        case rel => exact ⟨k + 1, false, r, vr, aF, sF, by omega, by go_num, rfl, p, HN⟩
        case measure => simp [intOf]; omega
      | true =>
        obtain ⟨hr, hat⟩ := HA.out.1 rfl
        cases htr : tryP h C r i with
        | false =>
          have CT := Lib.hid (ptry_no p HC.out HCL.out (i : Int) (by rw [tryI_nat]; exact htr))
          have HP := Lib.hid (fun wx (hx : Below wr.heap.size wr wx) => p.below hx)
          have HN : Hid (AllS h C L (k + 1) false r) := Lib.hid ⟨fun e => (by cases e), fun _ => allT_fail (k := k + 1) (by rw [HST.out hat, ← hr]; exact htr)⟩
          clear HST HRV htr hr hat p
          go_wp2_with fail
          refine (CT.out).mono ?_
          rintro e w6 ⟨rfl, h6⟩
          have hp := HP.out _ h6
          clear CT HP hcell
          go_wp2_with fail
          go_roundw
          case rel => exact ⟨k + 1, false, r, vr, aF, sF, by omega, by go_num, rfl, hp, HN⟩
          case measure => simp [intOf]; omega
        | true =>
          have CT := Lib.hid (ptry_yes p HC.out HCL.out i htr)
          have HN : Hid (AllS h C L (k + 1) true (i :: r)) := Lib.hid ⟨fun _ => ⟨by rw [hr, HRV.out], by rw [HST.out hat, ← hr]; exact htr⟩, fun e => by cases e⟩
          clear HST HRV htr hr hat p
          go_wp2_with fail
          refine (CT.out).mono ?_
          rintro e w6 ⟨rfl, vr1, aF1, sF1, p1, _⟩
          clear CT hcell
          go_wp2_with fail
          go_roundw
          case rel => exact ⟨k + 1, true, i :: r, vr1, aF1, sF1, by omega, by go_num, rfl, p1, HN⟩
          case measure => simp [intOf]; omega
    · have hkn : k = L.length := by omega
      subst hkn
      have HAE : Hid (all = allT h C [] L ∧ (all = true → r = L.reverse)) := Lib.hid (by
        have := HA.out
        unfold AllS at this
        rw [List.take_length] at this
        cases all with
        | true => exact ⟨(this.1 rfl).2.symm, fun _ => (this.1 rfl).1⟩
        | false => exact ⟨(this.2 rfl).symm, fun e => by cases e⟩)
      have CI := Lib.hid (bin_any lv _ (L.map Int.ofNat) h B (B + 2) wr p.ord HC.out p.tab (HT.out _ (HW.out _ p.bel)).2 (by have := HI.out _ p.bel; rwa [← List.length_map (f := Int.ofNat)] at this))
      simp only [List.length_map] at CI
      have HP := Lib.hid (fun wx (hx : Below wr.heap.size wr wx) => p.below hx)
      have CSD := Lib.hid (fun wx (hx : Below w4.heap.size w4 wx) => rsound_any _ h HC.out wx (HH.out _ (HW.out _ hx)))
      clear p HA hlt
      go_wp2_with fail
      refine (CI.out).mono ?_
      rintro e w6 ⟨⟨R, hR, rfl⟩, h6⟩
      obtain ⟨E1, E2⟩ := HAH.out R hR
      have HE2 := Lib.hid E2
      have HE1 : Hid (holdsB h lv (L.map Int.ofNat) R = (all && soundTo h h.length)) := Lib.hid (by rw [E1, HAE.out.1])
      have z6 := zero_block w6
      have k6 := box_below w6 (.cells #[.int .u64 0, .int .u64 0, .int .u64 0, .int .u64 0, .int .u64 0, .int .u64 0, .int .u64 0, .int .u64 0, .int .u64 0, .int .u64 0, .int .u64 0, .int .u64 0, .int .u64 0, .int .u64 0, .int .u64 0, .int .u64 0, .int .u64 0, .int .u64 0, .int .u64 0, .int .u64 0, .int .u64 0, .int .u64 0, .int .u64 0, .int .u64 0, .int .u64 0, .int .u64 0, .int .u64 0, .int .u64 0, .int .u64 0, .int .u64 0, .int .u64 0, .int .u64 0, .int .u64 0, .int .u64 0, .int .u64 0, .int .u64 0, .int .u64 0, .int .u64 0, .int .u64 0, .int .u64 0, .int .u64 0, .int .u64 0, .int .u64 0, .int .u64 0, .int .u64 0, .int .u64 0, .int .u64 0, .int .u64 0, .int .u64 0, .int .u64 0, .int .u64 0, .int .u64 0, .int .u64 0, .int .u64 0, .int .u64 0, .int .u64 0, .int .u64 0, .int .u64 0, .int .u64 0, .int .u64 0, .int .u64 0, .int .u64 0, .int .u64 0, .int .u64 0] 38)
      have k7 := below_setRow k6 (Nat.le_refl _) (rowsA (inR h lv (L.map Int.ofNat) R))
      have HP7 := Lib.hid ((HP.out _ h6).below k7)
      clear CI E1 E2 hR k6 h6 HP HAH
      generalize inR h lv (L.map Int.ofNat) R = V at *
      generalize holdsB h lv (L.map Int.ofNat) R = ok at *
      go_upto_region 17 with (with_reducible refine wpList_store_rel z6 V rfl _ _ rfl rfl rfl ?_)
      have z7 := z6.setRow V
      generalize World.setRow _ _ _ = w7 at *
      generalize w6.heap.size = pv at *
      have HP := Lib.hid (fun wx (hx : Below w7.heap.size w7 wx) => And.intro (HP7.out.below hx) (z7.below hx z7.lt))
      obtain ⟨n0, n1, n2⟩ := HS.out _ HP7.out.bel
      have CSD := Lib.hid (CSD.out _ HP7.out.bel)
      have hb7 := Below.refl w7.heap.size w7
      clear z6 k7 HP7
      have HX : Hid (ok = true → ∀ j k, j < h.length → k < h.length → hasB (plSeeI h C r (k : Int)) (j : Int) = hasR V (j : Int) (k : Int)) := Lib.hid (fun e j k hj hk => by
        have he := HE1.out
        rw [e] at he
        have hal : all = true := by cases all with | true => rfl | false => cases he
        rw [HAE.out.2 hal]
        exact HE2.out e j k hj hk)
      clear HE2 HAE
      generalize soundTo h h.length = sd at *
      go_cut [79] from 72 to 78 (fun v wx => v = .bool false ∧ Below w7.heap.size w7 wx)
      case first =>
        cases all with
        | true =>
          have hok : ok = sd := by have := HE1.out; rwa [Bool.true_and] at this
          subst hok
          clear HE1
          go_wp2_with fail
          refine (CSD).out.mono ?_
          rintro e w8 ⟨rfl, h8⟩
          go_wp2_with fail
          go_meet
          exact ⟨by simp, h8⟩
        | false =>
          have hok : ok = false := by have := HE1.out; rwa [Bool.false_and] at this
          subst hok
          clear HE1
          go_wp2_with fail
          go_meet
          exact ⟨by simp, hb7⟩
      obtain ⟨rfl, hb8⟩ := hcut
      generalize wc = w8 at *
      have HP := Lib.hid (fun wx (hx : Below w8.heap.size w8 wx) => HP.out wx (hb8.trans (hx.mono hb8.size)))
      have HS8 := Lib.hid (fun wx (hx : Below w8.heap.size w8 wx) => HS.out wx (HP.out wx hx).1.bel)
      have HF8 := Lib.hid (fun wx (hx : Below w8.heap.size w8 wx) => HW.out wx (HP.out wx hx).1.bel)
      have hk0 := Below.refl w8.heap.size w8
      clear n0 n1 n2 HE1 CSD hb7 hb8 z7
      obtain ⟨n0, n1, n2⟩ := HS8.out _ hk0
      go_wp2_with fail
      clear n0 n1 n2
      go_loopw [83] (fun kv wx => ∃ k : Nat, k ≤ h.length ∧ kv = .int .i64 k ∧ Below w8.heap.size w8 wx) (fun kv _ => h.length - (intOf kv).toNat)
      case atStart => exact ⟨0, by omega, rfl, hk0⟩
      case round =>
        clear hk0
        obtain ⟨k, hk, rfl, hb⟩ := hrel
        by_cases hlt : k < h.length
        · have hki : (k : Int) < (h.length : Int) := by omega
          obtain ⟨n0, n1, n2⟩ := HS8.out _ hb
          go_wp2_with fail
          clear n0 n1 n2
          go_loopw [89] (fun iv wx => ∃ i : Nat, i ≤ h.length ∧ iv = .int .i64 i ∧ Below w8.heap.size w8 wx) (fun iv _ => h.length - (intOf iv).toNat)
          case atStart => exact ⟨0, by omega, rfl, hb⟩
          case round =>
            clear hb
            obtain ⟨i, hi, rfl, hb⟩ := hrel
            by_cases hli : i < h.length
            · have hii : (i : Int) < (h.length : Int) := by omega
              cases ok with
              | false =>
                go_wp2_with fail
                go_quiet (fail)
                have hb2 := below_drewN hb nq
                go_wp2_with fail
                go_roundw
                case rel => exact ⟨i + 1, by omega, by go_num, hb2⟩
                case measure => simp [intOf]; omega
              | true =>
                have HEQ := Lib.hid (HX.out rfl i k hli hlt)
                have C4 := Lib.hid (fun wx (hx : Below w8.heap.size w8 wx) => psees_any (k : Int) (HP.out wx hx).1 h64)
                have hset := plSeeI_set h C r (k : Int)
                obtain ⟨sv, hsv⟩ : ∃ sv, sv = plSeeI h C r (k : Int) := ⟨_, rfl⟩
                rw [← hsv] at C4 hset HEQ
                have C6 := Lib.hid (fun wx => has_any sv (i : Int) wx hset)
                have C10 := Lib.hid (fun wx => rhasR_any V (i : Int) (k : Int) wx)
                rw [← HEQ.out] at C10
                generalize hasB sv (i : Int) = q at *
                clear hsv HEQ hset
                go_upto_region 25 with fail
                have kd := hb.drew
                refine wp_region_held_drew (S := Below w8.heap.size w8) (by kernel_rfl) kd (fun hS0 => ?_)
                refine takeG (some 92) (i := 0) (v := ?vpa0x1) rfl rfl (by kernel_rfl) (by kernel_rfl) (by kernel_rfl) (fun _ _ _ h => h) (Or.inl ⟨by rfl, ?hpa0x1⟩) hS0 ?rpa0x1
                case hpa0x1 => (intro w _; go_simp; try (with_reducible rfl))
                try simp only [Act.put, List.setIfInBounds_toArray, List.set_cons_zero, List.set_cons_succ]
                refine takeG (some 93) (i := 1) (v := ?vpa1x2) rfl rfl (by kernel_rfl) (by kernel_rfl) (by kernel_rfl) (fun _ _ _ h => h) (Or.inl ⟨by rfl, ?hpa1x2⟩) hS0 ?rpa1x2
                case hpa1x2 => (intro w _; go_simp; try (with_reducible rfl))
                try simp only [Act.put, List.setIfInBounds_toArray, List.set_cons_zero, List.set_cons_succ]
                refine takeG (some 94) (i := 2) (v := ?vpa2x3) rfl rfl (by kernel_rfl) (by kernel_rfl) (by kernel_rfl) (fun _ _ _ h => h) (Or.inl ⟨by rfl, ?hpa2x3⟩) hS0 ?rpa2x3
                case hpa2x3 => (intro w _; go_simp; try (with_reducible rfl))
                try simp only [Act.put, List.setIfInBounds_toArray, List.set_cons_zero, List.set_cons_succ]
                refine takeG (some 95) (i := 3) (v := ?vpa3x4) rfl rfl (by kernel_rfl) (by kernel_rfl) (by kernel_rfl) (fun _ _ _ h => h) (Or.inl ⟨by rfl, ?hpa3x4⟩) hS0 ?rpa3x4
                case hpa3x4 => (intro w _; go_simp; try (with_reducible rfl))
                try simp only [Act.put, List.setIfInBounds_toArray, List.set_cons_zero, List.set_cons_succ]
                refine takeG (some 97) (i := 5) (v := ?vpa5x5) rfl rfl (by kernel_rfl) (by kernel_rfl) (by kernel_rfl) (fun _ _ _ h => h) (Or.inl ⟨by rfl, ?hpa5x5⟩) hS0 ?rpa5x5
                case hpa5x5 => (intro w _; go_simp; try (with_reducible rfl))
                try simp only [Act.put, List.setIfInBounds_toArray, List.set_cons_zero, List.set_cons_succ]
                refine takeG (some 99) (i := 7) (v := _) rfl rfl (by kernel_rfl) (by kernel_rfl) (by kernel_rfl) (fun _ _ _ h => h) (yields_rel (by rfl) _ rfl rfl (fun wx hx => (HP.out wx hx).2)) hS0 ?_
                try simp only [Act.put, List.setIfInBounds_toArray, List.set_cons_zero, List.set_cons_succ]
                refine takeG (some 100) (i := 8) (v := ?vpa8x7) rfl rfl (by kernel_rfl) (by kernel_rfl) (by kernel_rfl) (fun _ _ _ h => h) (Or.inl ⟨by rfl, ?hpa8x7⟩) hS0 ?rpa8x7
                case hpa8x7 => (intro w _; go_simp; try (with_reducible rfl))
                try simp only [Act.put, List.setIfInBounds_toArray, List.set_cons_zero, List.set_cons_succ]
                refine takeG (some 101) (i := 9) (v := ?vpa9x8) rfl rfl (by kernel_rfl) (by kernel_rfl) (by kernel_rfl) (fun _ _ _ h => h) (Or.inl ⟨by rfl, ?hpa9x8⟩) hS0 ?rpa9x8
                case hpa9x8 => (intro w _; go_simp; try (with_reducible rfl))
                try simp only [Act.put, List.setIfInBounds_toArray, List.set_cons_zero, List.set_cons_succ]
                refine wpAnyH_ready (rs := [4]) (by kernel_rfl) (by simp) ?_
                refine AllReadyH.cons rfl (fun K hK => ?_) AllReadyH.nil
                go_simp
                refine (C4.out _ hS0).mono ?_
                rintro e yq ⟨rfl, rfl⟩
                show K _ _
                refine hK.out _ _ hS0 (fun _ => ?_)
                clear hK K
                refine wpAnyH_ready (rs := [6]) (by kernel_rfl) (by simp) ?_
                refine AllReadyH.cons rfl (fun K hK => ?_) AllReadyH.nil
                go_simp
                refine (C6.out _).mono ?_
                rintro e yq ⟨rfl, rfl⟩
                show K _ _
                refine hK.out _ _ hS0 (fun _ => ?_)
                clear hK K
                refine wpAnyH_ready (rs := [10]) (by kernel_rfl) (by simp) ?_
                refine AllReadyH.cons rfl (fun K hK => ?_) AllReadyH.nil
                go_simp
                refine (C10.out _).mono ?_
                rintro e y11 ⟨rfl, j11⟩
                show K _ _
                have s11 := below_then hS0 j11
                refine hK.out _ _ s11 (fun _ => ?_)
                clear hK K
                refine takeG (some 103) (i := 11) (v := ?vpa11x12) rfl rfl (by kernel_rfl) (by kernel_rfl) (by kernel_rfl) (fun _ _ _ h => h) (Or.inl ⟨by rfl, ?hpa11x12⟩) s11 ?rpa11x12
                case hpa11x12 => (intro w _; go_simp; try (with_reducible rfl))
                try simp only [Act.put, List.setIfInBounds_toArray, List.set_cons_zero, List.set_cons_succ]
                refine takeG (some 104) (i := 12) (v := ?vpa12x13) rfl rfl (by kernel_rfl) (by kernel_rfl) (by kernel_rfl) (fun _ _ _ h => h) (Or.inl ⟨by rfl, ?hpa12x13⟩) s11 ?rpa12x13
                case hpa12x13 => (intro w _; go_simp; try (with_reducible rfl))
                try simp only [Act.put, List.setIfInBounds_toArray, List.set_cons_zero, List.set_cons_succ]
                refine wpAnyH_done (by kernel_rfl) ?_ _
                have hb2 := s11
                go_wp2_with fail
                go_roundw
                case rel => exact ⟨i + 1, by omega, by go_num, hb2⟩
                case measure => simp [intOf]; omega
            · have hin : ¬ (i : Int) < (h.length : Int) := by omega
              go_wp2_with fail
              go_roundw
              case rel => exact ⟨k + 1, by omega, by go_num, hb⟩
              case measure => simp [intOf]; omega
        · have hkn : ¬ (k : Int) < (h.length : Int) := by omega
          have hz := HF8.out _ hb
          go_wp2_with fail
          go_ret
          exact ⟨rfl, hz⟩
end Go.Proofs.YtflalehpdngklaaGreatDoor
