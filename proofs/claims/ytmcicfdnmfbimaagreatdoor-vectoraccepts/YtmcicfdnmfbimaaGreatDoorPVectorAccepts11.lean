/- Walks and plain facts that the proof of the statement VectorAccepts uses, joined: AxhB AxhC BruJ BruP BruQ BruR BruU BruF BruG BruH BruI PlaP ArgC LeaI LeaJ TopA BruK BruV BruZ BrcA BrcC BruW BruX AxhN BruY BrcB SeaL VecC VecD. Conditions: each theorem's own. -/
import Derived.Deep.CutRange
import Derived.Deep.RegionHeld3
import Derived.Deep.Upon
import Derived.Deep.MidRow
import Derived.Test.YtmcicfdnmfbimaaGreatDoorPVectorAccepts0
import Derived.Test.YtmcicfdnmfbimaaGreatDoorPVectorAccepts2
import Derived.Test.YtmcicfdnmfbimaaGreatDoorPVectorAccepts4
import Derived.Test.YtmcicfdnmfbimaaGreatDoorPVectorAccepts5
import Derived.Test.YtmcicfdnmfbimaaGreatDoorPVectorAccepts7
import Derived.Test.YtmcicfdnmfbimaaGreatDoorPVectorAccepts9
import Derived.Test.YtmcicfdnmfbimaaGreatDoorPVectorAccepts10
namespace Go.Proofs.YtmcicfdnmfbimaaGreatDoor
set_option maxHeartbeats 32000000
set_option maxRecDepth 100000
open Lib (hid)
section
open Go.RowKit
theorem rlast12_any (va vr vm : Value) (h : List TxnV) (l : List Int) (m : List Pr) (i key : Int) (w : World) (hT : Txns w va h) (hl : Ints w vr l) (hm : Prs w vm m) (hin : ∀ a ∈ l, 0 ≤ a ∧ a < (h.length : Int)) :
  Calls Tryz.prog 181 #[va, vr, vm, .int .i64 i, .int .i64 key] w fun e w' => e = .returned (.int .i64 (lstR h m i key l)) ∧ Below w.heap.size w w' := by
 have CH := hid (fun (a : Int) wx (hx : Below w.heap.size w wx) => phas_any vm m a i wx (hm.below hx))
 have CW := hid (fun (j : Nat) (hj : j < h.length) wx (hx : Below w.heap.size w wx) => rwrts8_any va h j key hj wx (hT.below hx))
 have HL := hid (fun wx (hx : Below w.heap.size w wx) => hl.below hx)
 have HIN := hid hin
 have HTK := hid (fun k hk => lstR_take h m i key l k hk)
 have HE : Hid (lstR h m i key (l.take l.length) = lstR h m i key l) := hid (by rw [List.take_length])
 have H0 : Hid (lstR h m i key (l.take 0) = -1) := hid rfl
 obtain ⟨ao, cap, rfl, hal⟩ := hT.form
 obtain ⟨ro, rcap, rfl, hrl⟩ := hl.form
 obtain ⟨mo, mcap, rfl, hml⟩ := hm.form
 clear hT hl hm hin
 go_enter Tryz.func181, Tryz.ntmps181
 go_wp2_with fail
 go_loopw [11, 12] (fun ov kv wr => ∃ k : Nat, k ≤ l.length ∧ kv = .int .i64 k ∧ ov = .int .i64 (lstR h m i key (l.take k)) ∧ Below w.heap.size w wr) (fun _ kv _ => l.length - (intOf kv).toNat)
 case atStart => exact ⟨0, by omega, rfl, by rw [H0.out], Below.refl _ _⟩
 case round =>
  obtain ⟨k, hk, rfl, rfl, hb⟩ := hrel
  by_cases hlt : k < l.length
  ·have hki : (k : Int) < (l.length : Int) := by omega
   obtain ⟨g, o, hao, e0⟩ := (HL.out _ hb).at hlt
   cases hao
   have HS := hid (HTK.out k hlt)
   have hr := HIN.out _ (List.getElem_mem hlt)
   obtain ⟨j, hj⟩ : ∃ j : Nat, l[k] = (j : Int) := ⟨l[k].toNat, by omega⟩
   rw [hj] at e0 HS hr
   rw [Int.toNat_natCast] at HS
   have hjn : j < h.length := by omega
   have D1 := hid (CH.out (j : Int) _ hb)
   have D2 := hid (CW.out j hjn _ hb)
   generalize hasP m (j : Int) i = p1 at *
   generalize wrsR h j key = p2 at *
   generalize lstR h m i key (l.take k) = f0 at *
   clear CH CW HTK hj
   go_wp2_with fail
   refine (D1.out).mono ?_
   rintro e w1 ⟨rfl, rfl⟩
   cases p1 with
   | false =>
    have HN : Hid (lstR h m i key (l.take (k + 1)) = f0) := hid (by rw [HS.out]; rfl)
    go_wp2_with fail
    go_roundw
    case rel => exact ⟨k + 1, by omega, by go_num, by rw [HN.out], hb⟩
    case measure => simp [intOf]; omega
   | true =>
    go_wp2_with fail
    refine (D2.out).mono ?_
    rintro e w2 ⟨rfl, h2⟩
    have e1 := (h2.cell (p := ⟨g, o + k, none⟩) (block_lt e0)).trans e0
    have hb2 := below_then hb h2
    clear e0 hb h2
    cases p2 with
    | false =>
     have HN : Hid (lstR h m i key (l.take (k + 1)) = f0) := hid (by rw [HS.out]; rfl)
     go_wp2_with fail
     go_roundw
     case rel => exact ⟨k + 1, by omega, by go_num, by rw [HN.out], hb2⟩
     case measure => simp [intOf]; omega
    | true =>
     have HN : Hid (lstR h m i key (l.take (k + 1)) = (j : Int)) := hid (by rw [HS.out]; rfl)
     go_wp2_with fail
     go_roundw
     case rel => exact ⟨k + 1, by omega, by go_num, by rw [HN.out], hb2⟩
     case measure => simp [intOf]; omega
  ·have hkn : k = l.length := by omega
   subst hkn
   go_wp2_with fail
   go_ret
   exact ⟨congrArg (fun q => Ending.returned (Value.int .i64 q)) HE.out, hb⟩
theorem all_noH {α : Type} {p : α → Bool} {l : List α} {a : α} (ha : a ∈ l) (h : p a = false) : l.all p = false := by
 rw [List.all_eq_false]; exact ⟨a, ha, by rw [h]; decide⟩
theorem all_takeH {α : Type} {p : α → Bool} {l : List α} {k : Nat} (hk : k < l.length) (h : (l.take k).all p = true) (h1 : p l[k] = true) : (l.take (k + 1)).all p = true := by
 rw [List.take_succ_eq_append_getElem hk, List.all_append, h]; simp [h1]
theorem all_rng {p : Nat → Bool} {k : Nat} (h : (List.range k).all p = true) (h1 : p k = true) : (List.range (k + 1)).all p = true := by
 rw [List.range_succ, List.all_append, h]; simp [h1]
theorem rright12_any (va vr vm : Value) (h : List TxnV) (l : List Int) (m : List Pr) (w : World) (hn : h.length ≤ 64) (hT : Txns w va h) (hl : Ints w vr l) (hm : Prs w vm m) :
  Calls Tryz.prog 159 #[va, vr, vm] w fun e w' => e = .returned (.bool (rightR h l m)) ∧ Below w.heap.size w w' := by
 have CR := hid (rrow12_any h.length vr l w (by omega) hl)
 have CP := hid (fun (a : Int) wx (hx : Below w.heap.size w wx) => rplace_any vr l a wx (hl.below hx))
 have CL := hid (fun (hin : ∀ a ∈ l, 0 ≤ a ∧ a < (h.length : Int)) (i key : Int) wx (hx : Below w.heap.size w wx) => rlast12_any va vr vm h l m i key wx (hT.below hx) (hl.below hx) (hm.below hx) hin)
 have CD := hid (fun (i : Nat) (hi : i < h.length) wx (hx : Below w.heap.size w wx) => rreads8_any va h i hi wx (hT.below hx))
 have HM := hid (fun wx (hx : Below w.heap.size w wx) => hm.below hx)
 have HR : Hid (rightR h l m = (rowRef12 h.length l && (m.all (pairOkR l) && (List.range h.length).all fun (i : Nat) => (rdR h (i : Int) (refReads (opsAt h i))).all (rdOkR h l m i)))) := hid rfl
 have HF := hid (fun hr : rowRef12 h.length l = true => full_of_row hr)
 obtain ⟨ao, cap, rfl, hal⟩ := hT.form
 obtain ⟨ro, rcap, rfl, hrl⟩ := hl.form
 obtain ⟨mo, mcap, rfl, hml⟩ := hm.form
 clear hT hl hm hn
 generalize rightR h l m = z at *
 go_enter Tryz.func159, Tryz.ntmps159
 go_wp2_with fail
 refine (CR.out).mono ?_
 rintro e w1 ⟨rfl, rfl⟩
 cases hrow : rowRef12 h.length l with
 | false =>
  rw [hrow] at HR
  go_wp2_with fail
  go_ret
  exact ⟨ret_b (by rw [HR.out]; rfl), Below.refl _ _⟩
 | true =>
  have HIN := hid (fun a ha => ((HF.out hrow).2 a).1 ha)
  rw [hrow, Bool.true_and] at HR
  clear HF CR hrow
  go_wp2_with fail
  go_loopw [7] (fun kv wr => ∃ k : Nat, k ≤ m.length ∧ kv = .int .i64 k ∧ Hid ((m.take k).all (pairOkR l) = true) ∧ Below w.heap.size w wr) (fun kv _ => m.length - (intOf kv).toNat)
  case atStart => exact ⟨0, by omega, rfl, hid rfl, Below.refl _ _⟩
  case round =>
   obtain ⟨k, hk, rfl, HA, hb⟩ := hrel
   by_cases hlt : k < m.length
   ·have hki : (k : Int) < (m.length : Int) := by omega
    obtain ⟨g, o, hao, c1, c2⟩ := (HM.out _ hb).at hlt
    cases hao
    have HY := hid (fun hp : pairOkR l m[k] = true => all_takeH hlt HA.out hp)
    have HNO := hid (fun hp : pairOkR l m[k] = false => show z = false by rw [HR.out, all_noH (List.getElem_mem hlt) hp]; rfl)
    have HP : Hid (pairOkR l m[k] = (decide (0 ≤ placeI l m[k].1) && (decide (0 ≤ placeI l m[k].2) && decide (placeI l m[k].1 < placeI l m[k].2)))) := hid rfl
    have D1 := hid (CP.out m[k].1 _ hb)
    have D2 := hid (CP.out m[k].2 _ hb)
    generalize pairOkR l m[k] = q at *
    generalize placeI l m[k].1 = x at *
    generalize placeI l m[k].2 = y at *
    generalize m[k].1 = m1 at *
    generalize m[k].2 = m2 at *
    clear HA CP CL CD
    go_wp2_with fail
    refine (D1.out).mono ?_
    rintro e w1 ⟨rfl, rfl⟩
    go_wp2_with fail
    refine (D2.out).mono ?_
    rintro e w1 ⟨rfl, rfl⟩
    by_cases hx : x < 0
    ·have HV : Hid (false = z) := hid (HNO.out (by rw [HP.out, decide_eq_false (by omega)]; rfl)).symm
     clear HY HNO HP
     go_wp2_with fail
     go_ret
     exact ⟨ret_b HV.out, hb⟩
    by_cases hy : y < 0
    ·have HV : Hid (false = z) := hid (HNO.out (by rw [HP.out, decide_eq_false (show ¬ 0 ≤ y by omega), Bool.false_and, Bool.and_false])).symm
     clear HY HNO HP
     go_wp2_with fail
     go_ret
     exact ⟨ret_b HV.out, hb⟩
    by_cases hxy : x < y
    ·have hle : ¬ y ≤ x := by omega
     have HV := hid (HY.out (by rw [HP.out, decide_eq_true (show 0 ≤ x by omega), decide_eq_true (show 0 ≤ y by omega), decide_eq_true hxy]; rfl))
     clear HY HNO HP
     go_wp2_with fail
     go_roundw
     case rel => exact ⟨k + 1, by omega, by go_num, HV, hb⟩
     case measure => simp [intOf]; omega
    ·have hle : y ≤ x := by omega
     have HV : Hid (false = z) := hid (HNO.out (by rw [HP.out, decide_eq_false hxy, Bool.and_false, Bool.and_false])).symm
     clear HY HNO HP
     go_wp2_with fail
     go_ret
     exact ⟨ret_b HV.out, hb⟩
   ·have hkn : k = m.length := by omega
    subst hkn
    have hA := HA.out
    rw [List.take_length] at hA
    rw [hA, Bool.true_and] at HR
    clear HA hA CP HM hlt hk
    go_wp2_with fail
    go_loopw [10] (fun iv wr => ∃ i : Nat, i ≤ h.length ∧ iv = .int .i64 i ∧ Hid (((List.range i).all fun (i : Nat) => (rdR h (i : Int) (refReads (opsAt h i))).all (rdOkR h l m i)) = true) ∧ Below w.heap.size w wr) (fun iv _ => h.length - (intOf iv).toNat)
    case atStart => exact ⟨0, by omega, rfl, hid rfl, hb⟩
    case round =>
     clear hb
     obtain ⟨i, hi, rfl, HA, hb⟩ := hrel
     by_cases hlt : i < h.length
     ·have hii : (i : Int) < (h.length : Int) := by omega
      have DD := hid (CD.out i hlt _ hb)
      have HL := hid (show rdR h (i : Int) (refReads (opsAt h i)) = rdR h (i : Int) (refReads h[i].l) by rw [opsAt_eq hlt])
      have HY := hid (fun hp : (rdR h (i : Int) (refReads h[i].l)).all (rdOkR h l m i) = true => all_rng (p := fun (i : Nat) => (rdR h (i : Int) (refReads (opsAt h i))).all (rdOkR h l m i)) HA.out (by show (rdR h (i : Int) (refReads (opsAt h i))).all (rdOkR h l m i) = true; rw [HL.out]; exact hp))
      have HNO := hid (fun hp : (rdR h (i : Int) (refReads h[i].l)).all (rdOkR h l m i) = false => show z = false by rw [HR.out]; exact all_noH (p := fun (i : Nat) => (rdR h (i : Int) (refReads (opsAt h i))).all (rdOkR h l m i)) (List.mem_range.2 hlt) (by show (rdR h (i : Int) (refReads (opsAt h i))).all (rdOkR h l m i) = false; rw [HL.out]; exact hp))
      clear HA HL CD
      generalize rdR h (i : Int) (refReads h[i].l) = L at *
      go_wp2_with fail
      refine (DD.out).mono ?_
      rintro e w2 ⟨v2, rfl, hO2, h2⟩
      have hL : Frs w2 v2 L := Row.of_owns hO2
      obtain ⟨a2, cap2, rfl, hll⟩ := hL.form
      have hb2 := below_then hb h2
      clear DD hO2 hb h2
      go_wp2_with fail
      go_loopw [12] (fun kv wr => ∃ k : Nat, k ≤ L.length ∧ kv = .int .i64 k ∧ Hid ((L.take k).all (rdOkR h l m i) = true) ∧ Below w.heap.size w wr ∧ Below w2.heap.size w2 wr) (fun kv _ => L.length - (intOf kv).toNat)
      case atStart => exact ⟨0, by omega, rfl, hid rfl, hb2, Below.refl _ _⟩
      case round =>
       clear hb2
       obtain ⟨k, hk, rfl, HA, hb, hb1⟩ := hrel
       by_cases hlk : k < L.length
       ·have hkk : (k : Int) < (L.length : Int) := by omega
        obtain ⟨g, o, hao, d1, d2⟩ := (hL.below hb1).at hlk
        cases hao
        have HYY := hid (fun hp : rdOkR h l m i L[k] = true => all_takeH hlk HA.out hp)
        have HNN := hid (fun hp : rdOkR h l m i L[k] = false => HNO.out (all_noH (List.getElem_mem hlk) hp))
        have HQ : Hid (rdOkR h l m i L[k] = decide (lstR h m (i : Int) L[k].1 l = L[k].2)) := hid rfl
        have DL := hid (fun wx (hx : Below w.heap.size w wx) => CL.out HIN.out (i : Int) L[k].1 wx hx)
        generalize rdOkR h l m i L[k] = q at *
        generalize lstR h m (i : Int) L[k].1 l = x at *
        generalize L[k].1 = y at *
        generalize L[k].2 = t at *
        clear HA CL HY HNO
        have hlo := block_lt d1
        simp only at hlo
        go_wp2_with fail
        have kk := Below.refl wr.heap.size wr
        go_region_held3 (fun w' => w'.cell? ⟨g, o + k * 2, none⟩ = some (.int .i64 y) ∧ w'.cell? ⟨g, o + k * 2 + 1, none⟩ = some (.int .i64 t))
         (go_keep)
         (first
          | (go_at_call 181; refine (DL.out _ (below_then hb (by first | exact kk | exact kk.drew | exact below_drewN kk _))).mono ?_; rintro e wx ⟨rfl, hbx⟩; have kk : Below wr.heap.size wr wx := (by first | exact below_then kk hbx | exact below_then kk ⟨hbx.os, hbx.tape, hbx.output, hbx.size, hbx.block⟩); have d1 := (kk.cell (p := ⟨g, o + k * 2, none⟩) hlo).trans d1; have d2 := (kk.cell (p := ⟨g, o + k * 2 + 1, none⟩) hlo).trans d2))
        have hb4 := below_then hb kk
        have hb5 := below_then hb1 kk
        clear DL hbx hb hb1
        by_cases hxt : x = t
        ·have HV := hid (HYY.out (by rw [HQ.out, decide_eq_true hxt]))
         subst hxt
         clear HYY HNN HQ
         go_wp2_with fail
         go_roundw
         case rel => exact ⟨k + 1, by omega, by go_num, HV, hb4, hb5⟩
         case measure => simp [intOf]; omega
        ·have HV : Hid (false = z) := hid (HNN.out (by rw [HQ.out, decide_eq_false hxt])).symm
         clear HYY HNN HQ
         go_wp2_with fail
         go_ret
         exact ⟨ret_b HV.out, hb4⟩
       ·have hkn : k = L.length := by omega
        subst hkn
        have HV := hid (HY.out (by have := HA.out; rwa [List.take_length] at this))
        clear HY HNO HA
        go_wp2_with fail
        go_roundw
        case rel => exact ⟨i + 1, by omega, by go_num, HV, hb⟩
        case measure => simp [intOf]; omega
     ·have hin : i = h.length := by omega
      subst hin
      have HV : Hid (true = z) := hid (by rw [HR.out]; exact HA.out.symm)
      go_wp2_with fail
      go_ret
      exact ⟨ret_b HV.out, hb⟩
end

section
open Go.RowKit
theorem lv_lt {lv : Int} (h : isLv lv = true) : 0 ≤ lv ∧ lv < 12 := by unfold isLv at h; exact of_decide_eq_true h
theorem full_ref {n : Nat} {row : List Nat} (hp : row.Perm (List.range n)) (hn : n ≤ 64) : rowRef12 n (row.map Int.ofNat) = true := by
 rw [← row_same n hn]; exact row_perm hn hp
theorem kept_right {h : List TxnV} (hc : checkI h = 0) {lv : Int} {row : List Nat} {m : List Pr} (hp : row.Perm (List.range h.length)) (hlv : isLv lv = true) (hs : soundTo h h.length = true) (hL : LeaL h (askN lv) (row.map Int.ofNat) h.length m) :
  rightR h (row.map Int.ofNat) m = keptL h lv row ∧ ∀ R, LeastIs h (askN lv) (row.map Int.ofNat) R → Rep R m := by
 have hx := askN_lt lv
 have hR : ∀ R, LeastIs h (askN lv) (row.map Int.ofNat) R → Rep R m := fun R hR => lea_rep hc (full_of_perm hp) hx (by omega) (fun _ _ => rfl) hL hR
 refine ⟨?_, hR⟩
 obtain ⟨R, hRl⟩ := least_some h (askN lv) (row.map Int.ofNat)
 rw [← kept_holds hc lv hp hRl, ← right_same hc (hR R hRl)]
 unfold holdsB
 rw [hlv, hs, least_kept hx hRl]
 simp
theorem rin13_any (va vr : Value) (h : List TxnV) (lv : Int) (row : List Nat) (w : World) (hc : checkI h = 0) (hp : row.Perm (List.range h.length)) (hT : Txns w va h) (hl : Ints w vr (row.map Int.ofNat)) :
  Calls Tryz.prog 125 #[va, .int .i64 lv, vr] w fun e w' => (∃ v, e = .returned (.tuple #[v, .bool (keptL h lv row)]) ∧ (keptL h lv row = true → ∃ m, Prs w' v m ∧ ∀ R, LeastIs h (askN lv) (row.map Int.ofNat) R → Rep R m)) ∧ Below w.heap.size w w' := by
 have h64 := (check_zero hc).1
 obtain ⟨ro, rcap, rfl, hrl⟩ := hl.form
 rw [List.length_map] at hl ⊢
 have CR := hid (rrow12_any h.length (.slice ro row.length rcap) (row.map Int.ofNat) w (by omega) hl)
 rw [full_ref hp h64] at CR
 have CS := hid (rsound_any va h hc w hT)
 have CA := hid (fun wx => rl_asks lv wx)
 have CO := hid (fun wx (hx : Below w.heap.size w wx) => rof11_any va (.slice ro row.length rcap) h (askN lv) (askN_lt lv) (row.map Int.ofNat) wx h64 (hT.below hx) (hl.below hx))
 have CG := hid (fun vm m wx (hx : Below w.heap.size w wx) (hm : Prs wx vm m) => rright12_any va (.slice ro row.length rcap) vm h (row.map Int.ofNat) m wx h64 (hT.below hx) (hl.below hx) hm)
 have HK := hid (fun m hlv hs hL => kept_right (lv := lv) (m := m) hc hp hlv hs hL)
 have HF : Hid (isLv lv = false → keptL h lv row = false) := hid (fun h => by unfold keptL; rw [h]; rfl)
 have HS : Hid (soundTo h h.length = false → keptL h lv row = false) := hid (fun h => by unfold keptL; rw [h, Bool.false_and, Bool.and_false])
 obtain ⟨ao, cap, rfl, hal⟩ := hT.form
 cases hlv : isLv lv with
 | false =>
  have HV := hid (HF.out hlv)
  have hr : lv < 0 ∨ (¬ lv < 0 ∧ 11 < lv) := by unfold isLv at hlv; rw [decide_eq_false_iff_not] at hlv; omega
  clear CR CS CA CO CG HK HF HS hlv hT hl
  rw [HV.out]
  rcases hr with hr | ⟨hr, hr2⟩
  all_goals
   go_enter Tryz.func125, Tryz.ntmps125
   go_wp2_with fail
   go_ret2
   first | exact ⟨⟨_, rfl, fun h => (by cases h)⟩, Below.refl _ _⟩ | exact ⟨⟨_, rfl⟩, Below.refl _ _⟩
 | true =>
  obtain ⟨h0, h1⟩ := lv_lt hlv
  cases hs : soundTo h h.length with
  | false =>
   have HV := hid (HS.out hs)
   rw [hs] at CS
   clear CA CO CG HK HF HS hlv hT hl hs
   rw [HV.out]
   go_enter Tryz.func125, Tryz.ntmps125
   go_wp2_with fail
   refine CR.out.mono ?_
   rintro e wq ⟨rfl, rfl⟩
   go_wp2_with fail
   refine CS.out.mono ?_
   rintro e w1 ⟨rfl, hb1⟩
   go_wp2_with fail
   go_ret2
   exact ⟨⟨_, rfl, fun h => (by cases h)⟩, hb1⟩
  | true =>
   have HK := hid (fun m => HK.out m hlv hs)
   rw [hs] at CS
   clear HF HS hlv hT hl hs
   generalize keptL h lv row = z at *
   go_enter Tryz.func125, Tryz.ntmps125
   go_wp2_with fail
   refine CR.out.mono ?_
   rintro e wq ⟨rfl, rfl⟩
   go_wp2_with fail
   refine CS.out.mono ?_
   rintro e w1 ⟨rfl, hb1⟩
   have CO1 := hid (CO.out _ hb1)
   go_wp2_with fail
   refine (CA.out _).mono ?_
   rintro e wq ⟨rfl, rfl⟩
   go_wp2_with fail
   refine CO1.out.mono ?_
   rintro e w2 ⟨v, m, rfl, hm, hL, hb2⟩
   have hb2 := below_then hb1 hb2
   have HM := hid (HK.out m hL)
   have CG2 := hid (CG.out v m w2 hb2 hm)
   rw [HM.out.1] at CG2
   have HP := hid hm
   clear hm hL CO CO1 CG
   go_wp2_with fail
   refine CG2.out.mono ?_
   rintro e w3 ⟨rfl, hb3⟩
   have HP3 := hid (HP.out.below hb3)
   go_wp2_with fail
   go_ret2
   exact ⟨⟨_, rfl, fun _ => ⟨m, HP3.out, HM.out.2⟩⟩, below_then hb2 hb3⟩
end

section
open Go.RowKit
theorem ahead_pos {i j : Nat} : ∀ {L : List Nat}, Ahead (L.map Int.ofNat) (i : Int) (j : Int) → ∃ (p q : Nat) (h1 : p < q) (h2 : q < L.length), L[p] = i ∧ L[q] = j
 | [], h => by cases h
 | a :: L, h => by
  rcases h with h | ⟨e, hj⟩
  rotate_left
  ·obtain ⟨b, hb, e2⟩ := List.mem_map.1 hj
   obtain ⟨q, hq, e3⟩ := List.getElem_of_mem hb
   exact ⟨0, q + 1, by omega, by simp; omega, Int.ofNat.inj e, by simp [e3]; exact Int.ofNat.inj e2⟩
  ·obtain ⟨p, q, h1, h2, e1, e2⟩ := ahead_pos h
   exact ⟨p + 1, q + 1, by omega, by simp; omega, by simpa using e1, by simpa using e2⟩
section
variable {h : List TxnV} {lv : Int} {L : List Nat}
end
end

section
open Go.RowKit
theorem rall_any (n : Nat) (hn : n ≤ 1000) (w : World) :
  Calls Tryz.prog 79 #[.int .i64 (n : Int)] w fun e w' => (∃ v, e = .returned v ∧ Ints w' v ((List.range n).map Int.ofNat)) ∧ Below w.heap.size w w' := by
 obtain ⟨i0, hi, hz0, hz1, hz2⟩ := info_parts infoInt
 have hlit : (w.alloc (.cells #[] 3)).ownsRow w.heap.size 3 1 (.slice (some ⟨w.heap.size, 0, none⟩) 0 0) 0 ((List.range 0).map fun i : Nat => Value.int .i64 (i : Int)) := World.ownsRow_lit (size := 1) _ _ _ (Nat.le_refl _) (by simp) (by simp)
 have hb0 := box_below w (.cells #[] 3)
 go_enter Tryz.func79, Tryz.ntmps79
 go_wp2_with fail
 generalize w.alloc (.cells #[] 3) = w0 at *
 go_loopw [3, 4] (fun v i wr => ∃ k : Nat, k ≤ n ∧ i = .int .i64 k ∧ wr.ownsRow w.heap.size 3 1 v k ((List.range k).map fun i : Nat => Value.int .i64 (i : Int)) ∧ Below w.heap.size w wr) (fun _ i _ => n - (intOf i).toNat)
 case atStart => exact ⟨0, by omega, rfl, hlit, hb0⟩
 case round =>
  clear hlit hb0
  obtain ⟨k, hk, rfl, hown, hb⟩ := hrel
  by_cases hlt : k < n
  ·have hki : (k : Int) < (n : Int) := by omega
   have HR : Hid ((List.range (k + 1)).map (fun i : Nat => Value.int .i64 (i : Int)) = (List.range k).map (fun i : Nat => Value.int .i64 (i : Int)) ++ [.int .i64 (k : Int)]) := hid (by rw [List.range_succ, List.map_append]; rfl)
   generalize (List.range k).map (fun i : Nat => Value.int .i64 (i : Int)) = xs at *
   go_wp2_with (at_builtin; refine wpList_append_own _ rfl _ _ 36 rfl w.heap.size 3 i0 (.int .i64 0) 1 8 Tryz.underlying36 hi hz0 hz1 hz2 rfl (by decide) _ _ _ rfl (hown.alloc _) ⟨_, 0, none⟩ 1 1 [.int .i64 (k : Int)] rfl rfl ?c1 ?c2 ?c3 ?c4 ?c5 ?_)
   try case c1 => exact cell_one_new _ _ _
   case c2 => first | rfl | (intro u hu; simp at hu; subst hu; rfl)
   case c3 => unfold maxLen; omega
   case c4 => omega
   case c5 => have := hb.size; simp; omega
   intro v6 w6 hown6 hg6 _
   have hsz := hb.size
   have hb6 : Below w.heap.size w w6 := hb.trans (below_app (Below.refl _ _) hsz hown hg6)
   clear hown hg6 hb
   go_wp2_with fail
   go_roundw
   case rel => exact ⟨k + 1, by omega, by go_num, by rw [HR.out]; exact hown6, hb6⟩
   case measure => simp [intOf]; omega
  ·have hkn : k = n := by omega
   subst hkn
   have hI : Ints wr u3 ((List.range k).map Int.ofNat) := Ints.of_nats hown
   clear hown hlt
   go_wp2_with fail
   go_ret
   exact ⟨⟨_, rfl, hI⟩, hb⟩
theorem rwithout_any (vl : Value) (L : List Nat) (j : Nat) (w : World) (hI : Ints w vl (L.map Int.ofNat)) (hjl : j < L.length) (hn : L.length ≤ 1000) :
  Calls Tryz.prog 126 #[vl, .int .i64 (j : Int)] w fun e w' => (∃ v, e = .returned v ∧ Ints w' v ((L.take j ++ L.drop (j + 1)).map Int.ofNat)) ∧ Below w.heap.size w w' := by
 obtain ⟨i0, hi, hz0, hz1, hz2⟩ := info_parts infoInt
 obtain ⟨lo, lcap, rfl, ⟨hlc, hlm⟩, hno⟩ := hI.full
 rw [List.length_map] at hlc hno
 rw [List.length_map] at hI ⊢
 obtain ⟨g, o, hgo, hcj⟩ := ints_at hI hjl
 cases hgo
 have hji : (j : Int) < (L.length : Int) := by omega
 have hW : Below w.heap.size w (w.drew.alloc (.cells #[] 3)) := (⟨rfl, rfl, rfl, Nat.le_refl _, fun _ _ => rfl⟩ : Below w.heap.size w w.drew).alloc (Nat.le_refl _) _
 have HOW := hid (World.ownsRow_made (base := w.heap.size) (e := 3) (size := 1) w.drew #[] 0 (Nat.le_refl _) (by decide) rfl)
 obtain ⟨A, hA, HC2⟩ : ∃ A : Addr, (if lcap = j + 1 then some (⟨g, o, none⟩ : Addr) else some ⟨g, o + (j + 1), none⟩) = some A ∧ Hid (∀ w7, Below w.heap.size w w7 → ∀ i u, ((L.drop (j + 1)).map fun i : Nat => Value.int .i64 (i : Int))[i]? = some u → w7.cell? (A.add i) = some u) := by
  by_cases h : lcap = j + 1
  ·refine ⟨⟨g, o, none⟩, by simp [h], fun w7 hb7 i u hu => ?_⟩
   rw [List.drop_eq_nil_of_le (by omega)] at hu
   simp at hu
  ·exact ⟨⟨g, o + (j + 1), none⟩, by simp [h], fun w7 hb7 => (hI.below hb7).news (j + 1)⟩
 have HC1 : Hid (∀ i u, ((L.take j).map fun i : Nat => Value.int .i64 (i : Int))[i]? = some u → (w.drew.alloc (.cells #[] 3)).cell? ((⟨g, o, none⟩ : Addr).add i) = some u) := hid (fun i u hu => by
  have hi : i < j := by
   have := (List.getElem?_eq_some_iff.1 hu).1
   simp at this; omega
  refine (hI.below hW).news 0 i u ?_
  rw [List.drop_zero, ← hu, List.map_take, List.getElem?_take, if_pos hi])
 have s1 : Hid (((L.take j).map fun i : Nat => Value.int .i64 (i : Int)).length = j * 1) := hid (by simp; omega)
 have s2 : Hid (∀ u ∈ ((L.take j).map fun i : Nat => Value.int .i64 (i : Int)), u.oneCell' = true) := hid (fun u hu => by
  obtain ⟨x, _, rfl⟩ := List.mem_map.1 hu
  rfl)
 have t1 : Hid (((L.drop (j + 1)).map fun i : Nat => Value.int .i64 (i : Int)).length = (L.length - (j + 1)) * 1) := hid (by simp)
 have t2 : Hid (∀ u ∈ ((L.drop (j + 1)).map fun i : Nat => Value.int .i64 (i : Int)), u.oneCell' = true) := hid (fun u hu => by
  obtain ⟨x, _, rfl⟩ := List.mem_map.1 hu
  rfl)
 have HS5 : Hid (w.heap.size ≤ (w.drew.alloc (.cells #[] 3)).heap.size) := hid hW.size
 have HB7 : Hid (∀ w7, (w.drew.alloc (.cells #[] 3)).grownBy w7 (some w.heap.size) → Below w.heap.size w w7) := hid (fun w7 hg => hW.grown hg hW.size (fun k hk => by cases hk; exact Nat.le_refl _))
 have hjc : j ≤ lcap := by omega
 have hwr : IntKind.i64.wrap ((j : Int) + 1) = (j : Int) + 1 := by rw [IntKind.wrap_i64]; omega
 have hp0 : (0 : Int) ≤ (j : Int) + 1 := by omega
 have hp1 : (j : Int) + 1 ≤ (L.length : Int) := by omega
 have hp2 : ((j : Int) + 1).toNat = j + 1 := by omega
 clear hI hW hcj hno
 go_enter Tryz.func126, Tryz.ntmps126
 go_wp2_with fail
 go_region_law (first
  | (refine step_append_own _ rfl (.tmp 9) (.tmp 13) 36 rfl w.heap.size 3 i0 (.int .i64 0) 1 8 Tryz.underlying36 hi hz0 hz1 hz2 rfl (by decide) v7 (0 + j) _ (by simp [Act.eval]) hown7 A (L.length - (j + 1)) (lcap - (j + 1)) _ (by simp [Act.eval]) t1.out (HC2.out _ (HB7.out _ hg7)) t2.out (by unfold maxLen; omega) (by omega) (Nat.le_trans HS5.out hg7.size) ?_; intro v8 w8 hown8 hg8)
  | (refine step_append_own _ rfl (.tmp 5) (.tmp 8) 36 rfl w.heap.size 3 i0 (.int .i64 0) 1 8 Tryz.underlying36 hi hz0 hz1 hz2 rfl (by decide) _ 0 [] (by simp [Act.eval]) HOW.out ⟨g, o, none⟩ j lcap _ (by simp [Act.eval]) s1.out HC1.out s2.out (by unfold maxLen; omega) (by omega) HS5.out ?_; intro v7 w7 hown7 hg7))
 all_goals have hb8 : Below w.heap.size w w8 := (HB7.out _ hg7).trans ((Below.refl _ _).grown hg8 (Nat.le_trans HS5.out hg7.size) (fun k hk => (hown7.lt k hk).1))
 all_goals have hI8 : Ints w8 v8 ((L.take j ++ L.drop (j + 1)).map Int.ofNat) := Ints.of_nats (base := w.heap.size) (e := 3) (n := 0 + j + (L.length - (j + 1))) (by rw [List.map_append]; exact hown8)
 all_goals clear HB7 HC1 HC2 HOW hown7 hg7 hown8 hg8
 all_goals go_simp
 all_goals go_wp2
 all_goals go_ret
 all_goals exact ⟨⟨_, rfl, hI8⟩, hb8⟩
end

section
open Go.RowKit Go.Shelf
attribute [local go_sem] Oper.semAt_some
theorem bin_kept (lv : Int) (va : Value) (r : List Nat) (h : List TxnV) (B b : Nat) (w : World) (hO : OrdIs w B b h) (hc : checkI h = 0) (ht : Tab w) (hK : Kinds w) (hl : Ints w va (r.map Int.ofNat)) (hr : r ∈ ordersN h.length) :
  Calls Tryz.prog 81 #[.pointer (some ⟨B, 0, none⟩), .int .i64 lv, va] w fun e w' => (∃ X, (keptL h lv r = true → LeastIs h (askN lv) (r.map Int.ofNat) X) ∧ e = .returned (.tuple #[.agg (rowsA X), .bool (keptL h lv r)])) ∧ Below w.heap.size w w' := by
 refine (bin_any lv va (r.map Int.ofNat) h B b w hO hc ht hK hl).mono ?_
 rintro e w' ⟨⟨R, hR, rfl⟩, hb⟩
 have e1 := kept_holds hc lv (orders_perm hr) hR
 refine ⟨⟨inR h lv (r.map Int.ofNat) R, fun hk => ?_, by rw [e1]⟩, hb⟩
 unfold inR
 rw [if_pos (by rw [e1]; exact hk)]
 exact hR
end

section
open Go.RowKit Go.Shelf
theorem info50 : (Tryz.prog.info? 39).map (·.size) = some 2 := by kernel_rfl
theorem run_load_wit {w : World} {g : Nat} {vo vs : Value} (h0 : w.cell? ⟨g, 0, none⟩ = some vo) (h1 : w.cell? ⟨g, 1, none⟩ = some vs) : (loadVar 39 ⟨g, 0, none⟩).run Tryz.prog w = .ok (.agg #[vo, vs]) w := by
 have hl : (loadCells ⟨g, 0, none⟩ [vo, vs].length).run Tryz.prog w = .ok [vo, vs].toArray w :=
  run_loadCells_list (P := Tryz.prog) w ⟨g, 0, none⟩ [vo, vs] (fun j v hv => by
   have hadd : (⟨g, 0, none⟩ : Addr).add j = ⟨g, j, none⟩ := by unfold Addr.add; split <;> simp_all
   rw [hadd]
   match j, hv with
   | 0, hv => rw [h0]; exact hv
   | 1, hv => rw [h1]; exact hv
   | j + 2, hv => simp at hv)
 cases hq : Tryz.prog.info? 39 with
 | none => have := info50; simp [hq] at this
 | some i =>
  have hs : i.size = 2 := by have := info50; simpa [hq] using this
  have hagg : (isAgg 39).run Tryz.prog w = .ok true w := by
   unfold isAgg
   rw [Sem.run_bind, run_underlying Tryz.underlying39 w]
   rfl
  simp only [List.length_cons, List.length_nil, Nat.zero_add, Nat.reduceAdd] at hl
  simp [loadVar, Sem.run_bind, hagg, sizeOf, typeInfo, hq, hs, hl]
theorem run_load_bool {w : World} {g : Nat} {v : Value} (h0 : w.cell? ⟨g, 0, none⟩ = some v) : (loadVar 4 ⟨g, 0, none⟩).run Tryz.prog w = .ok v w := by
 have hagg : (isAgg 4).run Tryz.prog w = .ok false w := by
  unfold isAgg
  rw [Sem.run_bind, run_underlying Tryz.underlying4 w]
  rfl
 simp [loadVar, Sem.run_bind, hagg, h0]
theorem results_dec {fn : Func} {p q u : Tmp} (h : fn.results = #[.cell p 39, .cell q 4, .cell u 4]) (tmps : Array Value) (w : World) (g1 g2 g3 : Nat) (vo vs b1 b2 : Value)
  (hp : tmps.getD p undef = .pointer (some ⟨g1, 0, none⟩)) (hq : tmps.getD q undef = .pointer (some ⟨g2, 0, none⟩)) (hu : tmps.getD u undef = .pointer (some ⟨g3, 0, none⟩))
  (h0 : w.cell? ⟨g1, 0, none⟩ = some vo) (h1 : w.cell? ⟨g1, 1, none⟩ = some vs) (h2 : w.cell? ⟨g2, 0, none⟩ = some b1) (h3 : w.cell? ⟨g3, 0, none⟩ = some b2) : (results fn tmps).run Tryz.prog w = .ok (.tuple #[.agg #[vo, vs], b1, b2]) w := by
 have hp' : tmps[p]?.getD undef = .pointer (some ⟨g1, 0, none⟩) := by simpa using hp
 have hq' : tmps[q]?.getD undef = .pointer (some ⟨g2, 0, none⟩) := by simpa using hq
 have hu' : tmps[u]?.getD undef = .pointer (some ⟨g3, 0, none⟩) := by simpa using hu
 simp [results, h, hp', hq', hu', asAddr, Sem.run_bind, run_load_wit h0 h1, run_load_bool h2, run_load_bool h3, Result.andThen]
def DecRes (h : List TxnV) (lv : Int) (v : Value) (w : World) : Prop :=
 if h.length ≤ 8 then
  match (ordersN h.length).find? (keptL h lv) with
  | none => v = .tuple #[.agg #[.slice none 0 0, .slice none 0 0], .bool false, .bool true]
  | some r => ∃ vo vs X, v = .tuple #[.agg #[vo, vs], .bool true, .bool true] ∧ LeastIs h (askN lv) (r.map Int.ofNat) X ∧ Ints w vo (r.map Int.ofNat) ∧ Lists w vs (seesL X (r.map Int.ofNat).length)
 else v = .tuple #[.agg #[.slice none 0 0, .slice none 0 0], .bool false, .bool false]
structure DecI (s B : Nat) (lv : Int) (vo vs b1 b2 : Value) (w W : World) : Prop where
 c0 : W.cell? ⟨s, 0, none⟩ = some (.pointer (some ⟨B, 0, none⟩))
 c1 : W.cell? ⟨s + 1, 0, none⟩ = some (.int .i64 lv)
 c2 : W.cell? ⟨s + 1 + 1, 0, none⟩ = some vo
 d2 : W.cell? ⟨s + 1 + 1, 1, none⟩ = some vs
 c3 : W.cell? ⟨s + 1 + 1 + 1, 0, none⟩ = some b1
 c4 : W.cell? ⟨s + 1 + 1 + 1 + 1, 0, none⟩ = some b2
 f2 : W.frozen? ⟨s + 1 + 1, 0, none⟩ = false
 g2 : W.frozen? ⟨s + 1 + 1, 1, none⟩ = false
 f3 : W.frozen? ⟨s + 1 + 1 + 1, 0, none⟩ = false
 f4 : W.frozen? ⟨s + 1 + 1 + 1 + 1, 0, none⟩ = false
 bel : Below s w W
section
variable {s B D : Nat} {lv : Int} {vo vs b1 b2 : Value} {w W W' : World}
theorem DecI.below (q : DecI s B lv vo vs b1 b2 w W) (hb : Below D W W') (hD : s + 6 ≤ D) : DecI s B lv vo vs b1 b2 w W' :=
 ⟨(hb.cell (p := ⟨s, 0, none⟩) (by show s < D; omega)).trans q.c0, (hb.cell (p := ⟨s + 1, 0, none⟩) (by show s + 1 < D; omega)).trans q.c1, (hb.cell (p := ⟨s + 1 + 1, 0, none⟩) (by show s + 1 + 1 < D; omega)).trans q.c2, (hb.cell (p := ⟨s + 1 + 1, 1, none⟩) (by show s + 1 + 1 < D; omega)).trans q.d2,
  (hb.cell (p := ⟨s + 1 + 1 + 1, 0, none⟩) (by show s + 1 + 1 + 1 < D; omega)).trans q.c3, (hb.cell (p := ⟨s + 1 + 1 + 1 + 1, 0, none⟩) (by show s + 1 + 1 + 1 + 1 < D; omega)).trans q.c4,
  (hb.frozen (p := ⟨s + 1 + 1, 0, none⟩) (by show s + 1 + 1 < D; omega)).trans q.f2, (hb.frozen (p := ⟨s + 1 + 1, 1, none⟩) (by show s + 1 + 1 < D; omega)).trans q.g2,
  (hb.frozen (p := ⟨s + 1 + 1 + 1, 0, none⟩) (by show s + 1 + 1 + 1 < D; omega)).trans q.f3, (hb.frozen (p := ⟨s + 1 + 1 + 1 + 1, 0, none⟩) (by show s + 1 + 1 + 1 + 1 < D; omega)).trans q.f4, q.bel.trans (hb.mono (by omega))⟩
theorem DecI.put (q : DecI s B lv vo vs b1 b2 w W) (uo us u1 u2 : Value) :
  DecI s B lv uo us u1 u2 w ((((W.setCell ⟨s + 1 + 1, 0, none⟩ uo).setCell ⟨s + 1 + 1, 1, none⟩ us).setCell ⟨s + 1 + 1 + 1, 0, none⟩ u1).setCell ⟨s + 1 + 1 + 1 + 1, 0, none⟩ u2) := by
 obtain ⟨c0, c1, c2, d2, c3, c4, f2, g2, f3, f4, bel⟩ := q
 refine ⟨?_, ?_, ?_, ?_, ?_, ?_, ?_, ?_, ?_, ?_, ?_⟩
 ·simp [World.cell?_setCell_other, c0]
 ·simp [World.cell?_setCell_other, c1]
 ·rw [World.cell?_setCell_other _ _ _ _ (by simp), World.cell?_setCell_other _ _ _ _ (by simp), World.cell?_setCell_other _ _ _ _ (by simp)]
  exact World.cell?_setCell_same _ _ _ c2
 ·rw [World.cell?_setCell_other _ _ _ _ (by simp), World.cell?_setCell_other _ _ _ _ (by simp)]
  exact World.cell?_setCell_same _ _ _ (by rw [World.cell?_setCell_other _ _ _ _ (by simp)]; exact d2)
 ·rw [World.cell?_setCell_other _ _ _ _ (by simp)]
  exact World.cell?_setCell_same _ _ _ (by rw [World.cell?_setCell_other _ _ _ _ (by simp), World.cell?_setCell_other _ _ _ _ (by simp)]; exact c3)
 ·exact World.cell?_setCell_same _ _ _ (by rw [World.cell?_setCell_other _ _ _ _ (by simp), World.cell?_setCell_other _ _ _ _ (by simp), World.cell?_setCell_other _ _ _ _ (by simp)]; exact c4)
 ·simp only [World.frozen?_setCell]; exact f2
 ·simp only [World.frozen?_setCell]; exact g2
 ·simp only [World.frozen?_setCell]; exact f3
 ·simp only [World.frozen?_setCell]; exact f4
 ·exact (((bel.setCell (p := ⟨s + 1 + 1, 0, none⟩) (by show s ≤ s + 1 + 1; omega) _).setCell (p := ⟨s + 1 + 1, 1, none⟩) (by show s ≤ s + 1 + 1; omega) _).setCell (p := ⟨s + 1 + 1 + 1, 0, none⟩) (by show s ≤ s + 1 + 1 + 1; omega) _).setCell (p := ⟨s + 1 + 1 + 1 + 1, 0, none⟩) (by show s ≤ s + 1 + 1 + 1 + 1; omega) _
theorem keeps_four (W : World) (uo us u1 u2 : Value) (hD : s + 6 ≤ D) : KeepsHi D W ((((W.setCell ⟨s + 1 + 1, 0, none⟩ uo).setCell ⟨s + 1 + 1, 1, none⟩ us).setCell ⟨s + 1 + 1 + 1, 0, none⟩ u1).setCell ⟨s + 1 + 1 + 1 + 1, 0, none⟩ u2) :=
 (((KeepsHi.setCell W ⟨s + 1 + 1, 0, none⟩ uo (by show s + 1 + 1 < D; omega)).trans (KeepsHi.setCell _ ⟨s + 1 + 1, 1, none⟩ us (by show s + 1 + 1 < D; omega))).trans (KeepsHi.setCell _ ⟨s + 1 + 1 + 1, 0, none⟩ u1 (by show s + 1 + 1 + 1 < D; omega))).trans (KeepsHi.setCell _ ⟨s + 1 + 1 + 1 + 1, 0, none⟩ u2 (by show s + 1 + 1 + 1 + 1 < D; omega))
end
theorem six_boxes (w : World) (B : Nat) (lv n : Int) (t1 t2 t3 t4 t5 t6 : TypeId) : ∀ w6, w6 = (((((w.alloc (.cells #[.pointer (some ⟨B, 0, none⟩)] t1)).alloc (.cells #[.int .i64 lv] t2)).alloc (.cells #[.slice none 0 0, .slice none 0 0] t3)).alloc (.cells #[.bool false] t4)).alloc (.cells #[.bool false] t5)).alloc (.cells #[.int .i64 n] t6) →
  DecI w.heap.size B lv (.slice none 0 0) (.slice none 0 0) (.bool false) (.bool false) w w6 ∧ w6.cell? ⟨w.heap.size + 5, 0, none⟩ = some (.int .i64 n) ∧ w6.heap.size = w.heap.size + 6 := by
 obtain ⟨w1, e1⟩ : ∃ x, x = w.alloc (.cells #[.pointer (some ⟨B, 0, none⟩)] t1) := ⟨_, rfl⟩
 obtain ⟨w2, e2⟩ : ∃ x, x = w1.alloc (.cells #[.int .i64 lv] t2) := ⟨_, rfl⟩
 obtain ⟨w3, e3⟩ : ∃ x, x = w2.alloc (.cells #[.slice none 0 0, .slice none 0 0] t3) := ⟨_, rfl⟩
 obtain ⟨w4, e4⟩ : ∃ x, x = w3.alloc (.cells #[.bool false] t4) := ⟨_, rfl⟩
 obtain ⟨w5, e5⟩ : ∃ x, x = w4.alloc (.cells #[.bool false] t5) := ⟨_, rfl⟩
 rw [← e1, ← e2, ← e3, ← e4, ← e5]
 intro w6 e6
 have s1 : w1.heap.size = w.heap.size + 1 := by rw [e1]; simp
 have s2 : w2.heap.size = w.heap.size + 1 + 1 := by rw [e2]; simp [s1]
 have s3 : w3.heap.size = w.heap.size + 1 + 1 + 1 := by rw [e3]; simp [s2]
 have s4 : w4.heap.size = w.heap.size + 1 + 1 + 1 + 1 := by rw [e4]; simp [s3]
 have s5 : w5.heap.size = w.heap.size + 5 := by rw [e5]; simp [s4]
 have s6 : w6.heap.size = w.heap.size + 6 := by rw [e6]; simp [s5]
 have b1 : Below w.heap.size w w1 := by rw [e1]; exact (Below.refl _ _).alloc (Nat.le_refl _) _
 have b2 : Below w1.heap.size w1 w2 := by rw [e2]; exact (Below.refl _ _).alloc (Nat.le_refl _) _
 have b3 : Below w2.heap.size w2 w3 := by rw [e3]; exact (Below.refl _ _).alloc (Nat.le_refl _) _
 have b4 : Below w3.heap.size w3 w4 := by rw [e4]; exact (Below.refl _ _).alloc (Nat.le_refl _) _
 have b5 : Below w4.heap.size w4 w5 := by rw [e5]; exact (Below.refl _ _).alloc (Nat.le_refl _) _
 have b6 : Below w5.heap.size w5 w6 := by rw [e6]; exact (Below.refl _ _).alloc (Nat.le_refl _) _
 have x4 : Below w4.heap.size w4 w6 := b5.trans (b6.mono b5.size)
 have x3 : Below w3.heap.size w3 w6 := b4.trans (x4.mono b4.size)
 have x2 : Below w2.heap.size w2 w6 := b3.trans (x3.mono b3.size)
 have x1 : Below w1.heap.size w1 w6 := b2.trans (x2.mono b2.size)
 have h1 := heap_alloc_new w (.cells #[.pointer (some ⟨B, 0, none⟩)] t1)
 have h2 := heap_alloc_new w1 (.cells #[.int .i64 lv] t2)
 have h3 := heap_alloc_new w2 (.cells #[.slice none 0 0, .slice none 0 0] t3)
 have h4 := heap_alloc_new w3 (.cells #[.bool false] t4)
 have h5 := heap_alloc_new w4 (.cells #[.bool false] t5)
 have h6 := heap_alloc_new w5 (.cells #[.int .i64 n] t6)
 rw [← e1] at h1; rw [← e2] at h2; rw [← e3] at h3; rw [← e4] at h4; rw [← e5] at h5; rw [← e6] at h6
 have k1 := (x1.block w.heap.size (by omega)).trans h1
 have k2 := (x2.block w1.heap.size (by omega)).trans h2
 have k3 := (x3.block w2.heap.size (by omega)).trans h3
 have k4 := (x4.block w3.heap.size (by omega)).trans h4
 have k5 := (b6.block w4.heap.size (by omega)).trans h5
 rw [s1] at k2; rw [s2] at k3; rw [s3] at k4; rw [s4] at k5; rw [s5] at h6
 refine ⟨⟨?_, ?_, ?_, ?_, ?_, ?_, frozen_of_row _ _ _ _ _ k3, frozen_of_row _ _ _ _ _ k3, frozen_of_row _ _ _ _ _ k4, frozen_of_row _ _ _ _ _ k5, b1.trans (x1.mono b1.size)⟩, ?_, s6⟩
 ·rw [cell_of_row _ _ _ _ _ _ k1]; rfl
 ·rw [cell_of_row _ _ _ _ _ _ k2]; rfl
 ·rw [cell_of_row _ _ _ _ _ _ k3]; rfl
 ·rw [cell_of_row _ _ _ _ _ _ k3]; rfl
 ·rw [cell_of_row _ _ _ _ _ _ k4]; rfl
 ·rw [cell_of_row _ _ _ _ _ _ k5]; rfl
 ·rw [cell_of_row _ _ _ _ _ _ h6]; rfl
end

section
open Go.RowKit Go.Shelf
attribute [local go_sem] Oper.semAt_some
theorem find_none {α : Type} {p : α → Bool} {L : List α} (h : ∀ r ∈ L, p r = false) : L.find? p = none := by
 rw [List.find?_eq_none]; intro r hr; rw [h r hr]; simp
theorem find_first {α : Type} {p : α → Bool} {pre L : List α} {r : α} (hp : (pre ++ [r]) <+: L) (hn : ∀ x ∈ pre, p x = false) (hr : p r = true) : L.find? p = some r := by
 obtain ⟨t, rfl⟩ := hp
 rw [List.append_assoc, List.find?_append, find_none hn, Option.none_or]
 simp [hr]
theorem Lists.cells {W W' : World} {v : Value} {LL : List (List Int)} (h : Lists W v LL) (hk : ∀ a u, W.cell? a = some u → W'.cell? a = some u) : Lists W' v LL := by
 obtain ⟨sv, h1, h2⟩ := h
 exact ⟨sv, h1.cells hk, fun k hk' => by obtain ⟨u, a, b⟩ := h2 k hk'; exact ⟨u, a, b.cells hk⟩⟩
theorem OwnK.four {s b : Nat} {w : World} {v : Value} {K : List KRow} (h : OwnK b w v K) (hb : s + 6 ≤ b) (uo us u1 u2 : Value) : OwnK b ((((w.setCell ⟨s + 1 + 1, 0, none⟩ uo).setCell ⟨s + 1 + 1, 1, none⟩ us).setCell ⟨s + 1 + 1 + 1, 0, none⟩ u1).setCell ⟨s + 1 + 1 + 1 + 1, 0, none⟩ u2) v K :=
 have f : ∀ {n : Nat} {e : TypeId} {v : Value} {xs : List Value}, w.ownsRow b e 1 v n xs → ((((w.setCell ⟨s + 1 + 1, 0, none⟩ uo).setCell ⟨s + 1 + 1, 1, none⟩ us).setCell ⟨s + 1 + 1 + 1, 0, none⟩ u1).setCell ⟨s + 1 + 1 + 1 + 1, 0, none⟩ u2).ownsRow b e 1 v n xs := fun h =>
  ownsRow_setCell_below (ownsRow_setCell_below (ownsRow_setCell_below (ownsRow_setCell_below h (show s + 1 + 1 < b by omega) _) (show s + 1 + 1 < b by omega) _) (show s + 1 + 1 + 1 < b by omega) _) (show s + 1 + 1 + 1 + 1 < b by omega) _
 ⟨f h.kr, fun p hp => f (h.ke p hp)⟩
theorem own_four {s b n : Nat} {e : TypeId} {w : World} {v : Value} {xs : List Value} (h : w.ownsRow b e 1 v n xs) (hb : s + 6 ≤ b) (uo us u1 u2 : Value) : ((((w.setCell ⟨s + 1 + 1, 0, none⟩ uo).setCell ⟨s + 1 + 1, 1, none⟩ us).setCell ⟨s + 1 + 1 + 1, 0, none⟩ u1).setCell ⟨s + 1 + 1 + 1 + 1, 0, none⟩ u2).ownsRow b e 1 v n xs :=
 ownsRow_setCell_below (ownsRow_setCell_below (ownsRow_setCell_below (ownsRow_setCell_below h (show s + 1 + 1 < b by omega) _) (show s + 1 + 1 < b by omega) _) (show s + 1 + 1 + 1 < b by omega) _) (show s + 1 + 1 + 1 + 1 < b by omega) _
theorem dec_none {h : List TxnV} {lv : Int} {w : World} (h8 : h.length ≤ 8) (hf : (ordersN h.length).find? (keptL h lv) = none) : DecRes h lv (.tuple #[.agg #[.slice none 0 0, .slice none 0 0], .bool false, .bool true]) w := by
 unfold DecRes; rw [if_pos h8, hf]
theorem dec_many {h : List TxnV} {lv : Int} {w : World} (h8 : ¬ h.length ≤ 8) : DecRes h lv (.tuple #[.agg #[.slice none 0 0, .slice none 0 0], .bool false, .bool false]) w := by
 unfold DecRes; rw [if_neg h8]
theorem dec_some {h : List TxnV} {lv : Int} {w : World} {r : List Nat} {vo vs : Value} {X : Mat} (h8 : h.length ≤ 8) (hf : (ordersN h.length).find? (keptL h lv) = some r) (h1 : LeastIs h (askN lv) (r.map Int.ofNat) X) (h2 : Ints w vo (r.map Int.ofNat)) (h3 : Lists w vs (seesL X (r.map Int.ofNat).length)) :
  DecRes h lv (.tuple #[.agg #[vo, vs], .bool true, .bool true]) w := by
 unfold DecRes; rw [if_pos h8, hf]; exact ⟨vo, vs, X, rfl, h1, h2, h3⟩
theorem DecI.cells {s B : Nat} {lv : Int} {vo vs b1 b2 : Value} {w W W' : World} (q : DecI s B lv vo vs b1 b2 w W) (hb : Below (s + 6) W W') : DecI s B lv vo vs b1 b2 w W' := q.below hb (Nat.le_refl _)
structure DecX (h : List TxnV) (lv : Int) (s B : Nat) (w : World) (pre : List (List Nat)) (W : World) : Prop where
 ex : ∃ p r vo vs X, pre = p ++ [r] ∧ (∀ x ∈ p, keptL h lv x = false) ∧ keptL h lv r = true ∧ DecI s B lv vo vs (.bool true) (.bool true) w W ∧ LeastIs h (askN lv) (r.map Int.ofNat) X ∧ Ints W vo (r.map Int.ofNat) ∧ Lists W vs (seesL X (r.map Int.ofNat).length)
theorem DecX.put {h : List TxnV} {lv : Int} {s B : Nat} {w : World} {pre : List (List Nat)} {W : World} (q : DecX h lv s B w pre W) {k : Nat} {o o' : Obj} (hk : W.heap[k]? = some o') (ho : o'.isCells = false) (hs : s + 6 ≤ k) : DecX h lv s B w pre (W.putObj k o) := by
 obtain ⟨p, r, vo, vs, X, a1, a2, a3, a4, a5, a6, a7⟩ := q.ex
 have hc := put_cells (o := o) hk ho
 have hb : Below (s + 6) W (W.putObj k o) := (Below.refl _ W).grown (grownBy_putObj' W k o) (by have := (Array.getElem?_eq_some_iff.1 hk).1; omega) (fun j e => by cases e; omega)
 exact ⟨p, r, vo, vs, X, a1, a2, a3, a4.cells hb, a5, a6.cells hc, a7.cells hc⟩
theorem bdecide_any (lv : Int) (h : List TxnV) (B b : Nat) (w : World) (hO : OrdIs w B b h) (hc : checkI h = 0) (ht : Tab w) (hK : Kinds w) :
  Calls Tryz.prog 29 #[.pointer (some ⟨B, 0, none⟩), .int .i64 lv] w fun e w' => (∃ v, e = .returned v ∧ DecRes h lv v w') ∧ Below w.heap.size w w' := by
 have h64 := (check_zero hc).1
 have hg := ht.pos
 have n0 := hO.blk.cN
 have HC := hid hc
 have HB : Hid (∀ wx, Below w.heap.size w wx → (OrdIs wx B b h ∧ Tab wx ∧ Kinds wx) ∧ wx.cell? ⟨B, 0, none⟩ = w.cell? ⟨B, 0, none⟩) := hid (fun wx hb => ⟨⟨hO.below hb, ht.below hb hg, hK.below hb⟩, hb.cell (p := ⟨B, 0, none⟩) (block_lt n0)⟩)
 clear hO hc ht hK hg
 have hb5 : Below w.heap.size w (((((w.alloc (.cells #[.pointer (some ⟨B, 0, none⟩)] 31)).alloc (.cells #[.int .i64 lv] 42)).alloc (.cells #[.slice none 0 0, .slice none 0 0] 39)).alloc (.cells #[.bool false] 4)).alloc (.cells #[.bool false] 4)) := (((((Below.refl _ w).alloc (Nat.le_refl _) _).alloc (by simp) _).alloc (by simp; omega) _).alloc (by simp; omega) _).alloc (by simp; omega) _
 have n1 := (HB.out _ hb5).2.trans n0
 have HQ := hid (six_boxes w B lv (h.length : Int) 31 42 39 4 4 3 _ rfl)
 by_cases h8 : h.length ≤ 8
 ·refine (callsIn_wide (n := 3)).1 ?_
  refine callsIn_of_wp_marks Tryz.func29 rfl trivial ?_ rfl
  simp only [Tryz.ntmps29, List.size_toArray, List.length_cons, List.length_nil, Nat.reduceAdd, Nat.reduceSub, Array.replicate_succ, Array.replicate_zero, List.push_toArray, List.append_toArray, List.nil_append, List.cons_append]
  have h8i : ¬ (8 : Int) < (h.length : Int) := by omega
  have hs3 : (((((w.alloc (.cells #[.pointer (some ⟨B, 0, none⟩)] 31)).alloc (.cells #[.int .i64 lv] 42)).alloc (.cells #[.slice none 0 0, .slice none 0 0] 39)).alloc (.cells #[.bool false] 4)).alloc (.cells #[.bool false] 4)).heap.size = w.heap.size + 5 := by simp
  have HM := hid (orders_any (h.length : Int) (((((w.alloc (.cells #[.pointer (some ⟨B, 0, none⟩)] 31)).alloc (.cells #[.int .i64 lv] 42)).alloc (.cells #[.slice none 0 0, .slice none 0 0] 39)).alloc (.cells #[.bool false] 4)).alloc (.cells #[.bool false] 4)))
  rw [hs3] at HM
  clear hb5 hs3
  gi_wp2_with (refine ⟨trivial, ?_⟩; gi_at_call 80; refine ((callsIn_wide (n := _)).2 HM.out).mono ?_; rintro e w' ⟨rfl, rfl⟩)
  clear HM n1
  generalize (((((w.alloc (.cells #[.pointer (some ⟨B, 0, none⟩)] 31)).alloc (.cells #[.int .i64 lv] 42)).alloc (.cells #[.slice none 0 0, .slice none 0 0] 39)).alloc (.cells #[.bool false] 4)).alloc (.cells #[.bool false] 4)).alloc (.cells #[.int .i64 (h.length : Int)] 3) = W4 at *
  obtain ⟨q4, c4, s4⟩ := HQ.out
  have hs : w.heap.size + 6 ≤ W4.heap.size := by omega
  refine range_rows (gf := 127) (lb := #[.pointer (some ⟨w.heap.size + 5, 0, none⟩)]) (L := ordersN h.length) rfl (by omega) rfl trivial (fun args w => by kernel_rfl)
   (orders_seq _ h.length (w.heap.size + 5) W4 (by omega) (by omega) c4) (Below.refl _ _) rfl
   (fun pre W => DecI w.heap.size B lv (.slice none 0 0) (.slice none 0 0) (.bool false) (.bool false) w W ∧ ∀ r ∈ pre, keptL h lv r = false)
   (fun pre W => DecX h lv w.heap.size B w pre W)
   (fun pre A B q hb => ⟨q.1.below hb hs, q.2⟩) (fun pre A r o q hl => q.put hl rfl (by omega)) ⟨q4, fun r hr => by cases hr⟩
   (fun v => { tmps := #[.pointer (some ⟨B, 0, none⟩), .int .i64 lv, .pointer (some ⟨w.heap.size, 0, none⟩), .pointer (some ⟨w.heap.size + 1, 0, none⟩), .pointer (some ⟨w.heap.size + 1 + 1, 0, none⟩), .pointer (some ⟨w.heap.size + 1 + 1 + 1, 0, none⟩), .pointer (some ⟨w.heap.size + 1 + 1 + 1 + 1, 0, none⟩), v, undef, undef, .pointer (some ⟨B, 0, none⟩), .pointer (some ⟨B, 0, none⟩), .pointer (some ⟨B, 0, none⟩), .int .i64 (h.length : Int), .bool false, undef, .pointer (some ⟨B, 0, none⟩), .pointer (some ⟨B, 0, none⟩), .pointer (some ⟨B, 0, none⟩), .int .i64 (h.length : Int), .func (.func 127) #[] #[.pointer (some ⟨w.heap.size + 5, 0, none⟩)], v, undef, undef, undef, undef, undef, undef, undef, undef, undef, undef, undef, undef], defers := [] }) ?assign ?body ?done ?stop
  case assign =>
   intro l v W K hK
   gi_wp2
   exact hK
  case body =>
   intro l pre v r W q hr hpre hsz
   obtain ⟨q, hno⟩ := q
   have hmem := mem_of_prefix hpre
   have q0 := q.c0
   have q1 := q.c1
   have HT : Hid (∀ wx, Below W.heap.size W wx → Tab wx) := hid (fun wx hb => (HB.out wx (q.bel.trans (hb.mono q.bel.size))).1.2.1)
   obtain ⟨⟨hO, ht, hK⟩, _⟩ := HB.out W q.bel
   have CI := hid (bin_kept lv v r h B b W hO HC.out ht hK hr.1 hmem)
   have HQ := hid q
   have HR := hid hr
   have HNO := hid hno
   have hl64 : (r.map Int.ofNat).length ≤ 64 := by
    have := (mem_exts hmem).2.2.1
    rw [List.length_map]; simp at this; omega
   clear q hr hno hpre hO ht hK hmem
   gi_wp2_with fail
   refine ⟨trivial, ?_⟩
   refine (CallsIn.inRound l ((callsIn_wide (n := _)).2 CI.out)).mono ?_
   rintro e w5 ⟨⟨X, hX, rfl⟩, hb5⟩
   have z5 := zero_block w5
   have hb6 : Below W.heap.size W ((w5.alloc (.cells Z64 98)).setRow w5.heap.size (rowsA X)) := below_setRow (below_then hb5 (box_below w5 (.cells Z64 98))) hb5.size (rowsA X)
   have HQ6 := hid (HQ.out.below hb6 (Nat.le_trans hs (by omega)))
   have HK6 : Hid (KeepsHi W4.heap.size W ((w5.alloc (.cells Z64 98)).setRow w5.heap.size (rowsA X))) := hid (KeepsHi.of_below hb6)
   cases hk : keptL h lv r with
   | false =>
    have HKF := hid hk
    clear hb5 hb6 CI hk
    gi_wp2_with (with_reducible refine wpListIn_store_rel z5 X rfl _ _ rfl rfl rfl ?_)
    refine ⟨HK6.out, HQ6.out, fun x hx => ?_⟩
    rcases List.mem_append.1 hx with hx | hx
    ·exact HNO.out x hx
    ·rw [List.mem_singleton.1 hx]; exact HKF.out
   | true =>
    have HX := hid (hX hk)
    have HKT := hid hk
    have r7 : RelAt ((w5.alloc (.cells Z64 98)).setRow w5.heap.size (rowsA X)) w5.heap.size 98 X := z5.setRow X
    have CW := hid (awitness_own v (r.map Int.ofNat) X ((w5.alloc (.cells Z64 98)).setRow w5.heap.size (rowsA X)) (HT.out _ hb6) (HR.out.1.below hb6) hl64)
    have hsz7 : w.heap.size + 6 ≤ (((w5.alloc (.cells Z64 98)).setRow w5.heap.size (rowsA X))).heap.size := Nat.le_trans (by omega) hb6.size
    clear hb5 hb6 CI hk hX
    gi_wp2_with (first
     | (with_reducible refine wpListIn_store_rel z5 X rfl _ _ rfl rfl rfl ?_)
     | (with_reducible refine wpListIn_load_rel r7 rfl _ rfl rfl ?_))
    refine ⟨trivial, ?_⟩
    refine (CallsIn.inRound l ((callsIn_wide (n := _)).2 CW.out)).mono ?_
    rintro e w8 ⟨⟨vo, vs, K, rfl, ho8, hk8, hK8⟩, hb8⟩
    obtain ⟨oo, oc, rfl⟩ := owns_form ho8
    obtain ⟨so, sc, rfl⟩ := owns_form hk8.kr
    have q8 := HQ6.out.below hb8 hsz7
    have HP := hid (q8.put (.slice oo (r.map Int.ofNat).length oc) (.slice so K.length sc) (.bool true) (.bool true))
    have HK8 : Hid (KeepsHi W4.heap.size W w8) := hid (HK6.out.trans (KeepsHi.of_below hb8))
    have HKK := hid (keeps_four (s := w.heap.size) (D := W4.heap.size) w8 (.slice oo (r.map Int.ofNat).length oc) (.slice so K.length sc) (.bool true) (.bool true) hs)
    have HO8 := hid (own_four ho8 hsz7 (.slice oo (r.map Int.ofNat).length oc) (.slice so K.length sc) (.bool true) (.bool true))
    have HL8 := hid (hk8.four hsz7 (.slice oo (r.map Int.ofNat).length oc) (.slice so K.length sc) (.bool true) (.bool true))
    have c2 := q8.c2
    have d2 := q8.d2
    have c3 := q8.c3
    have c4 := q8.c4
    have f2 := q8.f2
    have g2 := q8.g2
    have f3 := q8.f3
    have f4 := q8.f4
    have HKM := hid hK8
    clear q8 ho8 hk8 hK8 hb8 z5 r7
    rw [List.length_map] at HP HKK HO8 HL8
    gi_wp2
    exact ⟨HK8.out.trans HKK.out, ⟨⟨pre, r, _, _, X, rfl, HNO.out, HKT.out, HP.out, HX.out, Ints.of_owns HO8.out, by rw [← HKM.out]; exact HL8.out.lists⟩⟩⟩
  case done =>
   intro W q hK
   obtain ⟨q, hno⟩ := q
   have HD := hid (fun w => dec_none (w := w) h8 (find_none hno))
   have hDW := (Array.getElem?_eq_some_iff.1 hK).1
   have HKK := hid (keeps_four (s := w.heap.size) (D := W4.heap.size) W (.slice none 0 0) (.slice none 0 0) (.bool false) (.bool true) hs)
   have HP := hid (q.put (.slice none 0 0) (.slice none 0 0) (.bool false) (.bool true))
   have c2 := q.c2
   have d2 := q.d2
   have c3 := q.c3
   have c4 := q.c4
   have f2 := q.f2
   have g2 := q.g2
   have f3 := q.f3
   have f4 := q.f4
   clear q hno
   gi_wp2
   have hK4 := (HKK.out.same W4.heap.size (Nat.le_refl _) hDW).trans hK
   have HP2 := HP.out.below (D := W4.heap.size) ((Below.refl _ _).grown (grownBy_putObj' _ W4.heap.size (.deferred none)) (by have := HKK.out.size; omega) (fun j e => by cases e; exact Nat.le_refl _)) hs
   refine ⟨by simp, .inl ⟨_, _, rfl, run_takeDeferred hK4, ?_⟩⟩
   exact ⟨_, results_dec rfl _ _ _ _ _ _ _ _ _ rfl rfl rfl HP2.c2 HP2.d2 HP2.c3 HP2.c4, ⟨_, rfl, HD.out _⟩, HP2.bel⟩
  case stop =>
   intro pre W hpre q hK
   obtain ⟨p, r, vo, vs, X, rfl, a2, a3, a4, a5, a6, a7⟩ := (q.put (o := .deferred none) hK rfl hs).ex
   gi_wp2
   refine ⟨by simp, .inl ⟨_, _, rfl, run_takeDeferred hK, ?_⟩⟩
   exact ⟨_, results_dec rfl _ _ _ _ _ _ _ _ _ rfl rfl rfl a4.c2 a4.d2 a4.c3 a4.c4, ⟨_, rfl, dec_some h8 (find_first hpre a2 a3) a5 a6 a7⟩, a4.bel⟩
 ·have h8i : (8 : Int) < (h.length : Int) := by omega
  have HD := hid (fun w => dec_many (h := h) (lv := lv) (w := w) h8)
  clear h8
  go_enter Tryz.func29, Tryz.ntmps29
  obtain ⟨q6, _, _⟩ := HQ.out
  have b56 := box_below (((((w.alloc (.cells #[.pointer (some ⟨B, 0, none⟩)] 31)).alloc (.cells #[.int .i64 lv] 42)).alloc (.cells #[.slice none 0 0, .slice none 0 0] 39)).alloc (.cells #[.bool false] 4)).alloc (.cells #[.bool false] 4)) (.cells #[.int .i64 (h.length : Int)] 3)
  have hs5 : (((((w.alloc (.cells #[.pointer (some ⟨B, 0, none⟩)] 31)).alloc (.cells #[.int .i64 lv] 42)).alloc (.cells #[.slice none 0 0, .slice none 0 0] 39)).alloc (.cells #[.bool false] 4)).alloc (.cells #[.bool false] 4)).heap.size = w.heap.size + 5 := by simp
  have c2 := (b56.cell (p := ⟨w.heap.size + 1 + 1, 0, none⟩) (by rw [hs5]; show w.heap.size + 1 + 1 < _; omega)).symm.trans q6.c2
  have d2 := (b56.cell (p := ⟨w.heap.size + 1 + 1, 1, none⟩) (by rw [hs5]; show w.heap.size + 1 + 1 < _; omega)).symm.trans q6.d2
  have c3 := (b56.cell (p := ⟨w.heap.size + 1 + 1 + 1, 0, none⟩) (by rw [hs5]; show w.heap.size + 1 + 1 + 1 < _; omega)).symm.trans q6.c3
  have c4 := (b56.cell (p := ⟨w.heap.size + 1 + 1 + 1 + 1, 0, none⟩) (by rw [hs5]; show w.heap.size + 1 + 1 + 1 + 1 < _; omega)).symm.trans q6.c4
  have H2 := hid c2
  have H3 := hid d2
  have H4 := hid c3
  have H5 := hid c4
  clear c2 d2 c3 c4 q6 b56 hs5
  go_wp2_with fail
  exact bodyPost_ret (results_dec rfl _ _ _ _ _ _ _ _ _ rfl rfl rfl H2.out H3.out H4.out H5.out) rfl ⟨⟨_, rfl, HD.out _⟩, hb5⟩
end

section
open Go.RowKit
theorem txns_none (w : World) : Txns w (.slice none 0 0) [] := ⟨⟨rfl, none, 0, rfl, ⟨Nat.le_refl _, Nat.zero_le _⟩, fun _ => ⟨rfl, rfl⟩, fun h => absurd h (by simp)⟩, fun t ht => by cases ht⟩
end

section
open Go.RowKit
theorem step_append_run {P : Program} (w : World) {ops : Array Oper} {o : Oper} {a : Act} {K : Act → World → Prop} {Q : Exit → Act → World → Prop} {E : Prop} (hgd : o.guard = none) (s x : Operand) (t : TypeId)
  (ho : o.op = .call { callee := .builtin .append, args := #[s, x], argTypes := #[t, t] }) {vs vx v' : Value} {w' : World} (hs : a.eval s = vs) (hx : a.eval x = vx)
  (hrun : Sem.run P (Builtin.append_ #[t, t] o.type #[vs, vx]) w = .ok v' w') (h : K (a.put o.dst v') w') :
  if Region.wanted o (yielded ops a.tmps) = true then Oper.wp P o a w K Q else E := by
 have hw : Region.wanted o (yielded ops a.tmps) = true := by simp [Region.wanted, hgd]
 rw [if_pos hw]
 unfold Oper.wp execOp
 simp only [ho, resolve, invoke, builtin, Sem.run_bind, Sem.run_pure, Result.andThen_ok, List.map_toArray, List.map_cons, List.map_nil, hs, hx, hrun]
 exact h
theorem run_copy {w : World} {base : Nat} (ty : TypeId) {g : Nat} (hown : w.ownsRow base 3 1 (.slice (some ⟨g, 0, none⟩) 0 0) 0 []) {ao : Option Addr} {c : Nat} {r : List Nat} (hr : Ints w (.slice ao r.length c) (r.map Int.ofNat)) (hl : r.length ≤ 1000) (hbase : base ≤ w.heap.size) :
  ∃ a1 c1 w1, Sem.run Tryz.prog (Builtin.append_ #[36, 36] ty #[.slice (some ⟨g, 0, none⟩) 0 0, .slice ao r.length c]) w = .ok (.slice a1 r.length c1) w1
   ∧ w1.ownsRow base 3 1 (.slice a1 r.length c1) r.length (r.map fun i : Nat => .int .i64 (i : Int)) ∧ w.grownBy w1 (some g) := by
 obtain ⟨i0, hi0, hz0, hz1, hz2⟩ := info_parts infoIntC
 cases ao with
 | none =>
  obtain ⟨_, ao', cap', e, hm, hno, _⟩ := hr
  rw [List.length_map] at hno hm
  obtain ⟨e1, e2⟩ : none = ao' ∧ c = cap' := by simpa using e
  subst e1; subst e2
  obtain ⟨h0, hc0⟩ := hno rfl
  have hr0 : r = [] := List.eq_nil_of_length_eq_zero h0
  subst hr0
  subst hc0
  exact ⟨_, _, w, run_append_nothing (P := Tryz.prog) w 36 36 ty 3 i0 rfl hi0 _ 0 0 (Nat.le_refl _) _ (Src.ofNil w rfl 0), hown, ⟨rfl, rfl, rfl, Nat.le_refl _, fun _ _ _ => rfl⟩⟩
 | some ad =>
  have hnews : ∀ i u, (r.map fun i : Nat => Value.int .i64 (i : Int))[i]? = some u → w.cell? (ad.add i) = some u := fun i u hu => by
   have hi : i < r.length := by
    have := (List.getElem?_eq_some_iff.1 hu).1
    simpa using this
   obtain ⟨_, ao', cap', e, _, _, hc⟩ := hr
   rw [List.length_map] at e hc
   obtain ⟨b, off, e2, hcell⟩ := hc (by omega)
   obtain ⟨e3, _⟩ : some ad = ao' ∧ c = cap' := by simpa using e
   rw [e2] at e3
   obtain rfl : ad = ⟨b, off, none⟩ := by injection e3
   rw [Addr.add_lit, hcell i (by omega), ← hu, List.map_map]; rfl
  have hone : ∀ u ∈ (r.map fun i : Nat => Value.int .i64 (i : Int)), u.oneCell' = true := fun u hu => by
   obtain ⟨x, _, rfl⟩ := List.mem_map.1 hu
   rfl
  obtain ⟨v1, w1, q1, q2, q3, _⟩ := run_append_own (P := Tryz.prog) w base 36 ty 3 i0 (.int .i64 0) 1 8 Tryz.underlying36 hi0 hz0 hz1 hz2 rfl (by decide) (.slice (some ⟨g, 0, none⟩) 0 0) 0 [] hown ad r.length c _ (by simp) hnews hone (by unfold maxLen; omega) (by omega) hbase
  rw [Nat.zero_add, List.nil_append] at q2
  obtain ⟨a1, c1, rfl⟩ := owns_form q2
  exact ⟨a1, c1, w1, q1, q2, q3⟩
theorem run_more {w : World} {base : Nat} (ty : TypeId) {v : Value} {r : List Nat} (hown : w.ownsRow base 3 1 v r.length (r.map fun i : Nat => .int .i64 (i : Int))) {ad : Addr} {x : Nat} (hx : Ints w (.slice (some ad) 1 1) [(x : Int)]) (hl : r.length ≤ 1000) (hbase : base ≤ w.heap.size) :
  ∃ a2 c2 w2, Sem.run Tryz.prog (Builtin.append_ #[36, 36] ty #[v, .slice (some ad) 1 1]) w = .ok (.slice a2 (r.length + 1) c2) w2
   ∧ Ints w2 (.slice a2 (r.length + 1) c2) ((r ++ [x]).map Int.ofNat) ∧ w.grownBy w2 v.ownBlock := by
 obtain ⟨i0, hi0, hz0, hz1, hz2⟩ := info_parts infoIntC
 obtain ⟨v2, w2, p1, p2, p3, _⟩ := run_append_own (P := Tryz.prog) w base 36 ty 3 i0 (.int .i64 0) 1 8 Tryz.underlying36 hi0 hz0 hz1 hz2 rfl (by decide) v r.length _ hown ad 1 1 [.int .i64 (x : Int)] rfl (by
   intro j u hu
   cases j with
   | zero =>
    simp at hu; subst hu
    obtain ⟨_, ao', cap', e, _, _, hc⟩ := hx
    obtain ⟨b, off, e2, hcell⟩ := hc (by simp)
    obtain ⟨e3, _⟩ : some ad = ao' ∧ 1 = cap' := by simpa using e
    rw [e2] at e3
    obtain rfl : ad = ⟨b, off, none⟩ := by injection e3
    rw [Addr.add_lit]
    exact hcell 0 (by simp)
   | succ j => simp at hu) (by intro u hu; simp at hu; subst hu; rfl) (by unfold maxLen; omega) (by omega) hbase
 obtain ⟨a2, c2, rfl⟩ := owns_form p2
 exact ⟨a2, c2, w2, p1, Ints.of_nats (base := base) (e := 3) (n := r.length + 1) (by rw [List.map_append]; exact p2), p3⟩
theorem ints_one (w : World) (x : Nat) : Ints (w.alloc (.cells #[.int .i64 (x : Int)] 3)) (.slice (some ⟨w.heap.size, 0, none⟩) 1 1) [(x : Int)] :=
 Ints.of_nats (l := [x]) (base := 0) (e := 3) (n := 1) (World.ownsRow_lit (size := 1) _ _ _ (Nat.zero_le _) (by decide) (by rfl))
end

section
open Go.RowKit
theorem filter_without {L : List Nat} (hnd : L.Nodup) {i : Nat} (hi : i < L.length) : L.filter (· != L[i]) = L.take i ++ L.drop (i + 1) := by
 have e : L = L.take i ++ L[i] :: L.drop (i + 1) := by rw [← List.drop_eq_getElem_cons hi, List.take_append_drop]
 have key : ∀ (A : List Nat) (x : Nat) (B : List Nat), (A ++ x :: B).Nodup → (A ++ x :: B).filter (· != x) = A ++ B := fun A x B h => by
  obtain ⟨_, h2, h3⟩ := List.nodup_append.1 h
  obtain ⟨h4, _⟩ := List.nodup_cons.1 h2
  rw [List.filter_append, List.filter_cons, if_neg (by simp), List.filter_eq_self.2 (fun a ha => by simpa using h3 a ha x (List.mem_cons_self ..)), List.filter_eq_self.2 (fun a ha => by
   rw [bne_iff_ne]; rintro rfl; exact h4 ha)]
 have := key (L.take i) L[i] (L.drop (i + 1)) (by rw [← e]; exact hnd)
 rw [← e] at this; exact this
def cnlTo (p : List Nat → Bool) (k : Nat) (r left : List Nat) (j : Nat) : Nat := ((left.take j).map fun x => cntL p k (r ++ [x]) (left.filter (· != x))).sum
theorem cnlTo_succ {p : List Nat → Bool} {k : Nat} {r left : List Nat} {j : Nat} (hj : j < left.length) (hnd : left.Nodup) : cnlTo p k r left (j + 1) = cnlTo p k r left j + cntL p k (r ++ [left[j]]) (left.take j ++ left.drop (j + 1)) := by
 unfold cnlTo
 rw [List.take_succ_eq_append_getElem hj, List.map_append, List.sum_append, ← filter_without hnd hj]; simp
theorem cnlTo_all (p : List Nat → Bool) (k : Nat) (r left : List Nat) : cnlTo p k r left left.length = cntL p (k + 1) r left := by unfold cnlTo; rw [List.take_length]; rfl
end

section
open Go.RowKit
theorem cnt_one {p : List Nat → Bool} {k : Nat} {r left : List Nat} {j : Nat} : cnlTo p k r left j ≤ cntL p (k + 1) r left := by
 rw [← cnlTo_all]
 unfold cnlTo
 have key : ∀ (l : List Nat) (i : Nat), ((l.take i).map fun x => cntL p k (r ++ [x]) (left.filter (· != x))).sum ≤ (l.map fun x => cntL p k (r ++ [x]) (left.filter (· != x))).sum := by
  intro l i
  conv => rhs; rw [← List.take_append_drop i l, List.map_append, List.sum_append]
  exact Nat.le_add_right _ _
 have := key left j
 rw [List.take_length]; exact this
def one1 (n : Nat) : Nat := if 0 < n then 1 else 0
theorem one_zero {n : Nat} (h : 0 = one1 n) : n = 0 := by unfold one1 at h; split at h <;> omega
theorem one_pos {n : Nat} (h : 1 = one1 n) : 0 < n := by unfold one1 at h; split at h <;> omega
theorem one_le (n : Nat) : one1 n ≤ 1 := by unfold one1; split <;> omega
theorem one_big {n m : Nat} (h : 1 = one1 n) (hl : n ≤ m) : 1 = one1 m := by have := one_pos h; unfold one1; rw [if_pos (by omega)]
set_option linter.unusedSimpArgs false in
theorem rcount1_any (va : Value) (h : List TxnV) (lv : Int) (hc : checkI h = 0) (hn : h.length ≤ 6) :
  ∀ (k : Nat) (vr vl : Value) (r left : List Nat) (w : World), left.length = k → (r ++ left).Perm (List.range h.length) → Txns w va h → Ints w vr (r.map Int.ofNat) → Ints w vl (left.map Int.ofNat) →
   Calls Tryz.prog 78 #[va, .int .i64 lv, vr, vl, .bool true] w fun e w' => e = .returned (.int .i64 ((one1 (cntL (keptL h lv) k r left) : Nat) : Int)) ∧ Below w.heap.size w w'
 | 0, vr, vl, r, left, w, hk, hp, hT, hR, hL => by
  obtain rfl : left = [] := List.eq_nil_of_length_eq_zero hk
  rw [List.append_nil] at hp
  have CI := hid (rin13_any va vr h lv r w hc hp hT hR)
  have HV : Hid ((if keptL h lv r then 1 else 0) = one1 (cntL (keptL h lv) 0 r [])) := hid (by unfold cntL; split <;> rfl)
  obtain ⟨ho, hcap, rfl, _⟩ := hT.form
  obtain ⟨ao, cap, rfl, _⟩ := hR.form
  obtain ⟨lo, lcap, rfl, _⟩ := hL.form
  simp only [List.length_map] at CI
  rw [List.length_map, List.map_nil, List.length_nil]
  generalize one1 (cntL (keptL h lv) 0 r []) = cn at *
  clear hT hR hL hp hk
  cases hkk : keptL h lv r with
  | true =>
   rw [hkk] at CI HV
   have HV2 : Hid ((1 : Int) = (cn : Int)) := hid (by have := HV.out; simp at this; omega)
   clear HV hkk
   go_enter Tryz.func78, Tryz.ntmps78
   go_wp2_with fail
   refine (CI.out).mono ?_
   rintro e w1 ⟨⟨v1, rfl, _⟩, h1⟩
   go_wp2_with fail
   go_ret
   exact ⟨ret_i HV2.out, h1⟩
  | false =>
   rw [hkk] at CI HV
   have HV2 : Hid ((0 : Int) = (cn : Int)) := hid (by have := HV.out; simp at this; omega)
   clear HV hkk
   go_enter Tryz.func78, Tryz.ntmps78
   go_wp2_with fail
   refine (CI.out).mono ?_
   rintro e w1 ⟨⟨v1, rfl, _⟩, h1⟩
   go_wp2_with fail
   go_ret
   exact ⟨ret_i HV2.out, h1⟩
 | k + 1, vr, vl, r, left, w, hk, hp, hT, hR, hL => by
  have IH := hid (fun vr vl r left w a b c d e => rcount1_any va h lv hc hn k vr vl r left w a b c d e)
  have hll : r.length + left.length = h.length := by have := hp.length_eq; simpa using this
  have hndA : (r ++ left).Nodup := (List.Perm.nodup_iff hp).2 List.nodup_range
  have HND : Hid left.Nodup := hid (List.nodup_append.1 hndA).2.1
  have HP := hid hp
  have HKK := hid hk
  have HT := hid (fun wx (hx : Below w.heap.size w wx) => hT.below hx)
  have HR := hid (fun wx (hx : Below w.heap.size w wx) => hR.below hx)
  have HL := hid (fun wx (hx : Below w.heap.size w wx) => hL.below hx)
  obtain ⟨ho, hcap, rfl, _⟩ := hT.form
  obtain ⟨ao, cap, rfl, _⟩ := hR.form
  obtain ⟨lo, lcap, rfl, _⟩ := hL.form
  simp only [List.length_map] at HR HL
  rw [List.length_map, List.length_map]
  have hl5 : left.length ≤ 6 := by omega
  have HLE : Hid (r.length ≤ 1000) := hid (by omega)
  have hq0 : ((left.length : Int) == 0) = false := by rw [beq_eq_false_iff_ne]; omega
  have hb0 := hid (Below.refl w.heap.size w)
  clear hk hp hT hR hL hndA hll
  go_enter Tryz.func78, Tryz.ntmps78
  go_wp2_with fail
  go_loopw [13, 14] (fun nv iv wr => ∃ i m : Nat, i ≤ left.length ∧ m ≤ 1 ∧ iv = .int .i64 (i : Int) ∧ nv = .int .i64 (m : Int) ∧ Hid (m = one1 (cnlTo (keptL h lv) k r left i)) ∧ Hid (Below w.heap.size w wr)) (fun _ iv _ => left.length - (intOf iv).toNat)
  case atStart => exact ⟨0, 0, by omega, by omega, rfl, rfl, hid rfl, hb0⟩
  case round =>
   clear hb0
   obtain ⟨i, m, hi, hm, rfl, rfl, HM, HB⟩ := hrel
   obtain rfl | rfl : m = 0 ∨ m = 1 := by omega
   rotate_left
   ·have HV : Hid ((1 : Int) = ((one1 (cntL (keptL h lv) (k + 1) r left) : Nat) : Int)) := hid (by rw [← one_big HM.out cnt_one]; rfl)
    by_cases hlt : i < left.length
    ·have hlti : (i : Int) < (left.length : Int) := by omega
     go_wp2_with fail
     go_ret
     exact ⟨ret_i HV.out, HB.out⟩
    ·have hlti : ¬ (i : Int) < (left.length : Int) := by omega
     go_wp2_with fail
     go_ret
     exact ⟨ret_i HV.out, HB.out⟩
   by_cases hlt : i < left.length
   ·have hlti : (i : Int) < (left.length : Int) := by omega
    obtain ⟨g, o, hgo, _⟩ := ints_at (HL.out _ HB.out) hlt
    cases hgo
    have HCl := hid (fun wx (hx : Below wr.heap.size wr wx) => by
     obtain ⟨g2, o2, e2, c2⟩ := ints_at (HL.out _ (below_then HB.out hx)) hlt
     cases e2
     exact c2)
    have HRr := hid (fun wx (hx : Below wr.heap.size wr wx) => HR.out _ (below_then HB.out hx))
    have CW := hid (fun wx (hx : Below wr.heap.size wr wx) => rwithout_any _ left i wx (HL.out _ (below_then HB.out hx)) hlt (by omega))
    have IHC := hid (fun v2 vl2 wx (hx : Below wr.heap.size wr wx) (h1 : Ints wx v2 ((r ++ [left[i]'hlt]).map Int.ofNat)) (h2 : Ints wx vl2 ((left.take i ++ left.drop (i + 1)).map Int.ofNat)) => IH.out v2 vl2 (r ++ [left[i]]) (left.take i ++ left.drop (i + 1)) wx (by have := HKK.out; simp; omega) ((perm_take r left i hlt).trans HP.out) (HT.out _ (below_then HB.out hx)) h1 h2)
    have HMS := hid (cnlTo_succ (p := keptL h lv) (k := k) (r := r) hlt HND.out)
    rw [one_zero HM.out, Nat.zero_add] at HMS
    have HMS := hid (congrArg one1 HMS.out)
    generalize left[i] = x at *
    have hms := one_le (cntL (keptL h lv) k (r ++ [x]) (left.take i ++ left.drop (i + 1)))
    generalize one1 (cntL (keptL h lv) k (r ++ [x]) (left.take i ++ left.drop (i + 1))) = cn at *
    have hwr2 : IntKind.i64.wrap (cn : Int) = (cn : Int) := by rw [IntKind.wrap_i64]; omega
    have hwr : IntKind.i64.wrap ((0 : Int) + (cn : Int)) = (cn : Int) := by rw [IntKind.wrap_i64]; omega
    have kd := (Below.refl wr.heap.size wr).drew
    have HB2 := hid (fun wx (hx : Below wr.heap.size wr wx) => below_then HB.out hx)
    clear HM HB
    go_upto_region 10 with fail
    refine wp_region_held_drew (S := Below wr.heap.size wr) (by kernel_rfl) kd (fun hS0 => ?_)
    generalize wr.drew = wd at *
    refine tA (some 40) 0 rfl rfl hS0 ?_
    try simp only [Act.put, zA, zB, zC]
    refine tA (some 41) 1 rfl rfl hS0 ?_
    try simp only [Act.put, zA, zB, zC]
    refine tA (some 42) 2 rfl rfl hS0 ?_
    try simp only [Act.put, zA, zB, zC]
    refine tA (some 44) 4 rfl rfl hS0 ?_
    try simp only [Act.put, zA, zB, zC]
    refine tA (some 46) 6 rfl rfl hS0 ?_
    try simp only [Act.put, zA, zB, zC]
    refine tA (some 47) 7 rfl rfl hS0 ?_
    try simp only [Act.put, zA, zB, zC]
    refine tA (some 48) 8 rfl rfl hS0 ?_
    try simp only [Act.put, zA, zB, zC]
    refine tG (some 49) 9 ?vca9x8 rfl rfl (Or.inl ⟨by rfl, ?hca9x8⟩) hS0 ?rca9x8
    case hca9x8 => (intro wx hw; have q9 := HCl.out wx hw; go_simp; try (with_reducible rfl))
    try simp only [Act.put, zA, zB, zC]
    refine tA (some 52) 12 rfl rfl hS0 ?_
    try simp only [Act.put, zA, zB, zC]
    refine tA (some 53) 13 rfl rfl hS0 ?_
    try simp only [Act.put, zA, zB, zC]
    refine tA (some 55) 15 rfl rfl hS0 ?_
    try simp only [Act.put, zA, zB, zC]
    refine wpAnyH_ready (rs := [3, 10]) (by kernel_rfl) (by simp) ?_
    refine AllReadyH.cons rfl (fun K hK => ?_) (AllReadyH.cons rfl (fun K hK => ?_) AllReadyH.nil)
    ·
     go_simp
     have k12 := below_then kd (box_below wd (.cells #[] 3))
     have o12 : (wd.alloc (.cells #[] 3)).ownsRow wr.heap.size 3 1 (.slice (some ⟨wd.heap.size, 0, none⟩) 0 0) 0 [] := World.ownsRow_lit (size := 1) _ _ _ kd.size (by simp) (by simp)
     refine hK.out _ _ k12 (fun _ => ?_)
     clear hK K
     refine wpAnyH_ready (rs := [5, 10]) (by kernel_rfl) (by simp) ?_
     refine AllReadyH.cons rfl (fun K hK => ?_) (AllReadyH.cons rfl (fun K hK => ?_) AllReadyH.nil)
     ·
      obtain ⟨a13, d13, w13, q13, o13, g13⟩ := run_copy 36 o12 (HRr.out _ k12) HLE.out k12.size
      have HQ13 := hid q13
      have k13 := k12.grown g13 k12.size (fun j hj => by cases hj; exact kd.size)
      refine step_append_run _ rfl (.tmp 43) (.tmp 44) 36 rfl (by simp [Act.eval]) (by simp [Act.eval]) HQ13.out ?_
      refine hK.out _ _ k13 (fun _ => ?_)
      clear hK K q13 HQ13
      try simp only [Act.put, zA, zB, zC]
      refine rD 10 rfl (fun K hK => ?_)
      go_simp
      have k14 := below_then k13 (box_below w13 (.cells #[.int .i64 (x : Int)] 3))
      have c14 := ints_one w13 x
      have o14 := o13.alloc (.cells #[.int .i64 (x : Int)] 3)
      refine hK.out _ _ k14 (fun _ => ?_)
      clear hK K
      refine rD 11 rfl (fun K hK => ?_)
      obtain ⟨a15, d15, w15, q15, i15, g15⟩ := run_more 36 o14 c14 HLE.out k14.size
      have HQ15 := hid q15
      have k15 := k14.grown g15 k14.size (fun j hj => (o14.lt j hj).1)
      refine step_append_run _ rfl (.tmp 45) (.tmp 50) 36 rfl (by simp [Act.eval]) (by simp [Act.eval]) HQ15.out ?_
      refine hK.out _ _ k15 (fun _ => ?_)
      clear hK K q15 HQ15 g15
      try simp only [Act.put, zA, zB, zC]
      refine rD 14 rfl (fun K hK => ?_)
      go_simp
      refine (CW.out _ k15).mono ?_
      rintro e y16 ⟨⟨v16, rfl, m16⟩, j16⟩
      show K _ _
      have s16 := below_then k15 j16
      have i16 := i15.below j16
      refine hK.out _ _ s16 (fun _ => ?_)
      clear hK K
      refine rD 16 rfl (fun K hK => ?_)
      go_simp
      refine (IHC.out _ _ _ s16 i16 m16).mono ?_
      rintro e y17 ⟨rfl, j17⟩
      show K _ _
      have s17 := below_then s16 j17
      refine hK.out _ _ s17 (fun _ => ?_)
      clear hK K
      refine tA (some 57) 17 rfl rfl s17 ?_
      try simp only [Act.put, zA, zB, zC]
      refine tA (some 13) 18 rfl rfl s17 ?_
      try simp only [Act.put, zA, zB, zC]
      refine wpAnyH_done (by kernel_rfl) ?_ _
      have HB3 := hid (HB2.out _ s17)
      go_wp2_with fail
      go_roundw
      case rel => exact ⟨i + 1, cn, by omega, by omega, by go_num, by first | rfl | rw [hwr] | rw [hwr2] | go_num, hid HMS.out.symm, HB3⟩
      case measure => simp only [intOf]; omega
     ·
      go_simp
      have k20 := below_then k12 (box_below (wd.alloc (.cells #[] 3)) (.cells #[.int .i64 (x : Int)] 3))
      have c20 := ints_one (wd.alloc (.cells #[] 3)) x
      have o20 := o12.alloc (.cells #[.int .i64 (x : Int)] 3)
      refine hK.out _ _ k20 (fun _ => ?_)
      clear hK K
      refine rD 5 rfl (fun K hK => ?_)
      obtain ⟨a21, d21, w21, q21, o21, g21⟩ := run_copy 36 o20 (HRr.out _ k20) HLE.out k20.size
      have HQ21 := hid q21
      have k21 := k20.grown g21 k20.size (fun j hj => by cases hj; exact kd.size)
      have c21 := c20.grown g21 (fun b hb => by cases hb; simp [Value.ownBlock])
      refine step_append_run _ rfl (.tmp 43) (.tmp 44) 36 rfl (by simp [Act.eval]) (by simp [Act.eval]) HQ21.out ?_
      refine hK.out _ _ k21 (fun _ => ?_)
      clear hK K q21 HQ21
      try simp only [Act.put, zA, zB, zC]
      refine rD 11 rfl (fun K hK => ?_)
      obtain ⟨a22, d22, w22, q22, i22, g22⟩ := run_more 36 o21 c21 HLE.out k21.size
      have HQ22 := hid q22
      have k22 := k21.grown g22 k21.size (fun j hj => (o21.lt j hj).1)
      refine step_append_run _ rfl (.tmp 45) (.tmp 50) 36 rfl (by simp [Act.eval]) (by simp [Act.eval]) HQ22.out ?_
      refine hK.out _ _ k22 (fun _ => ?_)
      clear hK K q22 HQ22 g22
      try simp only [Act.put, zA, zB, zC]
      refine rD 14 rfl (fun K hK => ?_)
      go_simp
      refine (CW.out _ k22).mono ?_
      rintro e y23 ⟨⟨v23, rfl, m23⟩, j23⟩
      show K _ _
      have s23 := below_then k22 j23
      have i23 := i22.below j23
      refine hK.out _ _ s23 (fun _ => ?_)
      clear hK K
      refine rD 16 rfl (fun K hK => ?_)
      go_simp
      refine (IHC.out _ _ _ s23 i23 m23).mono ?_
      rintro e y24 ⟨rfl, j24⟩
      show K _ _
      have s24 := below_then s23 j24
      refine hK.out _ _ s24 (fun _ => ?_)
      clear hK K
      refine tA (some 57) 17 rfl rfl s24 ?_
      try simp only [Act.put, zA, zB, zC]
      refine tA (some 13) 18 rfl rfl s24 ?_
      try simp only [Act.put, zA, zB, zC]
      refine wpAnyH_done (by kernel_rfl) ?_ _
      have HB3 := hid (HB2.out _ s24)
      go_wp2_with fail
      go_roundw
      case rel => exact ⟨i + 1, cn, by omega, by omega, by go_num, by first | rfl | rw [hwr] | rw [hwr2] | go_num, hid HMS.out.symm, HB3⟩
      case measure => simp only [intOf]; omega
    ·
     go_simp
     have k27 := below_then kd (box_below wd (.cells #[.int .i64 (x : Int)] 3))
     have c27 := ints_one wd x
     refine hK.out _ _ k27 (fun _ => ?_)
     clear hK K
     refine rD 3 rfl (fun K hK => ?_)
     go_simp
     have k28 := below_then k27 (box_below (wd.alloc (.cells #[.int .i64 (x : Int)] 3)) (.cells #[] 3))
     have o28 : ((wd.alloc (.cells #[.int .i64 (x : Int)] 3)).alloc (.cells #[] 3)).ownsRow wr.heap.size 3 1 (.slice (some ⟨(wd.alloc (.cells #[.int .i64 (x : Int)] 3)).heap.size, 0, none⟩) 0 0) 0 [] := World.ownsRow_lit (size := 1) _ _ _ k27.size (by simp) (by simp)
     have c28 := c27.below (box_below (wd.alloc (.cells #[.int .i64 (x : Int)] 3)) (.cells #[] 3))
     refine hK.out _ _ k28 (fun _ => ?_)
     clear hK K
     refine rD 5 rfl (fun K hK => ?_)
     obtain ⟨a29, d29, w29, q29, o29, g29⟩ := run_copy 36 o28 (HRr.out _ k28) HLE.out k28.size
     have HQ29 := hid q29
     have k29 := k28.grown g29 k28.size (fun j hj => by cases hj; exact k27.size)
     have c29 := c28.grown g29 (fun b hb => by cases hb; simp [Value.ownBlock])
     refine step_append_run _ rfl (.tmp 43) (.tmp 44) 36 rfl (by simp [Act.eval]) (by simp [Act.eval]) HQ29.out ?_
     refine hK.out _ _ k29 (fun _ => ?_)
     clear hK K q29 HQ29
     try simp only [Act.put, zA, zB, zC]
     refine rD 11 rfl (fun K hK => ?_)
     obtain ⟨a30, d30, w30, q30, i30, g30⟩ := run_more 36 o29 c29 HLE.out k29.size
     have HQ30 := hid q30
     have k30 := k29.grown g30 k29.size (fun j hj => (o29.lt j hj).1)
     refine step_append_run _ rfl (.tmp 45) (.tmp 50) 36 rfl (by simp [Act.eval]) (by simp [Act.eval]) HQ30.out ?_
     refine hK.out _ _ k30 (fun _ => ?_)
     clear hK K q30 HQ30 g30
     try simp only [Act.put, zA, zB, zC]
     refine rD 14 rfl (fun K hK => ?_)
     go_simp
     refine (CW.out _ k30).mono ?_
     rintro e y31 ⟨⟨v31, rfl, m31⟩, j31⟩
     show K _ _
     have s31 := below_then k30 j31
     have i31 := i30.below j31
     refine hK.out _ _ s31 (fun _ => ?_)
     clear hK K
     refine rD 16 rfl (fun K hK => ?_)
     go_simp
     refine (IHC.out _ _ _ s31 i31 m31).mono ?_
     rintro e y32 ⟨rfl, j32⟩
     show K _ _
     have s32 := below_then s31 j32
     refine hK.out _ _ s32 (fun _ => ?_)
     clear hK K
     refine tA (some 57) 17 rfl rfl s32 ?_
     try simp only [Act.put, zA, zB, zC]
     refine tA (some 13) 18 rfl rfl s32 ?_
     try simp only [Act.put, zA, zB, zC]
     refine wpAnyH_done (by kernel_rfl) ?_ _
     have HB3 := hid (HB2.out _ s32)
     go_wp2_with fail
     go_roundw
     case rel => exact ⟨i + 1, cn, by omega, by omega, by go_num, by first | rfl | rw [hwr] | rw [hwr2] | go_num, hid HMS.out.symm, HB3⟩
     case measure => simp only [intOf]; omega
   ·obtain rfl : i = left.length := by omega
    have HV : Hid ((0 : Int) = ((one1 (cntL (keptL h lv) (k + 1) r left) : Nat) : Int)) := hid (by rw [← cnlTo_all, ← HM.out]; rfl)
    go_wp2_with fail
    go_ret
    exact ⟨ret_i HV.out, HB.out⟩
end

section
open Go.RowKit
theorem insP_nodup {i : Int} : ∀ (l : List Int) {o : List Pr}, o.Nodup → (insP o i l).Nodup
 | [], _, h => h
 | _ :: l, _, h => insP_nodup l (putP_nodup h)
theorem pairsL_nodup (LL : List (List Int)) : ∀ k, (pairsL LL k).Nodup
 | 0 => List.nodup_nil
 | k + 1 => insP_nodup _ (pairsL_nodup LL k)
theorem seesL_len (V : Mat) (n : Nat) : (seesL V n).length = n := by simp [seesL]
theorem seesL_get (V : Mat) {n i : Nat} (hi : i < n) : (seesL V n).getD i [] = (lst (seeTo V (i : Int) 64)).map Int.ofNat := by
 unfold seesL
 rw [List.getD_eq_getElem?_getD, List.getElem?_map, List.getElem?_range hi]; rfl
theorem mem_sees {V : Mat} {i : Nat} (hi : i < 64) {a : Int} : a ∈ (lst (seeTo V (i : Int) 64)).map Int.ofNat ↔ ∃ j : Nat, j < 64 ∧ a = (j : Int) ∧ V j i = true := by
 rw [List.mem_map]
 constructor
 ·rintro ⟨j, hj, rfl⟩
  obtain ⟨h1, h2⟩ := mem_lst.1 hj
  rw [seeTo_bit V _ j 64 (Nat.le_refl 64), decide_eq_true h1, Bool.true_and, hasR_nat V j i h1 hi] at h2
  exact ⟨j, h1, rfl, h2⟩
 ·rintro ⟨j, hj, rfl, hv⟩
  refine ⟨j, mem_lst.2 ⟨hj, ?_⟩, rfl⟩
  rw [seeTo_bit V _ j 64 (Nat.le_refl 64), decide_eq_true hj, Bool.true_and, hasR_nat V j i hj hi]
  exact hv
end

section
open Go.RowKit
theorem low_ok {V : Mat} {n : Nat} (hn : n ≤ 64) (hL : ∀ i j : Nat, i < 64 → j < 64 → V i j = true → i < n ∧ j < n) : okL n (seesL V n) = true := by
 unfold okL
 rw [seesL_len, decide_eq_true rfl, Bool.true_and, List.all_eq_true]
 intro l hl
 unfold seesL at hl
 obtain ⟨i, hi, rfl⟩ := List.mem_map.1 hl
 have hin := List.mem_range.1 hi
 unfold okRow
 rw [List.all_eq_true]
 intro a ha
 obtain ⟨j, hj, rfl, hv⟩ := (mem_sees (show i < 64 by omega)).1 ha
 have := hL j i hj (by omega) hv
 simp only [Bool.and_eq_true, decide_eq_true_eq]
 exact ⟨by omega, by omega⟩
theorem low_rep {V : Mat} {n : Nat} (hn : n ≤ 64) (hL : ∀ i j : Nat, i < 64 → j < 64 → V i j = true → i < n ∧ j < n) : Rep V (pairsL (seesL V n) n) := by
 refine ⟨pairsL_nodup _ _, fun a b => ?_⟩
 rw [mem_pairsL]
 constructor
 ·rintro ⟨i, hi, a2, ha2, e⟩
  rw [seesL_get V hi] at ha2
  obtain ⟨j, hj, rfl, hv⟩ := (mem_sees (show i < 64 by omega)).1 ha2
  exact ⟨j, i, hj, by omega, congrArg Prod.fst e, congrArg Prod.snd e, hv⟩
 ·rintro ⟨j, i, hj, hi, rfl, rfl, hv⟩
  have hin := (hL j i hj hi hv).2
  refine ⟨i, hin, (j : Int), ?_, rfl⟩
  rw [seesL_get V hin]
  exact (mem_sees hi).2 ⟨j, hj, rfl, hv⟩
theorem least_low {h : List TxnV} {lv : Int} {L : List Nat} {X : Mat} (hc : checkI h = 0) (hp : L.Perm (List.range h.length)) (hk : keptL h lv L = true) (hX : LeastIs h (askN lv) (L.map Int.ofNat) X) : ∀ i j : Nat, i < 64 → j < 64 → X i j = true → i < h.length ∧ j < h.length := by
 intro i j hi hj hv
 rw [← kept_holds hc lv hp hX] at hk
 have hin : inM X (chainR (L.map Int.ofNat)) = true := by
  unfold holdsB at hk
  simp only [Bool.and_eq_true] at hk
  have := hk.2.2.1
  unfold rightM at this
  simp only [Bool.and_eq_true] at this
  exact this.2.1
 have hch := (inM_iff _ _).1 hin i j hi hj hv
 obtain ⟨p, q, h1, h2, e1, e2⟩ := ahead_pos ((chainR_iff i j _).1 hch)
 have m1 : i ∈ L := by rw [← e1]; exact List.getElem_mem _
 have m2 : j ∈ L := by rw [← e2]; exact List.getElem_mem _
 exact ⟨List.mem_range.1 (hp.mem_iff.1 m1), List.mem_range.1 (hp.mem_iff.1 m2)⟩
theorem first_accepts {h : List TxnV} {lv : Int} {L : List Nat} {X : Mat} (hc : checkI h = 0) (hp : L.Perm (List.range h.length)) (hk : keptL h lv L = true) (hX : LeastIs h (askN lv) (L.map Int.ofNat) X) : acceptsB h lv (L.map Int.ofNat) (seesL X h.length) = true := by
 have h64 := (check_zero hc).1
 have hlow := least_low hc hp hk hX
 have hrep := low_rep h64 hlow
 unfold acceptsB
 rw [low_ok h64 hlow, Bool.true_and]
 rw [← holds_same hc hrep, kept_holds hc lv hp hX]
 exact hk
theorem count_first {n : Nat} {p : List Nat → Bool} : (0 < (ordersN n).countP p) ↔ ((ordersN n).find? p).isSome = true := by
 rw [List.countP_pos_iff, List.find?_isSome]
end

section
open Go.RowKit
theorem rest_nil (n : Nat) : restN n [] = List.range n := by unfold restN; simp
end

section
open Go.RowKit
theorem allT_rowG {h : List TxnV} {C : Nat} (h64 : h.length ≤ 64) : ∀ (l r : List Nat), RowG h C r → allT h C r l = true → RowG h C (l.reverse ++ r)
 | [], r, g, _ => by simpa using g
 | i :: l, r, g, ha => by
  unfold allT at ha
  rw [Bool.and_eq_true] at ha
  have := allT_rowG h64 l (i :: r) (g.push h64 ha.1) ha.2
  rw [List.reverse_cons, List.append_assoc]; exact this
theorem decW_some {h : List TxnV} {lv : Int} (hc : checkI h = 0) : (decW h lv).2.2 = ((ordersN h.length).find? (keptL h lv)).isSome := by
 rw [decW_yes, ← dec_first hc, Option.isSome_map]
theorem decW_none (h : List TxnV) (lv : Int) : (decW h lv).2.2 = false → (decW h lv).1 = [] ∧ (decW h lv).2.1 = [] := by
 unfold decW
 cases (decN h lv).1 with
 | none => intro _; exact ⟨rfl, rfl⟩
 | some r => intro e; cases e
theorem dec_same {h : List TxnV} {lv : Int} {r : List Nat} {X : Mat} (hc : checkI h = 0) (hf : (ordersN h.length).find? (keptL h lv) = some r) (hX : LeastIs h (askN lv) (r.map Int.ofNat) X) : (decW h lv).1 = r.map Int.ofNat ∧ (decW h lv).2.1 = seesL X h.length := by
 have h64 := (check_zero hc).1
 have hk := List.find?_some hf
 have hp := orders_perm (List.mem_of_find?_eq_some hf)
 rw [← dec_first hc] at hf
 cases hd : (decN h lv).1 with
 | none => rw [hd] at hf; cases hf
 | some rr =>
  rw [hd, Option.map_some] at hf
  have hr : rr.reverse = r := by injection hf
  have hr2 : rr = r.reverse := by rw [← hr, List.reverse_reverse]
  unfold decW
  rw [hd]
  refine ⟨by show rr.reverse.map Int.ofNat = _; rw [hr], ?_⟩
  show seesL (seesR h (clI ((askN lv : Nat) : Int)) rr) h.length = _
  have hC : clI ((askN lv : Nat) : Int) < 9223372036854775808 := by have := clI_lt ((askN lv : Nat) : Int); omega
  have hall : allT h (clI ((askN lv : Nat) : Int)) [] r = true := by
   unfold keptL at hk
   simp only [Bool.and_eq_true] at hk
   exact hk.2.2
  have g : RowG h (clI ((askN lv : Nat) : Int)) rr := by
   have := allT_rowG h64 r [] RowG.nil hall
   rw [List.append_nil] at this
   rw [hr2]; exact this
  have hS := sees_least g hC (fun k hk => by rw [hr2]; exact List.mem_reverse.2 (hp.mem_iff.2 (List.mem_range.2 hk)))
  rw [hr] at hS
  have hx : askN lv < 9223372036854775808 := by
   unfold askN
   split
   ·next hlv => exact Nat.lt_trans (askAt_lt ⟨lv.toNat, by unfold isLv at hlv; simp at hlv; omega⟩) (by decide)
   ·decide
  have hin : inM X (chainR (r.map Int.ofNat)) = true := by
   have hk2 := hk
   rw [← kept_holds hc lv hp hX] at hk2
   unfold holdsB at hk2
   simp only [Bool.and_eq_true] at hk2
   have := hk2.2.2.1
   unfold rightM at this
   simp only [Bool.and_eq_true] at this
   exact this.2.1
  have hnd : (r.map Int.ofNat).Nodup := by
   have h1 : r.Nodup := hp.nodup_iff.2 List.nodup_range
   exact h1.map _ (fun a b hab e => hab (Int.ofNat.inj e))
  have he := least_closed hc hnd hx hX hS hin
  unfold seesL
  refine List.map_congr_left fun i hi => ?_
  have hi := List.mem_range.1 hi
  rw [seeTo_congr (fun a b ha hb => (rowsA_inj he a b ha hb).symm) (show i < 64 by omega)]
theorem dec_accepts {h : List TxnV} {lv : Int} (hc : checkI h = 0) {r : List Nat} {X : Mat} (hf : (ordersN h.length).find? (keptL h lv) = some r) (hX : LeastIs h (askN lv) (r.map Int.ofNat) X) : acceptsB h lv (decW h lv).1 (decW h lv).2.1 = true := by
 obtain ⟨e1, e2⟩ := dec_same hc hf hX
 rw [e1, e2]
 exact first_accepts hc (orders_perm (List.mem_of_find?_eq_some hf)) (List.find?_some hf) hX
theorem raccepts_any (va : Value) (h : List TxnV) (lv : Int) (w : World) (hc : checkI h = 0) (hn : h.length ≤ 6) (hT : Txns w va h) :
  Calls Tryz.prog 28 #[va, .int .i64 lv] w fun e w' => e = .returned (.bool (decW h lv).2.2) ∧ Below w.heap.size w w' := by
 have CA := hid (rall_any h.length (by omega) w)
 have CC := hid (fun vl wx (hx : Below w.heap.size w wx) hl => rcount1_any va h lv hc hn h.length (.slice none 0 0) vl [] (List.range h.length) wx List.length_range (by rw [List.nil_append]) (hT.below hx) (ints_nil wx) hl)
 have HE : Hid (cntL (keptL h lv) h.length [] (List.range h.length) = (ordersN h.length).countP (keptL h lv)) := hid (by rw [← rest_nil, cntL_exts]; rfl)
 rw [HE.out] at CC
 have HV : Hid ((decW h lv).2.2 = decide (0 < (ordersN h.length).countP (keptL h lv))) := hid (by
  rw [decW_some hc, Bool.eq_iff_iff, decide_eq_true_eq]; exact count_first.symm)
 rw [HV.out]
 have HO : Hid (∀ n, (0 < n → one1 n = 1) ∧ (¬ 0 < n → one1 n = 0)) := hid (fun n => by unfold one1; exact ⟨fun q => if_pos q, fun q => if_neg q⟩)
 obtain ⟨ao, cap, rfl, hal⟩ := hT.form
 clear hT hc HE HV
 generalize (ordersN h.length).countP (keptL h lv) = n at *
 by_cases hp : 0 < n
 ·rw [(HO.out n).1 hp] at CC
  rw [decide_eq_true hp]
  clear HO hp
  go_enter Tryz.func28, Tryz.ntmps28
  go_wp2_with fail
  refine (CA.out).mono ?_
  rintro e w1 ⟨⟨v, rfl, hI⟩, h1⟩
  have C2 := hid (CC.out v w1 h1 hI)
  go_wp2_with fail
  refine (C2.out).mono ?_
  rintro e w2 ⟨rfl, h2⟩
  have h2 := below_then h1 h2
  go_wp2_with fail
  go_ret
  exact ⟨rfl, h2⟩
 ·rw [(HO.out n).2 hp] at CC
  rw [decide_eq_false hp]
  clear HO hp
  go_enter Tryz.func28, Tryz.ntmps28
  go_wp2_with fail
  refine (CA.out).mono ?_
  rintro e w1 ⟨⟨v, rfl, hI⟩, h1⟩
  have C2 := hid (CC.out v w1 h1 hI)
  go_wp2_with fail
  refine (C2.out).mono ?_
  rintro e w2 ⟨rfl, h2⟩
  have h2 := below_then h1 h2
  go_wp2_with fail
  go_ret
  exact ⟨rfl, h2⟩
end

section
open Go.RowKit
theorem least_ex (h : List TxnV) (x : Nat) (L : List Int) : ∃ X : Mat, LeastIs h x L X := by
 classical
 exact ⟨fun i j => decide (Must (startM h (x : Int) (chainR L)) (chainR L) (trB x) (pfB x) i j), fun i j _ _ => by rw [decide_eq_true_eq]⟩
section
variable {h : List TxnV}
theorem kept_implied (hc : checkI h = 0) {a b : Int} (hi : impB a b = true) {L : List Nat} (hp : L.Perm (List.range h.length)) (hk : keptL h a L = true) : keptL h b L = true := by
 obtain ⟨X, hX⟩ := least_ex h (askN a) (L.map Int.ofNat)
 obtain ⟨Y, hY⟩ := least_ex h (askN b) (L.map Int.ofNat)
 rw [← kept_holds hc a hp hX] at hk
 have hnd : (L.map Int.ofNat).Nodup := nodup_ofNat (hp.nodup_iff.2 List.nodup_range)
 have h2 := least_holds (check_zero hc).1 (implied_holds hc hnd hk hi) hY
 rwa [kept_holds hc b hp hY] at h2
theorem dec_implied (hc : checkI h = 0) {a b : Int} (hi : impB a b = true) (hk : (decW h a).2.2 = true) : (decW h b).2.2 = true := by
 rw [decW_some hc] at hk ⊢
 rw [List.find?_isSome] at hk ⊢
 obtain ⟨L, hL, hk⟩ := hk
 exact ⟨L, hL, kept_implied hc hi (orders_perm hL) hk⟩
theorem opn_no {r : Nat → Bool} {l : Nat} (ho : opn r l = false) : ∃ k, k < l ∧ r k = false ∧ impB (l : Int) (k : Int) = true := by
 unfold opn opnTo at ho
 rw [List.all_eq_false] at ho
 obtain ⟨k, hk, hn⟩ := ho
 refine ⟨k, List.mem_range.1 hk, ?_⟩
 simpa using hn
theorem shut_no (hc : checkI h = 0) {r : Nat → Bool} {l : Nat} (hr : ∀ i, i < l → r i = (decW h (i : Int)).2.2) (ho : opn r l = false) : (decW h (l : Int)).2.2 = false := by
 obtain ⟨k, hk, h1, h2⟩ := opn_no ho
 cases e : (decW h (l : Int)).2.2 with
 | false => rfl
 | true =>
  have := dec_implied hc h2 e
  rw [← hr k hk, h1] at this
  cases this
theorem vec_row (hc : checkI h = 0) : ∀ j i, (vecTo h j).1 i = (decide (i < j) && (decW h (i : Int)).2.2)
 | 0, i => by simp [vecTo_zero, noB]
 | j + 1, i => by
  have ih := vec_row hc j
  cases ho : opn (vecTo h j).1 j with
  | true =>
   rw [vecTo_open ho]
   show rSet (vecTo h j).1 j _ i = _
   unfold rSet
   by_cases e : i = j
   ·subst e; simp
   ·rw [if_neg e, ih]
    congr 1
    rw [Bool.eq_iff_iff, decide_eq_true_eq, decide_eq_true_eq]; omega
  | false =>
   rw [vecTo_shut ho, ih]
   have hn := shut_no hc (r := (vecTo h j).1) (l := j) (fun i hi => by rw [ih, decide_eq_true hi, Bool.true_and]) ho
   by_cases e : i = j
   ·subst e; rw [hn]; simp
   ·congr 1
    rw [Bool.eq_iff_iff, decide_eq_true_eq, decide_eq_true_eq]; omega
theorem vec_bound (M : Nat) (hM : ∀ l : Nat, l < 12 → (decN h (l : Int)).2.2 ≤ M) : ∀ j, j ≤ 12 → (vecTo h j).2 ≤ j * M
 | 0, _ => by rw [vecTo_zero]; exact Nat.zero_le _
 | j + 1, hj => by
  have ih := vec_bound M hM j (by omega)
  have := hM j (by omega)
  rw [Nat.succ_mul]
  cases ho : opn (vecTo h j).1 j with
  | true => rw [vecTo_open ho]; show (vecTo h j).2 + _ ≤ _; omega
  | false => rw [vecTo_shut ho]; omega
end
def accV (h : List TxnV) (i : Nat) : Bool := (decW h (i : Int)).2.2
def vecF (r : Nat → Bool) (ws : Nat → Value × Value) (i : Nat) : Value := if i < 12 then .bool (r i) else if i % 2 = 0 then (ws ((i - 12) / 2)).1 else (ws ((i - 12) / 2)).2
def vecL (r : Nat → Bool) (ws : Nat → Value × Value) : List Value := (List.range 36).map (vecF r ws)
def wZ0 : Nat → Value × Value := fun _ => (.slice none 0 0, .slice none 0 0)
def updW (ws : Nat → Value × Value) (k : Nat) (u : Value × Value) : Nat → Value × Value := fun i => if i = k then u else ws i
theorem vecL_len (r : Nat → Bool) (ws : Nat → Value × Value) : (vecL r ws).length = 36 := by unfold vecL; simp
theorem vecL_at (r : Nat → Bool) (ws : Nat → Value × Value) {i : Nat} (hi : i < 36) : (vecL r ws)[i]? = some (vecF r ws i) := by unfold vecL; simp [hi]
theorem vecL_congr {r s : Nat → Bool} {ws : Nat → Value × Value} (h : ∀ i, i < 12 → r i = s i) : vecL r ws = vecL s ws := by
 unfold vecL
 refine List.map_congr_left fun i _ => ?_
 unfold vecF
 split
 ·rename_i e; rw [h i e]
 ·rfl
theorem vecL_one {r : Nat → Bool} {ws : Nat → Value × Value} (h : ∀ i, i < 12 → (ws i).1.oneCell' = true ∧ (ws i).2.oneCell' = true) : (vecL r ws).toArray.all (·.oneCell') = true := by
 refine all_oneCell_toArray fun v hv => ?_
 unfold vecL at hv
 obtain ⟨i, hi, rfl⟩ := List.mem_map.1 hv
 have hi := List.mem_range.1 hi
 unfold vecF
 split
 ·rfl
 ·split
  ·exact (h _ (by omega)).1
  ·exact (h _ (by omega)).2
def VecAt (w : World) (g : Nat) (r : Nat → Bool) (ws : Nat → Value × Value) : Prop := ∀ i, i < 36 → w.cell? ⟨g, i, none⟩ = some (vecF r ws i) ∧ w.frozen? ⟨g, i, none⟩ = false
section
variable {w w' : World} {g : Nat} {r : Nat → Bool} {ws : Nat → Value × Value}
theorem VecAt.lt (h : VecAt w g r ws) : g < w.heap.size := block_lt (h 0 (by omega)).1
theorem VecAt.below {B : Nat} (h : VecAt w g r ws) (hb : Below B w w') (hB : g < B) : VecAt w' g r ws := fun i hi => by
 rw [hb.cell (p := ⟨g, i, none⟩) hB, hb.frozen (p := ⟨g, i, none⟩) hB]; exact h i hi
theorem VecAt.grown {row : Option Nat} (h : VecAt w g r ws) (hg : w.grownBy w' row) (hne : some g ≠ row) : VecAt w' g r ws := fun i hi => by
 obtain ⟨h1, h2⟩ := h i hi
 have hb : w'.heap[g]? = w.heap[g]? := hg.block g h.lt hne
 refine ⟨by unfold World.cell? at *; rw [hb]; exact h1, by unfold World.frozen? at *; rw [hb]; exact h2⟩
theorem VecAt.made (w : World) (t : TypeId) (r : Nat → Bool) (ws : Nat → Value × Value) : VecAt (w.alloc (.cells (vecL r ws).toArray t)) w.heap.size r ws := fun i hi => by
 have hn := heap_alloc_new w (.cells (vecL r ws).toArray t)
 refine ⟨?_, frozen_of_row _ _ _ _ _ hn⟩
 rw [cell_of_row _ _ _ _ _ _ hn]
 simpa using vecL_at r ws hi
theorem VecAt.setR (h : VecAt w g r ws) {k : Nat} (hk : k < 12) (v : Bool) : VecAt (w.setCell ⟨g, k, none⟩ (.bool v)) g (rSet r k v) ws := fun i hi => by
 rw [World.frozen?_setCell]
 refine ⟨?_, (h i hi).2⟩
 by_cases e : i = k
 ·subst e
  rw [World.cell?_setCell_same _ _ _ (h i hi).1]
  unfold vecF rSet; rw [if_pos hk, if_pos rfl]
 ·rw [World.cell?_setCell_other _ _ _ _ (fun q => by injection q with q1 q2; exact e q2.symm), (h i hi).1]
  unfold vecF rSet
  split
  ·rfl
  ·rfl
theorem VecAt.setW (h : VecAt w g r ws) {k : Nat} (hk : k < 12) (x y : Value) : VecAt (w.setCells g (12 + 2 * k) [x, y]) g r (updW ws k (x, y)) := fun i hi => by
 have e : w.setCells g (12 + 2 * k) [x, y] = (w.setCell ⟨g, 12 + 2 * k, none⟩ x).setCell ⟨g, 12 + 2 * k + 1, none⟩ y := rfl
 rw [e, World.frozen?_setCell, World.frozen?_setCell]
 refine ⟨?_, (h i hi).2⟩
 by_cases e0 : i = 12 + 2 * k
 ·subst e0
  rw [World.cell?_setCell_other _ _ _ _ (fun q => by injection q with q1 q2; omega), World.cell?_setCell_same _ _ _ (h _ hi).1]
  unfold vecF updW
  rw [if_neg (by omega), if_pos (by omega), if_pos (by omega)]
 ·by_cases e1 : i = 12 + 2 * k + 1
  ·subst e1
   have hc : (w.setCell ⟨g, 12 + 2 * k, none⟩ x).cell? ⟨g, 12 + 2 * k + 1, none⟩ = some (vecF r ws (12 + 2 * k + 1)) := by
    rw [World.cell?_setCell_other _ _ _ _ (fun q => by injection q with q1 q2; omega)]; exact (h _ hi).1
   rw [World.cell?_setCell_same _ _ _ hc]
   unfold vecF updW
   rw [if_neg (by omega), if_neg (by omega), if_pos (by omega)]
  ·rw [World.cell?_setCell_other _ _ _ _ (fun q => by injection q with q1 q2; omega), World.cell?_setCell_other _ _ _ _ (fun q => by injection q with q1 q2; omega), (h i hi).1]
   unfold vecF updW
   split
   ·rfl
   ·rw [if_neg (show ¬ (i - 12) / 2 = k by omega)]
theorem VecAt.row (h : VecAt w g r ws) : w.rangeAt g 0 (rowB r).toList := fun j v hv => by
 have hj : j < 12 := by
  have := (List.getElem?_eq_some_iff.1 hv).1
  simpa [rowB] using this
 rw [Nat.zero_add, (h j (by omega)).1, ← hv]
 unfold vecF
 rw [if_pos hj]
 simp [rowB, hj]
theorem VecAt.why (h : VecAt w g r ws) {k : Nat} (hk : k < 12) : w.rangeAt g (12 + 2 * k) [(ws k).1, (ws k).2] := fun j v hv => by
 have hj : j < 2 := (List.getElem?_eq_some_iff.1 hv).1
 rw [(h (12 + 2 * k + j) (by omega)).1, ← hv]
 unfold vecF
 rw [if_neg (by omega)]
 rcases (by omega : j = 0 ∨ j = 1) with rfl | rfl
 ·rw [if_pos (by omega), show (12 + 2 * k + 0 - 12) / 2 = k by omega]; rfl
 ·rw [if_neg (by omega), show (12 + 2 * k + 1 - 12) / 2 = k by omega]; rfl
theorem VecAt.all (h : VecAt w g r ws) : w.rangeAt g 0 (vecL r ws) := fun j v hv => by
 have hj : j < 36 := by
  have := (List.getElem?_eq_some_iff.1 hv).1
  rwa [vecL_len] at this
 rw [Nat.zero_add, (h j hj).1, ← hv, vecL_at r ws hj]
theorem VecAt.there (h : VecAt w g r ws) {o n : Nat} (ho : o + n ≤ 36) : w.there g o n := fun j hj => by
 obtain ⟨h1, h2⟩ := h (o + j) (by omega)
 exact ⟨by rw [h1]; rfl, h2⟩
theorem VecAt.put (h : VecAt w g r ws) (s : Nat → Bool) (us : Nat → Value × Value) : VecAt (w.setCells g 0 (vecL s us)) g s us := fun i hi => by
 rw [World.frozen?_setCells]
 refine ⟨?_, (h i hi).2⟩
 have := World.cell?_setCells_in g (vecL s us) 0 w (fun j hj => by rw [vecL_len] at hj; rw [Nat.zero_add, (h j hj).1]; rfl) i (by rw [vecL_len]; exact hi)
 rw [Nat.zero_add] at this
 rw [this]
 unfold vecL; simp
end
section
variable {w w' : World} {b0 : Nat} {vo vs : Value} {l : List Int} {LL : List (List Int)}
theorem OwnW.nil (w : World) (b0 : Nat) : OwnW w b0 (.slice none 0 0) (.slice none 0 0) [] [] := ⟨World.ownsRow_nil _ _ _ _, [], OwnK.nil _ _, rfl⟩
theorem OwnW.below (h : OwnW w b0 vo vs l LL) (hb : Below w.heap.size w w') : OwnW w' b0 vo vs l LL := by
 obtain ⟨h1, KL, h2, h3⟩ := h
 exact ⟨owns_below h1 hb, KL, h2.below hb, h3⟩
theorem OwnW.base {b1 : Nat} (h : OwnW w b0 vo vs l LL) (hb : b1 ≤ b0) : OwnW w b1 vo vs l LL := by
 obtain ⟨h1, KL, h2, h3⟩ := h
 exact ⟨own_base' h1 hb, KL, h2.base hb, h3⟩
theorem own_row_ne {e : TypeId} {s n T : Nat} {v : Value} {xs : List Value} (h : w.ownsRow b0 e s v n xs) (hT : T < b0) : v.ownBlock = none ∨ v.ownBlock ≠ some T := by
 rcases h.2 with ⟨rfl, _⟩ | ⟨g, cap, cur, rfl, _, _, _⟩
 ·exact .inl rfl
 ·right
  intro e
  have := (h.lt _ e).1
  omega
theorem OwnW.kept {T : Nat} (h : OwnW w b0 vo vs l LL) (hg : w.grownBy w' (some T)) (hT : T < b0) : OwnW w' b0 vo vs l LL := by
 obtain ⟨h1, KL, h2, h3⟩ := h
 exact ⟨World.ownsRow.kept h1 hg (own_row_ne h1 hT), KL, ⟨World.ownsRow.kept h2.kr hg (own_row_ne h2.kr hT), fun p hp => World.ownsRow.kept (h2.ke p hp) hg (own_row_ne (h2.ke p hp) hT)⟩, h3⟩
theorem OwnW.far (h : OwnW w b0 vo vs l LL) {p : Addr} (hp : p.block < b0) (u : Value) : OwnW (w.setCell p u) b0 vo vs l LL := by
 obtain ⟨h1, KL, h2, h3⟩ := h
 exact ⟨pl_far h1 hp u, KL, h2.far hp u, h3⟩
theorem OwnW.cells (h : OwnW w b0 vo vs l LL) {g : Nat} (hg : g < b0) (o : Nat) (xs : List Value) : OwnW (w.setCells g o xs) b0 vo vs l LL := by
 obtain ⟨h1, KL, h2, h3⟩ := h
 exact ⟨owns_cells hg xs o w h1, KL, ⟨owns_cells hg xs o w h2.kr, fun p hp => owns_cells hg xs o w (h2.ke p hp)⟩, h3⟩
theorem OwnW.form (h : OwnW w b0 vo vs l LL) : ∃ oo n oc so m sc, vo = .slice oo n oc ∧ vs = .slice so m sc := by
 obtain ⟨h1, KL, h2, _⟩ := h
 obtain ⟨oo, oc, e1⟩ := own_form h1
 obtain ⟨so, sc, e2⟩ := own_form h2.kr
 exact ⟨oo, _, oc, so, _, sc, e1, e2⟩
theorem OwnW.ints (h : OwnW w b0 vo vs l LL) : Ints w vo l := Ints.of_owns h.1
theorem OwnW.lists (h : OwnW w b0 vo vs l LL) : Lists w vs LL := by
 obtain ⟨_, KL, h2, h3⟩ := h
 rw [← h3]; exact h2.lists
end
section
variable {w0 w : World} {B b : Nat} {h : List TxnV}
theorem sdecide_own (lv : Int) (T F U : Nat) (hO : OrdIs w0 B b h) (ht : Tab w0) (hK : Kinds w0) (hc : checkI h = 0) (hb : Below w0.heap.size w0 w) (hT : w0.heap.size ≤ T) (hm : MtAt w T F U)
  (hM : (decN h lv).2.2 + 2 ≤ 1099511627776) (hU : F = 4611686018427387904 → U + (decN h lv).2.2 ≤ 4611686018427387904) (hl : Lasts F U (decN h lv).2.2) :
  Calls Tryz.prog 18 #[.pointer (some ⟨B, 0, none⟩), .int .i64 lv, .pointer (some ⟨T, 0, none⟩)] w fun e w' =>
   ∃ vo vs, e = .returned (.tuple #[.agg #[vo, vs], .bool (decW h lv).2.2, .int .i64 0]) ∧ OwnW w' w.heap.size vo vs (decW h lv).1 (decW h lv).2.1 ∧ MtAt w' T F (U + (decN h lv).2.2) ∧ w.grownBy w' (some T) := by
 refine (sdecide_any lv T F U hO ht hK hc hb hT hm hM hU).mono ?_
 rintro e w' ⟨hg, hr⟩
 rcases hr with ⟨_, hm', hr⟩ | ⟨hn, _⟩
 ·rcases hr with ⟨hd, rfl⟩ | ⟨r, vo, vs, hd, _, _, rfl, _, _, hW⟩
  ·refine ⟨_, _, by rw [decW_yes, hd]; rfl, ?_, hm', hg⟩
   unfold decW; rw [hd]; exact OwnW.nil _ _
  ·refine ⟨vo, vs, by rw [decW_yes, hd]; rfl, ?_, hm', hg⟩
   unfold decW; rw [hd]; exact hW
 ·exact (hn hl).elim
end
theorem results_vec {fn : Func} {p u : Tmp} (h : fn.results = #[.cell p 52, .tmp u]) (tmps : Array Value) (w : World) (g : Nat) (r : Nat → Bool) (ws : Nat → Value × Value)
  (hp : tmps.getD p undef = .pointer (some ⟨g, 0, none⟩)) (hg : VecAt w g r ws) : (results fn tmps).run Tryz.prog w = .ok (.tuple #[.agg (vecL r ws).toArray, tmps.getD u undef]) w := by
 have hp' : tmps[p]?.getD undef = .pointer (some ⟨g, 0, none⟩) := by simpa using hp
 simp [results, h, hp', asAddr, run_loadVar_mid w g 0 52 (vecL r ws) _ hg.all Tryz.underlying52 rfl (by kernel_rfl)]
end

section
open Go.RowKit
theorem vec_zero : Z36 = (vecL noB wZ0).toArray := by kernel_rfl
theorem VecAt.zero (w : World) : VecAt (w.alloc (.cells Z36 52)) w.heap.size noB wZ0 := by rw [vec_zero]; exact VecAt.made w _ noB wZ0
def VofRes (h : List TxnV) (F : Nat) (w : World) (e : Ending) (w' : World) : Prop :=
 Below w.heap.size w w' ∧ ((Lasts F 0 (vecTo h 12).2 ∧ ∃ ws, e = .returned (.tuple #[.agg (vecL (accV h) ws).toArray, .int .i64 0]) ∧ ∀ i, i < 12 → OwnW w' w.heap.size (ws i).1 (ws i).2 (decW h (i : Int)).1 (decW h (i : Int)).2.1) ∨
  (¬ Lasts F 0 (vecTo h 12).2 ∧ e = .returned (.tuple #[.agg (vecL noB wZ0).toArray, .int .i64 4])))
structure VecOn (h : List TxnV) (w : World) (g b0 k : Nat) (ws : Nat → Value × Value) (W : World) : Prop where
 at_ : VecAt W g (vecTo h k).1 ws
 own : ∀ i, i < 12 → OwnW W b0 (ws i).1 (ws i).2 (if i < k then (decW h (i : Int)).1 else []) (if i < k then (decW h (i : Int)).2.1 else [])
 bel : Below w.heap.size w W
section
variable {h : List TxnV} {w W W' : World} {g b0 k : Nat} {ws : Nat → Value × Value}
theorem VecOn.grown {T : Nat} (q : VecOn h w g b0 k ws W) (hg : W.grownBy W' (some T)) (hT : T < b0) (hgT : g ≠ T) (hw : w.heap.size ≤ T) : VecOn h w g b0 k ws W' :=
 ⟨q.at_.grown hg (fun e => hgT (Option.some.inj e)), fun i hi => (q.own i hi).kept hg hT, q.bel.grown hg q.bel.size (fun j hj => by cases hj; exact hw)⟩
theorem VecOn.below (q : VecOn h w g b0 k ws W) (hb : Below W.heap.size W W') : VecOn h w g b0 k ws W' := ⟨q.at_.below hb q.at_.lt, fun i hi => (q.own i hi).below hb, below_then q.bel hb⟩
theorem heap_three (w : World) (g k o : Nat) (a x y : Value) {j : Nat} (hj : j ≠ g) : ((w.setCell ⟨g, k, none⟩ a).setCells g o [x, y]).heap[j]? = w.heap[j]? := by
 have e : (w.setCell ⟨g, k, none⟩ a).setCells g o [x, y] = ((w.setCell ⟨g, k, none⟩ a).setCell ⟨g, o, none⟩ x).setCell ⟨g, o + 1, none⟩ y := rfl
 rw [e, Below.heap_setCell _ _ _ _ hj, Below.heap_setCell _ _ _ _ hj, Below.heap_setCell _ _ _ _ hj]
theorem VecAt.apart {r : Nat → Bool} (h : VecAt w g r ws) {g' : Nat} (hne : g ≠ g') (i o : Nat) (a x y : Value) : VecAt ((w.setCell ⟨g', i, none⟩ a).setCells g' o [x, y]) g r ws := fun j hj => by
 obtain ⟨h1, h2⟩ := h j hj
 have hb := heap_three w g' i o a x y hne
 exact ⟨by unfold World.cell? at *; rw [hb]; exact h1, by unfold World.frozen? at *; rw [hb]; exact h2⟩
theorem MtAt.apart {T F U : Nat} (h : MtAt w T F U) {g' : Nat} (hne : T ≠ g') (i o : Nat) (a x y : Value) : MtAt ((w.setCell ⟨g', i, none⟩ a).setCells g' o [x, y]) T F U := h.block (heap_three w g' i o a x y hne)
theorem VecOn.shut (q : VecOn h w g b0 k ws W) (hc : checkI h = 0) (ho : opn (vecTo h k).1 k = false) : VecOn h w g b0 (k + 1) ws W := by
 refine ⟨by rw [vecTo_shut ho]; exact q.at_, fun i hi => ?_, q.bel⟩
 have h1 := q.own i hi
 by_cases e : i < k
 ·rw [if_pos e] at h1; rw [if_pos e] at h1; rw [if_pos (show i < k + 1 by omega), if_pos (show i < k + 1 by omega)]; exact h1
 ·rw [if_neg e] at h1; rw [if_neg e] at h1
  by_cases e2 : i = k
  ·subst e2
   have hn := shut_no hc (r := (vecTo h i).1) (l := i) (fun j hj => by rw [vec_row hc, decide_eq_true hj, Bool.true_and]) ho
   obtain ⟨e3, e4⟩ := decW_none h (i : Int) hn
   rw [if_pos (show i < i + 1 by omega), if_pos (show i < i + 1 by omega), e3, e4]; exact h1
  ·rw [if_neg (show ¬ i < k + 1 by omega), if_neg (show ¬ i < k + 1 by omega)]; exact h1
theorem VecOn.more (q : VecOn h w g b0 k ws W) (hk : k < 12) (ho : opn (vecTo h k).1 k = true) (hgb : g < b0) (hgw : w.heap.size ≤ g) {vo vs : Value} (hW : OwnW W b0 vo vs (decW h (k : Int)).1 (decW h (k : Int)).2.1) :
  VecOn h w g b0 (k + 1) (updW ws k (vo, vs)) ((W.setCell ⟨g, k, none⟩ (.bool (decW h (k : Int)).2.2)).setCells g (12 + 2 * k) [vo, vs]) := by
 have hs : ∀ x y : Value, (W.setCells g (12 + 2 * k) [x, y]) = (W.setCell ⟨g, 12 + 2 * k, none⟩ x).setCell ⟨g, 12 + 2 * k + 1, none⟩ y := fun _ _ => rfl
 have ha := (q.at_.setR hk (decW h (k : Int)).2.2).setW hk vo vs
 have hf : ∀ {vo' vs' : Value} {l : List Int} {LL : List (List Int)}, OwnW W b0 vo' vs' l LL → OwnW ((W.setCell ⟨g, k, none⟩ (.bool (decW h (k : Int)).2.2)).setCells g (12 + 2 * k) [vo, vs]) b0 vo' vs' l LL := fun hq =>
  ((hq.far (p := ⟨g, k, none⟩) hgb _).far (p := ⟨g, 12 + 2 * k, none⟩) hgb vo).far (p := ⟨g, 12 + 2 * k + 1, none⟩) hgb vs
 refine ⟨by rw [vecTo_open ho]; exact ha, fun i hi => ?_, ?_⟩
 ·have h1 := q.own i hi
  unfold updW
  by_cases e2 : i = k
  ·subst e2
   rw [if_pos rfl, if_pos (show i < i + 1 by omega), if_pos (show i < i + 1 by omega)]
   exact hf hW
  ·rw [if_neg e2]
   by_cases e : i < k
   ·rw [if_pos e] at h1; rw [if_pos e] at h1; rw [if_pos (show i < k + 1 by omega), if_pos (show i < k + 1 by omega)]; exact hf h1
   ·rw [if_neg e] at h1; rw [if_neg e] at h1; rw [if_neg (show ¬ i < k + 1 by omega), if_neg (show ¬ i < k + 1 by omega)]; exact hf h1
 ·exact ((q.bel.setCell (p := ⟨g, k, none⟩) hgw _).setCell (p := ⟨g, 12 + 2 * k, none⟩) hgw vo).setCell (p := ⟨g, 12 + 2 * k + 1, none⟩) hgw vs
end
theorem vof_any {w0 w : World} {B b : Nat} {h : List TxnV} (much : Int) (F : Nat) (hF : fuelN much = F) (hO : OrdIs w0 B b h) (ht : Tab w0) (hK : Kinds w0) (hc : checkI h = 0) (hb : Below w0.heap.size w0 w) (hM : ∀ l : Nat, l < 12 → (decN h (l : Int)).2.2 + 2 ≤ 1099511627776) :
  Calls Tryz.prog 23 #[.pointer (some ⟨B, 0, none⟩), .int .i64 much] w fun e w' => VofRes h F w e w' := by
 have CN := hid (fun wx => fnew_any much wx)
 rw [hF] at CN
 have hw0 := hb.size
 have HB0 : Hid (∀ wx, Below w.heap.size w wx → Below w0.heap.size w0 wx) := hid (fun wx hx => hb.trans (hx.mono hb.size))
 have CO := hid (fun (r : Nat → Bool) (l : Nat) wx (hl : l ≤ 12) (hx : Below w.heap.size w wx) => vopen_any r l wx hl (hK.below (hb.trans (hx.mono hb.size))))
 have hbd : ∀ j, j ≤ 12 → (vecTo h j).2 ≤ j * 1099511627776 := vec_bound 1099511627776 (fun (l : Nat) hl => by have := hM l hl; omega)
 have CD := hid (fun (l : Nat) (T F : Nat) wx (hl : l < 12) (hx : Below w.heap.size w wx) (hT : w.heap.size ≤ T) hm (hla : Lasts F (vecTo h l).2 (decN h (l : Int)).2.2) => sdecide_own (w := wx) (l : Int) T F (vecTo h l).2 hO ht hK hc (hb.trans (hx.mono hb.size)) (Nat.le_trans hw0 hT) hm (hM l hl) (fun _ => by have h1 := hM l hl; have h2 := hbd l (by omega); have h3 : l * 1099511627776 ≤ 12 * 1099511627776 := Nat.mul_le_mul_right _ (by omega); omega) hla)
 have CZ := hid (fun (l : Nat) (T F : Nat) wx (hl : l < 12) (hx : Below w.heap.size w wx) (hT : w.heap.size ≤ T) hm (hla : ¬ Lasts F (vecTo h l).2 (decN h (l : Int)).2.2) => sdecide_no (w := wx) (l : Int) T F (vecTo h l).2 hO ht hK hc (hb.trans (hx.mono hb.size)) (Nat.le_trans hw0 hT) hm (hM l hl) hla)
 have HC := hid hc
 clear hO ht hK hc hb hM hbd hw0 hF
 go_enter Tryz.func23, Tryz.ntmps23
 go_upto_region 2 with fail
 have V1 := VecAt.zero w
 have V2 := VecAt.zero (w.alloc (.cells Z36 52))
 have hs1 : (w.alloc (.cells Z36 52)).heap.size = w.heap.size + 1 := by simp
 have hs2 : ((w.alloc (.cells Z36 52)).alloc (.cells Z36 52)).heap.size = w.heap.size + 1 + 1 := by simp
 rw [hs1] at V2
 have V1 := V1.below (box_below _ (.cells Z36 52)) (by rw [hs1]; omega)
 have hb2 : Below w.heap.size w ((w.alloc (.cells Z36 52)).alloc (.cells Z36 52)) := below_then (box_below w (.cells Z36 52)) (box_below _ (.cells Z36 52))
 generalize (w.alloc (.cells Z36 52)).alloc (.cells Z36 52) = w2 at *
 clear hs1
 go_wp2_with fail
 refine (CN.out _).mono ?_
 rintro e w3 ⟨T, rfl, hm, hT, hb3⟩
 have hTl := hm.lt
 have q0 : VecOn h w (w.heap.size + 1) (T + 1) 0 wZ0 w3 := ⟨by rw [vecTo_zero]; exact V2.below hb3 (by omega), fun i _ => by rw [if_neg (by omega), if_neg (by omega)]; exact OwnW.nil _ _, below_then hb2 hb3⟩
 have V1 := V1.below hb3 (by omega)
 clear CN V2 hb2
 go_wp2_with fail
 go_loopw [14] (fun i wr => ∃ k : Nat, k ≤ 12 ∧ i = .int .i64 k ∧ ∃ ws, VecOn h w (w.heap.size + 1) (T + 1) k ws wr ∧ VecAt wr w.heap.size noB wZ0 ∧ MtAt wr T F (vecTo h k).2 ∧ Lasts F 0 (vecTo h k).2) (fun i _ => 12 - (intOf i).toNat)
 case atStart => exact ⟨0, by omega, rfl, wZ0, q0, V1, by rw [vecTo_zero]; exact hm, by
   rw [vecTo_zero]
   by_cases e : F = 4611686018427387904
   ·exact .inl e
   ·exact .inr (by omega)⟩
 case round =>
  obtain ⟨k, hk, rfl, ws, q, v1, hm, hla⟩ := hrel
  have hTl := hm.lt
  have hkq := q.at_.lt
  by_cases hlt : k < 12
  ·have hki : (k : Int) < 12 := by omega
   have hrow := q.at_.row
   have CO1 := hid (CO.out (vecTo h k).1 k wr (by omega) q.bel)
   cases ho : opn (vecTo h k).1 k with
   | false =>
    rw [ho] at CO1
    have HS := hid (q.shut HC.out ho)
    have HM : Hid (MtAt wr T F (vecTo h (k + 1)).2 ∧ Lasts F 0 (vecTo h (k + 1)).2) := hid (by rw [vecTo_shut ho]; exact ⟨hm, hla⟩)
    clear q hm hla ho CO CD CZ HC
    go_wp2_with (with_reducible refine wpList_load_mid rfl 49 _ rfl (w.heap.size + 1) 0 rfl (rowB (vecTo h k).1).toList _ hrow Tryz.underlying49 rfl (by kernel_rfl) ?_)
    refine CO1.out.mono ?_
    rintro e w4 ⟨rfl, h4⟩
    have HS4 := hid (HS.out.below h4)
    have HM4 := hid (HM.out.1.below h4 hTl)
    have v4 := v1.below h4 v1.lt
    have HLA := hid HM.out.2
    clear HS HM h4 v1 hrow CO1
    go_wp2_with fail
    go_roundw
    case rel => exact ⟨k + 1, by omega, by go_num, ws, HS4.out, v4, HM4.out, HLA.out⟩
    case measure => simp [intOf]; omega
   | true =>
    rw [ho] at CO1
    have HO := hid ho
    have Q := hid q
    have HM := hid hm
    have HLA := hid hla
    have HTT : Hid (w.heap.size ≤ T ∧ T ≠ w.heap.size + 1 ∧ T ≠ w.heap.size) := hid ⟨by omega, by omega, by omega⟩
    clear q hm hla ho
    go_wp2_with (with_reducible refine wpList_load_mid rfl 49 _ rfl (w.heap.size + 1) 0 rfl (rowB (vecTo h k).1).toList _ hrow Tryz.underlying49 rfl (by kernel_rfl) ?_)
    refine CO1.out.mono ?_
    rintro e w4 ⟨rfl, h4⟩
    have q4 := Q.out.below h4
    have hm4 := HM.out.below h4 hTl
    have v4 := v1.below h4 v1.lt
    clear hrow CO1 Q HM v1
    by_cases hl2 : Lasts F (vecTo h k).2 (decN h (k : Int)).2.2
    ·have CD1 := hid (CD.out k T F w4 hlt q4.bel HTT.out.1 hm4 hl2)
     have HL2 : Hid (Lasts F 0 (vecTo h (k + 1)).2) := hid (by
      rw [vecTo_open HO.out]
      rcases hl2 with e | e
      ·exact .inl e
      ·exact .inr (by show 0 + (_ + _) ≤ F; omega))
     have Q := hid q4
     have HT4 := hm4.lt
     clear q4 hm4 hl2 CO CD CZ HLA h4
     go_wp2_with fail
     refine CD1.out.mono ?_
     rintro e w5 ⟨vo, vs, rfl, hW, hm5, hg5⟩
     obtain ⟨oo, no, oc, so, ns, sc, rfl, rfl⟩ := hW.form
     have q5 := Q.out.grown hg5 (by omega) (by have := HTT.out.2.1; omega) HTT.out.1
     have v5 := v4.grown hg5 (fun e => by have := HTT.out.2.2; injection e; omega)
     have hW := hW.base (show T + 1 ≤ w4.heap.size by omega)
     have hbx := box_below w5 (.cells #[.slice oo no oc, .slice so ns sc] 39)
     have WT := WitT.made w5 (.slice oo no oc) (.slice so ns sc) 39
     have q6 := q5.below hbx
     have v6 := v5.below hbx v5.lt
     have hW := hW.below hbx
     have hm6 := hm5.below hbx hm5.lt
     have hs6 : (w5.alloc (.cells #[.slice oo no oc, .slice so ns sc] 39)).heap.size = w5.heap.size + 1 := by simp
     have hq5 := q5.at_.lt
     have hM6 : MtAt (w5.alloc (.cells #[.slice oo no oc, .slice so ns sc] 39)) T F (vecTo h (k + 1)).2 := by rw [vecTo_open HO.out]; exact hm6
     clear CD1 Q v4 hg5 hbx hm5 q5 v5 hm6
     go_upto_region 10 with fail
     generalize w5.alloc (.cells #[.slice oo no oc, .slice so ns sc] 39) = w6 at *
     generalize w5.heap.size = x5 at *
     have kd := (Below.refl w6.heap.size w6).drew
     have WT := WT.below kd
     have q7 := q6.below kd
     have v7 := v6.below kd v6.lt
     have hM7 := hM6.below kd hM6.lt
     have hW := hW.below kd
     have HQ := hid (q7.more hlt HO.out (by omega) (by omega) hW)
     have HV : Hid (VecAt w6.drew (w.heap.size + 1) (vecTo h k).1 ws) := hid q7.at_
     have HV7 := hid v7
     have HM7 := hid hM7
     have hd0 : decide ((k : Int) < 0) = false := decide_eq_false (by omega)
     have hd1 : decide ((12 : Int) ≤ (k : Int)) = false := decide_eq_false (by omega)
     have hd2 : decide (12 ≤ k) = false := decide_eq_false (by omega)
     clear hW q6 q7 v6 v7 hM6 hM7 kd
     refine wp_region_held_drew (S := fun wx => wx.cell? ⟨x5, 0, none⟩ = some (.slice oo no oc) ∧ wx.cell? ⟨x5, 1, none⟩ = some (.slice so ns sc)) (by kernel_rfl) ⟨WT.c0, WT.c1⟩ (fun hS0 => ?_)
     generalize w6.drew = wd at *
     refine tG (some 34) 0 ?vtv0x1 rfl rfl (Or.inl ⟨by rfl, ?htv0x1⟩) hS0 ?rtv0x1
     case htv0x1 => (intro w hw; obtain ⟨m0, m1⟩ := hw; go_simp; try (with_reducible rfl))
     try simp only [Act.put, zA, zB, zC]
     refine tG (some 35) 1 ?vtv1x2 rfl rfl (Or.inl ⟨by rfl, ?htv1x2⟩) hS0 ?rtv1x2
     case htv1x2 => (intro w hw; obtain ⟨m0, m1⟩ := hw; go_simp; try (with_reducible rfl))
     try simp only [Act.put, zA, zB, zC]
     refine tG (some 36) 2 ?vtv2x3 rfl rfl (Or.inl ⟨by rfl, ?htv2x3⟩) hS0 ?rtv2x3
     case htv2x3 => (intro w hw; obtain ⟨m0, m1⟩ := hw; go_simp; try (with_reducible rfl))
     try simp only [Act.put, zA, zB, zC]
     refine tG (some 37) 3 ?vtv3x4 rfl rfl (Or.inl ⟨by rfl, ?htv3x4⟩) hS0 ?rtv3x4
     case htv3x4 => (intro w hw; obtain ⟨m0, m1⟩ := hw; go_simp; try (with_reducible rfl))
     try simp only [Act.put, zA, zB, zC]
     refine tG (some 38) 4 ?vtv4x5 rfl rfl (Or.inl ⟨by rfl, ?htv4x5⟩) hS0 ?rtv4x5
     case htv4x5 => (intro w hw; obtain ⟨m0, m1⟩ := hw; go_simp; try (with_reducible rfl))
     try simp only [Act.put, zA, zB, zC]
     refine tG (some 39) 5 ?vtv5x6 rfl rfl (Or.inl ⟨by rfl, ?htv5x6⟩) hS0 ?rtv5x6
     case htv5x6 => (intro w hw; obtain ⟨m0, m1⟩ := hw; go_simp; try (with_reducible rfl))
     try simp only [Act.put, zA, zB, zC]
     refine tG (some 40) 7 ?vtv7x7 rfl rfl (Or.inl ⟨by rfl, ?htv7x7⟩) hS0 ?rtv7x7
     case htv7x7 => (intro w hw; obtain ⟨m0, m1⟩ := hw; go_simp; try (with_reducible rfl))
     try simp only [Act.put, zA, zB, zC]
     refine rD 6 rfl (fun K hK => ?_)
     have hc0 := (HV.out k (by omega)).1
     have hf0 := (HV.out k (by omega)).2
     go_simp
     have sA : (wd.setCell ⟨w.heap.size + 1, k, none⟩ (.bool (decW h (k : Int)).2.2)).cell? ⟨x5, 0, none⟩ = some (.slice oo no oc) ∧ (wd.setCell ⟨w.heap.size + 1, k, none⟩ (.bool (decW h (k : Int)).2.2)).cell? ⟨x5, 1, none⟩ = some (.slice so ns sc) := ⟨by rw [World.cell?_setCell_other _ _ _ _ (fun e => by injection e; omega)]; exact hS0.1, by rw [World.cell?_setCell_other _ _ _ _ (fun e => by injection e; omega)]; exact hS0.2⟩
     refine hK.out _ _ sA (fun _ => ?_)
     clear hK K hc0 hf0
     refine tG (some 41) 8 ?vtv8x9 rfl rfl (Or.inl ⟨by rfl, ?htv8x9⟩) sA ?rtv8x9
     case htv8x9 => (intro w hw; obtain ⟨m0, m1⟩ := hw; go_simp; try (with_reducible rfl))
     try simp only [Act.put, zA, zB, zC]
     refine rD 9 rfl (fun K hK => ?_)
     have hth : (wd.setCell ⟨w.heap.size + 1, k, none⟩ (.bool (decW h (k : Int)).2.2)).there (w.heap.size + 1) (12 + k * 2) 2 := fun j hj => by
      obtain ⟨q1, q2⟩ := (HV.out.setR hlt (decW h (k : Int)).2.2) (12 + k * 2 + j) (by omega)
      exact ⟨by rw [q1]; rfl, q2⟩
     refine wp_store_mid 39 _ _ rfl (w.heap.size + 1) (12 + k * 2) #[.slice oo no oc, .slice so ns sc] rfl rfl hth (by kernel_rfl) (by simp [Value.oneCell']) ?_
     have sB : ((wd.setCell ⟨w.heap.size + 1, k, none⟩ (.bool (decW h (k : Int)).2.2)).setCells (w.heap.size + 1) (12 + k * 2) [.slice oo no oc, .slice so ns sc]).cell? ⟨x5, 0, none⟩ = some (.slice oo no oc) ∧ ((wd.setCell ⟨w.heap.size + 1, k, none⟩ (.bool (decW h (k : Int)).2.2)).setCells (w.heap.size + 1) (12 + k * 2) [.slice oo no oc, .slice so ns sc]).cell? ⟨x5, 1, none⟩ = some (.slice so ns sc) := ⟨(World.cell?_setCells_out _ _ _ _ _ (fun hb _ => absurd hb (by show ¬ x5 = w.heap.size + 1; omega))).trans sA.1, (World.cell?_setCells_out _ _ _ _ _ (fun hb _ => absurd hb (by show ¬ x5 = w.heap.size + 1; omega))).trans sA.2⟩
     refine hK.out _ _ sB (fun _ => ?_)
     clear hK K hth
     refine wpAnyH_done (by kernel_rfl) ?_ _
     have h12 : 12 + k * 2 = 12 + 2 * k := by omega
     have HR : Hid (VecAt ((wd.setCell ⟨w.heap.size + 1, k, none⟩ (.bool (decW h (k : Int)).2.2)).setCells (w.heap.size + 1) (12 + k * 2) [.slice oo no oc, .slice so ns sc]) w.heap.size noB wZ0 ∧ MtAt ((wd.setCell ⟨w.heap.size + 1, k, none⟩ (.bool (decW h (k : Int)).2.2)).setCells (w.heap.size + 1) (12 + k * 2) [.slice oo no oc, .slice so ns sc]) T F (vecTo h (k + 1)).2) := hid ⟨HV7.out.apart (by omega) _ _ _ _ _, HM7.out.apart (by have := HTT.out.2.1; omega) _ _ _ _ _⟩
     rw [← h12] at HQ
     generalize (wd.setCell ⟨w.heap.size + 1, k, none⟩ (.bool (decW h (k : Int)).2.2)).setCells (w.heap.size + 1) (12 + k * 2) [.slice oo no oc, .slice so ns sc] = w8 at *
     go_wp2_with fail
     go_roundw
     case rel => exact ⟨k + 1, by omega, by go_num, _, HQ.out, HR.out.1, HR.out.2, HL2.out⟩
     case measure => simp [intOf]; omega
    ·have CZ1 := hid (CZ.out k T F w4 hlt q4.bel HTT.out.1 hm4 hl2)
     have HL2 : Hid (¬ Lasts F 0 (vecTo h 12).2) := hid (fun e => by
      have h1 := vecTo_cost h (i := k + 1) (j := 12) (by omega)
      rw [vecTo_open HO.out] at h1
      have h1 : (vecTo h k).2 + (decN h (k : Int)).2.2 ≤ (vecTo h 12).2 := h1
      rcases e with e | e
      ·exact hl2 (.inl e)
      ·exact hl2 (.inr (by omega)))
     have Q := hid q4
     clear q4 hm4 hl2 CO CD CZ HLA h4
     go_wp2_with fail
     refine CZ1.out.mono ?_
     rintro e w5 ⟨rfl, hm5, hg5, _⟩
     have q5 := Q.out.grown hg5 (by omega) (by have := HTT.out.2.1; omega) HTT.out.1
     have v5 := v4.grown hg5 (fun e => by have := HTT.out.2.2; injection e; omega)
     have hbx := box_below w5 (.cells #[.slice none 0 0, .slice none 0 0] 39)
     have HQB := hid (below_then q5.bel hbx)
     have v6 := v5.below hbx v5.lt
     clear CZ1 Q v4 hg5 hbx hm5 q5 v5
     go_upto_region 9 with fail
     generalize w5.alloc (.cells #[.slice none 0 0, .slice none 0 0] 39) = w6 at *
     have hth : w6.there w.heap.size 0 (Z36 : Array Value).size := v6.there (n := 36) (by omega)
     have hzl : vecL noB wZ0 = [.bool false, .bool false, .bool false, .bool false, .bool false, .bool false, .bool false, .bool false, .bool false, .bool false, .bool false, .bool false, .slice none 0 0, .slice none 0 0, .slice none 0 0, .slice none 0 0, .slice none 0 0, .slice none 0 0, .slice none 0 0, .slice none 0 0, .slice none 0 0, .slice none 0 0, .slice none 0 0, .slice none 0 0, .slice none 0 0, .slice none 0 0, .slice none 0 0, .slice none 0 0, .slice none 0 0, .slice none 0 0, .slice none 0 0, .slice none 0 0, .slice none 0 0, .slice none 0 0, .slice none 0 0, .slice none 0 0] := by kernel_rfl
     have HV9 := v6.put noB wZ0
     have HB9 : Below w.heap.size w (w6.setCells w.heap.size 0 (vecL noB wZ0)) := below_putC (Nat.le_refl _) _ _ _ HQB.out
     rw [hzl] at HV9 HB9
     have HV9 := hid HV9
     have HB9 := hid HB9
     have hone : (Z36 : Array Value).all (·.oneCell') = true := by simp [Value.oneCell']
     clear v6 hzl
     go_wp2_with (with_reducible refine wpList_store_mid rfl 52 _ _ rfl w.heap.size 0 Z36 rfl rfl hth (by kernel_rfl) hone ?_)
     exact bodyPost_ret (results_vec rfl _ _ _ noB wZ0 rfl HV9.out) rfl ⟨HB9.out, .inr ⟨HL2.out, rfl⟩⟩
  ·obtain rfl : k = 12 := by omega
   have hki : ¬ ((12 : Nat) : Int) < 12 := by omega
   have hall := q.at_.all
   have hth : wr.there w.heap.size 0 36 := v1.there (by omega)
   have HV9 := hid (v1.put (vecTo h 12).1 ws)
   have HB9 : Hid (Below w.heap.size w (wr.setCells w.heap.size 0 (vecL (vecTo h 12).1 ws))) := hid (below_putC (Nat.le_refl _) _ _ _ q.bel)
   have HO9 : Hid (∀ i, i < 12 → OwnW (wr.setCells w.heap.size 0 (vecL (vecTo h 12).1 ws)) w.heap.size (ws i).1 (ws i).2 (decW h (i : Int)).1 (decW h (i : Int)).2.1) := hid (fun i hi => by
    have h1 := q.own i hi
    rw [if_pos hi] at h1; rw [if_pos hi] at h1
    exact (h1.cells (g := w.heap.size) (by omega) 0 _).base (by omega))
   have HE9 : Hid (vecL (accV h) ws = vecL (vecTo h 12).1 ws) := hid (vecL_congr fun i hi => by rw [vec_row HC.out, decide_eq_true hi, Bool.true_and]; rfl)
   have hone : (vecL (vecTo h 12).1 ws).toArray.all (·.oneCell') = true := vecL_one fun i hi => by obtain ⟨_, _, _, _, _, _, e1, e2⟩ := (q.own i hi).form; rw [e1, e2]; exact ⟨rfl, rfl⟩
   have hth2 : wr.there w.heap.size 0 (vecL (vecTo h 12).1 ws).toArray.size := by rw [show (vecL (vecTo h 12).1 ws).toArray.size = 36 from vecL_len _ _]; exact hth
   have hinf : (Tryz.prog.info? 52).map (·.size) = some (vecL (vecTo h 12).1 ws).toArray.size := by rw [show (vecL (vecTo h 12).1 ws).toArray.size = 36 from vecL_len _ _]; kernel_rfl
   have hinf2 : (Tryz.prog.info? 52).map (·.size) = some (vecL (vecTo h 12).1 ws).length := by rw [vecL_len]; kernel_rfl
   go_wp2_with (first
    | (with_reducible refine wpList_load_mid rfl 52 _ rfl (w.heap.size + 1) 0 rfl (vecL (vecTo h 12).1 ws) _ hall Tryz.underlying52 rfl hinf2 ?_)
    | (with_reducible refine wpList_store_mid rfl 52 _ _ rfl w.heap.size 0 (vecL (vecTo h 12).1 ws).toArray rfl rfl hth2 hinf hone ?_))
   refine bodyPost_ret (results_vec rfl _ _ _ (vecTo h 12).1 ws rfl HV9.out) rfl ⟨HB9.out, .inl ⟨hla, ws, ?_, HO9.out⟩⟩
   rw [HE9.out]; rfl
end

end Go.Proofs.YtmcicfdnmfbimaaGreatDoor
