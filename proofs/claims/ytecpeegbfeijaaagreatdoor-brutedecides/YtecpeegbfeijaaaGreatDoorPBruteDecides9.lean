/- Walks and plain facts that the proof of the statement BruteDecides uses, joined: AxhB AxhC BruJ BruP BruQ BruR BruU BruF AxhG AxhL BruG. Conditions: each theorem's own. -/
import Derived.Deep.CutRange
import Derived.Deep.RegionHeld3
import Derived.OneCell
import Derived.Test.YtecpeegbfeijaaaGreatDoorPBruteDecides0
import Derived.Test.YtecpeegbfeijaaaGreatDoorPBruteDecides1
import Derived.Test.YtecpeegbfeijaaaGreatDoorPBruteDecides2
import Derived.Test.YtecpeegbfeijaaaGreatDoorPBruteDecides3
import Derived.Test.YtecpeegbfeijaaaGreatDoorPBruteDecides5
import Derived.Test.YtecpeegbfeijaaaGreatDoorPBruteDecides6
import Derived.Test.YtecpeegbfeijaaaGreatDoorPBruteDecides8
namespace Go.Proofs.YtecpeegbfeijaaaGreatDoor
set_option maxRecDepth 100000
open Go.RowKit

set_option maxHeartbeats 8000000 in
theorem rlast12_any (va vr vm : Value) (h : List TxnV) (l : List Int) (m : List Pr) (i key : Int) (w : World) (hT : Txns w va h) (hl : Ints w vr l) (hm : Prs w vm m) (hin : ∀ a ∈ l, 0 ≤ a ∧ a < (h.length : Int)) :
    Calls Tryz.prog 172 #[va, vr, vm, .int .i64 i, .int .i64 key] w fun e w' => e = .returned (.int .i64 (lstR h m i key l)) ∧ Below w.heap.size w w' := by
  have CH := Lib.hid (fun (a : Int) wx (hx : Below w.heap.size w wx) => phas_any vm m a i wx (hm.below hx))
  have CW := Lib.hid (fun (j : Nat) (hj : j < h.length) wx (hx : Below w.heap.size w wx) => rwrts8_any va h j key hj wx (hT.below hx))
  have HL := Lib.hid (fun wx (hx : Below w.heap.size w wx) => hl.below hx)
  have HIN := Lib.hid hin
  have HTK := Lib.hid (fun k hk => lstR_take h m i key l k hk)
  have HE : Hid (lstR h m i key (l.take l.length) = lstR h m i key l) := Lib.hid (by rw [List.take_length])
  have H0 : Hid (lstR h m i key (l.take 0) = -1) := Lib.hid rfl
  obtain ⟨ao, cap, rfl, hal⟩ := hT.form
  obtain ⟨ro, rcap, rfl, hrl⟩ := hl.form
  obtain ⟨mo, mcap, rfl, hml⟩ := hm.form
  clear hT hl hm hin
  go_enter Tryz.func172, Tryz.ntmps172
  go_wp2_with fail
  go_loopw [11, 12] (fun ov kv wr => ∃ k : Nat, k ≤ l.length ∧ kv = .int .i64 k ∧ ov = .int .i64 (lstR h m i key (l.take k)) ∧ Below w.heap.size w wr) (fun _ kv _ => l.length - (intOf kv).toNat)
  case atStart => exact ⟨0, by omega, rfl, by rw [H0.out], Below.refl _ _⟩
  case round =>
    obtain ⟨k, hk, rfl, rfl, hb⟩ := hrel
    by_cases hlt : k < l.length
    · have hki : (k : Int) < (l.length : Int) := by omega
      obtain ⟨g, o, hao, e0⟩ := (HL.out _ hb).at hlt
      cases hao
      have HS := Lib.hid (HTK.out k hlt)
      have hr := HIN.out _ (List.getElem_mem hlt)
      obtain ⟨j, hj⟩ : ∃ j : Nat, l[k] = (j : Int) := ⟨l[k].toNat, by omega⟩
      rw [hj] at e0 HS hr
      rw [Int.toNat_natCast] at HS
      have hjn : j < h.length := by omega
      have D1 := Lib.hid (CH.out (j : Int) _ hb)
      have D2 := Lib.hid (CW.out j hjn _ hb)
      generalize hasP m (j : Int) i = p1 at *
      generalize wrsR h j key = p2 at *
      generalize lstR h m i key (l.take k) = f0 at *
      clear CH CW HTK hj
      go_wp2_with fail
      refine (D1.out).mono ?_
      rintro e w1 ⟨rfl, rfl⟩
      cases p1 with
      | false =>
        have HN : Hid (lstR h m i key (l.take (k + 1)) = f0) := Lib.hid (by rw [HS.out]; rfl)
        go_wp2_with fail
        go_roundw
        case rel => exact ⟨k + 1, by omega, by go_num, by rw [HN.out], hb⟩
        case measure => simp [intOf]; omega
      | true =>
        go_wp2_with fail
        refine (D2.out).mono ?_
        rintro e w2 ⟨rfl, h2⟩
        have e1 := (h2.cell (p := ⟨g, o + k, none⟩) (block_lt e0)).trans e0
        have hb2 := below_then hb h2
        clear e0 hb h2
        cases p2 with
        | false =>
          have HN : Hid (lstR h m i key (l.take (k + 1)) = f0) := Lib.hid (by rw [HS.out]; rfl)
          go_wp2_with fail
          go_roundw
          case rel => exact ⟨k + 1, by omega, by go_num, by rw [HN.out], hb2⟩
          case measure => simp [intOf]; omega
        | true =>
          have HN : Hid (lstR h m i key (l.take (k + 1)) = (j : Int)) := Lib.hid (by rw [HS.out]; rfl)
          go_wp2_with fail
          go_roundw
          case rel => exact ⟨k + 1, by omega, by go_num, by rw [HN.out], hb2⟩
          case measure => simp [intOf]; omega
    · have hkn : k = l.length := by omega
      subst hkn
      go_wp2_with fail
      go_ret
      exact ⟨congrArg (fun q => Ending.returned (Value.int .i64 q)) HE.out, hb⟩
theorem all_no {α : Type} {p : α → Bool} {l : List α} {a : α} (ha : a ∈ l) (h : p a = false) : l.all p = false := by
  rw [List.all_eq_false]; exact ⟨a, ha, by rw [h]; decide⟩
theorem all_take {α : Type} {p : α → Bool} {l : List α} {k : Nat} (hk : k < l.length) (h : (l.take k).all p = true) (h1 : p l[k] = true) : (l.take (k + 1)).all p = true := by
  rw [List.take_succ_eq_append_getElem hk, List.all_append, h]; simp [h1]
theorem all_rng {p : Nat → Bool} {k : Nat} (h : (List.range k).all p = true) (h1 : p k = true) : (List.range (k + 1)).all p = true := by
  rw [List.range_succ, List.all_append, h]; simp [h1]
set_option maxHeartbeats 16000000 in
theorem rright12_any (va vr vm : Value) (h : List TxnV) (l : List Int) (m : List Pr) (w : World) (hn : h.length ≤ 64) (hT : Txns w va h) (hl : Ints w vr l) (hm : Prs w vm m) :
    Calls Tryz.prog 129 #[va, vr, vm] w fun e w' => e = .returned (.bool (rightR h l m)) ∧ Below w.heap.size w w' := by
  have CR := Lib.hid (rrow12_any h.length vr l w (by omega) hl)
  have CP := Lib.hid (fun (a : Int) wx (hx : Below w.heap.size w wx) => rplace_any vr l a wx (hl.below hx))
  have CL := Lib.hid (fun (hin : ∀ a ∈ l, 0 ≤ a ∧ a < (h.length : Int)) (i key : Int) wx (hx : Below w.heap.size w wx) => rlast12_any va vr vm h l m i key wx (hT.below hx) (hl.below hx) (hm.below hx) hin)
  have CD := Lib.hid (fun (i : Nat) (hi : i < h.length) wx (hx : Below w.heap.size w wx) => rreads8_any va h i hi wx (hT.below hx))
  have HM := Lib.hid (fun wx (hx : Below w.heap.size w wx) => hm.below hx)
  have HR : Hid (rightR h l m = (rowRef12 h.length l && (m.all (pairOkR l) && (List.range h.length).all fun (i : Nat) => (rdR h (i : Int) (refReads (opsAt h i))).all (rdOkR h l m i)))) := Lib.hid rfl
  have HF := Lib.hid (fun hr : rowRef12 h.length l = true => full_of_row hr)
  obtain ⟨ao, cap, rfl, hal⟩ := hT.form
  obtain ⟨ro, rcap, rfl, hrl⟩ := hl.form
  obtain ⟨mo, mcap, rfl, hml⟩ := hm.form
  clear hT hl hm hn
  generalize rightR h l m = z at *
  go_enter Tryz.func129, Tryz.ntmps129
  go_wp2_with fail
  refine (CR.out).mono ?_
  rintro e w1 ⟨rfl, rfl⟩
  cases hrow : rowRef12 h.length l with
  | false =>
    rw [hrow] at HR
    go_wp2_with fail
    go_ret
    exact ⟨ret_b (by rw [HR.out]; rfl), Below.refl _ _⟩
  | true =>
    have HIN := Lib.hid (fun a ha => ((HF.out hrow).2 a).1 ha)
    rw [hrow, Bool.true_and] at HR
    clear HF CR hrow
    go_wp2_with fail
    go_loopw [7] (fun kv wr => ∃ k : Nat, k ≤ m.length ∧ kv = .int .i64 k ∧ Hid ((m.take k).all (pairOkR l) = true) ∧ Below w.heap.size w wr) (fun kv _ => m.length - (intOf kv).toNat)
    case atStart => exact ⟨0, by omega, rfl, Lib.hid rfl, Below.refl _ _⟩
    case round =>
      obtain ⟨k, hk, rfl, HA, hb⟩ := hrel
      by_cases hlt : k < m.length
      · have hki : (k : Int) < (m.length : Int) := by omega
        obtain ⟨g, o, hao, c1, c2⟩ := (HM.out _ hb).at hlt
        cases hao
        have HY := Lib.hid (fun hp : pairOkR l m[k] = true => all_take hlt HA.out hp)
        have HNO := Lib.hid (fun hp : pairOkR l m[k] = false => show z = false by rw [HR.out, all_no (List.getElem_mem hlt) hp]; rfl)
        have HP : Hid (pairOkR l m[k] = (decide (0 ≤ placeI l m[k].1) && (decide (0 ≤ placeI l m[k].2) && decide (placeI l m[k].1 < placeI l m[k].2)))) := Lib.hid rfl
        have D1 := Lib.hid (CP.out m[k].1 _ hb)
        have D2 := Lib.hid (CP.out m[k].2 _ hb)
        generalize pairOkR l m[k] = q at *
        generalize placeI l m[k].1 = x at *
        generalize placeI l m[k].2 = y at *
        generalize m[k].1 = m1 at *
        generalize m[k].2 = m2 at *
        clear HA CP CL CD
        go_wp2_with fail
        refine (D1.out).mono ?_
        rintro e w1 ⟨rfl, rfl⟩
        go_wp2_with fail
        refine (D2.out).mono ?_
        rintro e w1 ⟨rfl, rfl⟩
        by_cases hx : x < 0
        · have HV : Hid (false = z) := Lib.hid (HNO.out (by rw [HP.out, decide_eq_false (by omega)]; rfl)).symm
          clear HY HNO HP
          go_wp2_with fail
          go_ret
          exact ⟨ret_b HV.out, hb⟩
        by_cases hy : y < 0
        · have HV : Hid (false = z) := Lib.hid (HNO.out (by rw [HP.out, decide_eq_false (show ¬ 0 ≤ y by omega), Bool.false_and, Bool.and_false])).symm
          clear HY HNO HP
          go_wp2_with fail
          go_ret
          exact ⟨ret_b HV.out, hb⟩
        by_cases hxy : x < y
        · have hle : ¬ y ≤ x := by omega
          have HV := Lib.hid (HY.out (by rw [HP.out, decide_eq_true (show 0 ≤ x by omega), decide_eq_true (show 0 ≤ y by omega), decide_eq_true hxy]; rfl))
          clear HY HNO HP
          go_wp2_with fail
          go_roundw
          case rel => exact ⟨k + 1, by omega, by go_num, HV, hb⟩
          case measure => simp [intOf]; omega
        · have hle : y ≤ x := by omega
          have HV : Hid (false = z) := Lib.hid (HNO.out (by rw [HP.out, decide_eq_false hxy, Bool.and_false, Bool.and_false])).symm
          clear HY HNO HP
          go_wp2_with fail
          go_ret
          exact ⟨ret_b HV.out, hb⟩
      · have hkn : k = m.length := by omega
        subst hkn
        have hA := HA.out
        rw [List.take_length] at hA
        rw [hA, Bool.true_and] at HR
        clear HA hA CP HM hlt hk
        go_wp2_with fail
        go_loopw [10] (fun iv wr => ∃ i : Nat, i ≤ h.length ∧ iv = .int .i64 i ∧ Hid (((List.range i).all fun (i : Nat) => (rdR h (i : Int) (refReads (opsAt h i))).all (rdOkR h l m i)) = true) ∧ Below w.heap.size w wr) (fun iv _ => h.length - (intOf iv).toNat)
        case atStart => exact ⟨0, by omega, rfl, Lib.hid rfl, hb⟩
        case round =>
          clear hb
          obtain ⟨i, hi, rfl, HA, hb⟩ := hrel
          by_cases hlt : i < h.length
          · have hii : (i : Int) < (h.length : Int) := by omega
            have DD := Lib.hid (CD.out i hlt _ hb)
            have HL := Lib.hid (show rdR h (i : Int) (refReads (opsAt h i)) = rdR h (i : Int) (refReads h[i].l) by rw [opsAt_eq hlt])
            have HY := Lib.hid (fun hp : (rdR h (i : Int) (refReads h[i].l)).all (rdOkR h l m i) = true => all_rng (p := fun (i : Nat) => (rdR h (i : Int) (refReads (opsAt h i))).all (rdOkR h l m i)) HA.out (by show (rdR h (i : Int) (refReads (opsAt h i))).all (rdOkR h l m i) = true; rw [HL.out]; exact hp))
            have HNO := Lib.hid (fun hp : (rdR h (i : Int) (refReads h[i].l)).all (rdOkR h l m i) = false => show z = false by rw [HR.out]; exact all_no (p := fun (i : Nat) => (rdR h (i : Int) (refReads (opsAt h i))).all (rdOkR h l m i)) (List.mem_range.2 hlt) (by show (rdR h (i : Int) (refReads (opsAt h i))).all (rdOkR h l m i) = false; rw [HL.out]; exact hp))
            clear HA HL CD
            generalize rdR h (i : Int) (refReads h[i].l) = L at *
            go_wp2_with fail
            refine (DD.out).mono ?_
            rintro e w2 ⟨v2, rfl, hO2, h2⟩
            have hL : Frs w2 v2 L := Row.of_owns hO2
            obtain ⟨a2, cap2, rfl, hll⟩ := hL.form
            have hb2 := below_then hb h2
            clear DD hO2 hb h2
            go_wp2_with fail
            go_loopw [12] (fun kv wr => ∃ k : Nat, k ≤ L.length ∧ kv = .int .i64 k ∧ Hid ((L.take k).all (rdOkR h l m i) = true) ∧ Below w.heap.size w wr ∧ Below w2.heap.size w2 wr) (fun kv _ => L.length - (intOf kv).toNat)
            case atStart => exact ⟨0, by omega, rfl, Lib.hid rfl, hb2, Below.refl _ _⟩
            case round =>
              clear hb2
              obtain ⟨k, hk, rfl, HA, hb, hb1⟩ := hrel
              by_cases hlk : k < L.length
              · have hkk : (k : Int) < (L.length : Int) := by omega
                obtain ⟨g, o, hao, d1, d2⟩ := (hL.below hb1).at hlk
                cases hao
                have HYY := Lib.hid (fun hp : rdOkR h l m i L[k] = true => all_take hlk HA.out hp)
                have HNN := Lib.hid (fun hp : rdOkR h l m i L[k] = false => HNO.out (all_no (List.getElem_mem hlk) hp))
                have HQ : Hid (rdOkR h l m i L[k] = decide (lstR h m (i : Int) L[k].1 l = L[k].2)) := Lib.hid rfl
                have DL := Lib.hid (fun wx (hx : Below w.heap.size w wx) => CL.out HIN.out (i : Int) L[k].1 wx hx)
                generalize rdOkR h l m i L[k] = q at *
                generalize lstR h m (i : Int) L[k].1 l = x at *
                generalize L[k].1 = y at *
                generalize L[k].2 = t at *
                clear HA CL HY HNO
                have hlo := block_lt d1
                simp only at hlo
                go_wp2_with fail
                have kk := Below.refl wr.heap.size wr
                go_region_held3 (fun w' => w'.cell? ⟨g, o + k * 2, none⟩ = some (.int .i64 y) ∧ w'.cell? ⟨g, o + k * 2 + 1, none⟩ = some (.int .i64 t))
                  (go_keep)
                  (first
                    | (go_at_call 172; refine (DL.out _ (below_then hb (by first | exact kk | exact kk.drew | exact below_drewN kk _))).mono ?_; rintro e wx ⟨rfl, hbx⟩; have kk : Below wr.heap.size wr wx := (by first | exact below_then kk hbx | exact below_then kk ⟨hbx.os, hbx.tape, hbx.output, hbx.size, hbx.block⟩); have d1 := (kk.cell (p := ⟨g, o + k * 2, none⟩) hlo).trans d1; have d2 := (kk.cell (p := ⟨g, o + k * 2 + 1, none⟩) hlo).trans d2))
                have hb4 := below_then hb kk
                have hb5 := below_then hb1 kk
                clear DL hbx hb hb1
                by_cases hxt : x = t
                · have HV := Lib.hid (HYY.out (by rw [HQ.out, decide_eq_true hxt]))
                  subst hxt
                  clear HYY HNN HQ
                  go_wp2_with fail
                  go_roundw
                  case rel => exact ⟨k + 1, by omega, by go_num, HV, hb4, hb5⟩
                  case measure => simp [intOf]; omega
                · have HV : Hid (false = z) := Lib.hid (HNN.out (by rw [HQ.out, decide_eq_false hxt])).symm
                  clear HYY HNN HQ
                  go_wp2_with fail
                  go_ret
                  exact ⟨ret_b HV.out, hb4⟩
              · have hkn : k = L.length := by omega
                subst hkn
                have HV := Lib.hid (HY.out (by have := HA.out; rwa [List.take_length] at this))
                clear HY HNO HA
                go_wp2_with fail
                go_roundw
                case rel => exact ⟨i + 1, by omega, by go_num, HV, hb⟩
                case measure => simp [intOf]; omega
          · have hin : i = h.length := by omega
            subst hin
            have HV : Hid (true = z) := Lib.hid (by rw [HR.out]; exact HA.out.symm)
            go_wp2_with fail
            go_ret
            exact ⟨ret_b HV.out, hb⟩
end Go.Proofs.YtecpeegbfeijaaaGreatDoor

namespace Go.Proofs.YtecpeegbfeijaaaGreatDoor
set_option maxRecDepth 100000
open Go.RowKit

theorem lv_lt {lv : Int} (h : isLv lv = true) : 0 ≤ lv ∧ lv < 12 := by unfold isLv at h; exact of_decide_eq_true h
theorem full_ref {n : Nat} {row : List Nat} (hp : row.Perm (List.range n)) (hn : n ≤ 64) : rowRef12 n (row.map Int.ofNat) = true := by
  rw [← row_same n hn]; exact row_perm hn hp
/-- What the document's In says, of an order of all. -/
theorem kept_right {h : List TxnV} (hc : checkI h = 0) {lv : Int} {row : List Nat} {m : List Pr} (hp : row.Perm (List.range h.length)) (hlv : isLv lv = true) (hs : soundTo h h.length = true) (hL : LeaL h (askN lv) (row.map Int.ofNat) h.length m) :
    rightR h (row.map Int.ofNat) m = keptL h lv row ∧ ∀ R, LeastIs h (askN lv) (row.map Int.ofNat) R → Rep R m := by
  have hx := askN_lt lv
  have hR : ∀ R, LeastIs h (askN lv) (row.map Int.ofNat) R → Rep R m := fun R hR => lea_rep hc (full_of_perm hp) hx (by omega) (fun _ _ => rfl) hL hR
  refine ⟨?_, hR⟩
  obtain ⟨R, hRl⟩ := least_some h (askN lv) (row.map Int.ofNat)
  rw [← kept_holds hc lv hp hRl, ← right_same hc (hR R hRl)]
  unfold holdsB
  rw [hlv, hs, least_kept hx hRl]
  simp
set_option maxRecDepth 100000 in
set_option maxHeartbeats 8000000 in
theorem rin13_any (va vr : Value) (h : List TxnV) (lv : Int) (row : List Nat) (w : World) (hc : checkI h = 0) (hp : row.Perm (List.range h.length)) (hT : Txns w va h) (hl : Ints w vr (row.map Int.ofNat)) :
    Calls Tryz.prog 76 #[va, .int .i64 lv, vr] w fun e w' => (∃ v, e = .returned (.tuple #[v, .bool (keptL h lv row)]) ∧ (keptL h lv row = true → ∃ m, Prs w' v m ∧ ∀ R, LeastIs h (askN lv) (row.map Int.ofNat) R → Rep R m)) ∧ Below w.heap.size w w' := by
  have h64 := (check_zero hc).1
  obtain ⟨ro, rcap, rfl, hrl⟩ := hl.form
  rw [List.length_map] at hl ⊢
  have CR := Lib.hid (rrow12_any h.length (.slice ro row.length rcap) (row.map Int.ofNat) w (by omega) hl)
  rw [full_ref hp h64] at CR
  have CS := Lib.hid (rsound_any va h hc w hT)
  have CA := Lib.hid (fun wx => rl_asks lv wx)
  have CO := Lib.hid (fun wx (hx : Below w.heap.size w wx) => rof11_any va (.slice ro row.length rcap) h (askN lv) (askN_lt lv) (row.map Int.ofNat) wx h64 (hT.below hx) (hl.below hx))
  have CG := Lib.hid (fun vm m wx (hx : Below w.heap.size w wx) (hm : Prs wx vm m) => rright12_any va (.slice ro row.length rcap) vm h (row.map Int.ofNat) m wx h64 (hT.below hx) (hl.below hx) hm)
  have HK := Lib.hid (fun m hlv hs hL => kept_right (lv := lv) (m := m) hc hp hlv hs hL)
  have HF : Hid (isLv lv = false → keptL h lv row = false) := Lib.hid (fun h => by unfold keptL; rw [h]; rfl)
  have HS : Hid (soundTo h h.length = false → keptL h lv row = false) := Lib.hid (fun h => by unfold keptL; rw [h, Bool.false_and, Bool.and_false])
  obtain ⟨ao, cap, rfl, hal⟩ := hT.form
  cases hlv : isLv lv with
  | false =>
    have HV := Lib.hid (HF.out hlv)
    have hr : lv < 0 ∨ (¬ lv < 0 ∧ 11 < lv) := by unfold isLv at hlv; rw [decide_eq_false_iff_not] at hlv; omega
    clear CR CS CA CO CG HK HF HS hlv hT hl
    rw [HV.out]
    rcases hr with hr | ⟨hr, hr2⟩
    all_goals
      go_enter Tryz.func76, Tryz.ntmps76
      go_wp2_with fail
      go_ret2
      first | exact ⟨⟨_, rfl, fun h => (by cases h)⟩, Below.refl _ _⟩ | exact ⟨⟨_, rfl⟩, Below.refl _ _⟩
  | true =>
    obtain ⟨h0, h1⟩ := lv_lt hlv
    cases hs : soundTo h h.length with
    | false =>
      have HV := Lib.hid (HS.out hs)
      rw [hs] at CS
      clear CA CO CG HK HF HS hlv hT hl hs
      rw [HV.out]
      go_enter Tryz.func76, Tryz.ntmps76
      go_wp2_with fail
      refine CR.out.mono ?_
      rintro e wq ⟨rfl, rfl⟩
      go_wp2_with fail
      refine CS.out.mono ?_
      rintro e w1 ⟨rfl, hb1⟩
      go_wp2_with fail
      go_ret2
      exact ⟨⟨_, rfl, fun h => (by cases h)⟩, hb1⟩
    | true =>
      have HK := Lib.hid (fun m => HK.out m hlv hs)
      rw [hs] at CS
      clear HF HS hlv hT hl hs
      generalize keptL h lv row = z at *
      go_enter Tryz.func76, Tryz.ntmps76
      go_wp2_with fail
      refine CR.out.mono ?_
      rintro e wq ⟨rfl, rfl⟩
      go_wp2_with fail
      refine CS.out.mono ?_
      rintro e w1 ⟨rfl, hb1⟩
      have CO1 := Lib.hid (CO.out _ hb1)
      go_wp2_with fail
      refine (CA.out _).mono ?_
      rintro e wq ⟨rfl, rfl⟩
      go_wp2_with fail
      refine CO1.out.mono ?_
      rintro e w2 ⟨v, m, rfl, hm, hL, hb2⟩
      have hb2 := below_then hb1 hb2
      have HM := Lib.hid (HK.out m hL)
      have CG2 := Lib.hid (CG.out v m w2 hb2 hm)
      rw [HM.out.1] at CG2
      have HP := Lib.hid hm
      clear hm hL CO CO1 CG
      go_wp2_with fail
      refine CG2.out.mono ?_
      rintro e w3 ⟨rfl, hb3⟩
      have HP3 := Lib.hid (HP.out.below hb3)
      go_wp2_with fail
      go_ret2
      exact ⟨⟨_, rfl, fun _ => ⟨m, HP3.out, HM.out.2⟩⟩, below_then hb2 hb3⟩
end Go.Proofs.YtecpeegbfeijaaaGreatDoor

namespace Go.Proofs.YtecpeegbfeijaaaGreatDoor
set_option maxRecDepth 100000
open Go.RowKit

theorem ahead_pos {i j : Nat} : ∀ {L : List Nat}, Ahead (L.map Int.ofNat) (i : Int) (j : Int) → ∃ (p q : Nat) (h1 : p < q) (h2 : q < L.length), L[p] = i ∧ L[q] = j
  | [], h => by cases h
  | a :: L, h => by
    rcases h with h | ⟨e, hj⟩
    rotate_left
    · obtain ⟨b, hb, e2⟩ := List.mem_map.1 hj
      obtain ⟨q, hq, e3⟩ := List.getElem_of_mem hb
      exact ⟨0, q + 1, by omega, by simp; omega, Int.ofNat.inj e, by simp [e3]; exact Int.ofNat.inj e2⟩
    · obtain ⟨p, q, h1, h2, e1, e2⟩ := ahead_pos h
      exact ⟨p + 1, q + 1, by omega, by simp; omega, by simpa using e1, by simpa using e2⟩
section
variable {h : List TxnV} {lv : Int} {L : List Nat}
end
end Go.Proofs.YtecpeegbfeijaaaGreatDoor

namespace Go.Proofs.YtecpeegbfeijaaaGreatDoor
set_option maxRecDepth 100000
open Go.RowKit

set_option maxHeartbeats 8000000 in
theorem rall_any (n : Nat) (hn : n ≤ 1000) (w : World) :
    Calls Tryz.prog 71 #[.int .i64 (n : Int)] w fun e w' => (∃ v, e = .returned v ∧ Ints w' v ((List.range n).map Int.ofNat)) ∧ Below w.heap.size w w' := by
  obtain ⟨i0, hi, hz0, hz1, hz2⟩ := info_parts infoInt
  have hlit : (w.alloc (.cells #[] 3)).ownsRow w.heap.size 3 1 (.slice (some ⟨w.heap.size, 0, none⟩) 0 0) 0 ((List.range 0).map fun i : Nat => Value.int .i64 (i : Int)) := World.ownsRow_lit (size := 1) _ _ _ (Nat.le_refl _) (by simp) (by simp)
  have hb0 := box_below w (.cells #[] 3)
  go_enter Tryz.func71, Tryz.ntmps71
  go_wp2_with fail
  generalize w.alloc (.cells #[] 3) = w0 at *
  go_loopw [3, 4] (fun v i wr => ∃ k : Nat, k ≤ n ∧ i = .int .i64 k ∧ wr.ownsRow w.heap.size 3 1 v k ((List.range k).map fun i : Nat => Value.int .i64 (i : Int)) ∧ Below w.heap.size w wr) (fun _ i _ => n - (intOf i).toNat)
  case atStart => exact ⟨0, by omega, rfl, hlit, hb0⟩
  case round =>
    clear hlit hb0
    obtain ⟨k, hk, rfl, hown, hb⟩ := hrel
    by_cases hlt : k < n
    · have hki : (k : Int) < (n : Int) := by omega
      have HR : Hid ((List.range (k + 1)).map (fun i : Nat => Value.int .i64 (i : Int)) = (List.range k).map (fun i : Nat => Value.int .i64 (i : Int)) ++ [.int .i64 (k : Int)]) := Lib.hid (by rw [List.range_succ, List.map_append]; rfl)
      generalize (List.range k).map (fun i : Nat => Value.int .i64 (i : Int)) = xs at *
      go_wp2_with (at_builtin; refine wpList_append_own _ rfl _ _ 29 rfl w.heap.size 3 i0 (.int .i64 0) 1 8 Tryz.underlying29 hi hz0 hz1 hz2 rfl (by decide) _ _ _ rfl (hown.alloc _) ⟨_, 0, none⟩ 1 1 [.int .i64 (k : Int)] rfl rfl ?c1 ?c2 ?c3 ?c4 ?c5 ?_)
      try case c1 => exact cell_one_new _ _ _
      case c2 => first | rfl | (intro u hu; simp at hu; subst hu; rfl)
      case c3 => unfold maxLen; omega
      case c4 => omega
      case c5 => have := hb.size; simp; omega
      intro v6 w6 hown6 hg6 _
      have hsz := hb.size
      have hb6 : Below w.heap.size w w6 := hb.trans (below_app (Below.refl _ _) hsz hown hg6)
      clear hown hg6 hb
      go_wp2_with fail
      go_roundw
      case rel => exact ⟨k + 1, by omega, by go_num, by rw [HR.out]; exact hown6, hb6⟩
      case measure => simp [intOf]; omega
    · have hkn : k = n := by omega
      subst hkn
      have hI : Ints wr u3 ((List.range k).map Int.ofNat) := Ints.of_nats hown
      clear hown hlt
      go_wp2_with fail
      go_ret
      exact ⟨⟨_, rfl, hI⟩, hb⟩
set_option maxHeartbeats 8000000 in
theorem rwithout_any (vl : Value) (L : List Nat) (j : Nat) (w : World) (hI : Ints w vl (L.map Int.ofNat)) (hjl : j < L.length) (hn : L.length ≤ 1000) :
    Calls Tryz.prog 125 #[vl, .int .i64 (j : Int)] w fun e w' => (∃ v, e = .returned v ∧ Ints w' v ((L.take j ++ L.drop (j + 1)).map Int.ofNat)) ∧ Below w.heap.size w w' := by
  obtain ⟨i0, hi, hz0, hz1, hz2⟩ := info_parts infoInt
  obtain ⟨lo, lcap, rfl, ⟨hlc, hlm⟩, hno⟩ := hI.full
  rw [List.length_map] at hlc hno
  rw [List.length_map] at hI ⊢
  obtain ⟨g, o, hgo, hcj⟩ := ints_at hI hjl
  cases hgo
  have hji : (j : Int) < (L.length : Int) := by omega
  have hW : Below w.heap.size w (w.drew.alloc (.cells #[] 3)) := (⟨rfl, rfl, rfl, Nat.le_refl _, fun _ _ => rfl⟩ : Below w.heap.size w w.drew).alloc (Nat.le_refl _) _
  have HOW := Lib.hid (World.ownsRow_made (base := w.heap.size) (e := 3) (size := 1) w.drew #[] 0 (Nat.le_refl _) (by decide) rfl)
  obtain ⟨A, hA, HC2⟩ : ∃ A : Addr, (if lcap = j + 1 then some (⟨g, o, none⟩ : Addr) else some ⟨g, o + (j + 1), none⟩) = some A ∧ Hid (∀ w7, Below w.heap.size w w7 → ∀ i u, ((L.drop (j + 1)).map fun i : Nat => Value.int .i64 (i : Int))[i]? = some u → w7.cell? (A.add i) = some u) := by
    by_cases h : lcap = j + 1
    · refine ⟨⟨g, o, none⟩, by simp [h], fun w7 hb7 i u hu => ?_⟩
      rw [List.drop_eq_nil_of_le (by omega)] at hu
      simp at hu
    · exact ⟨⟨g, o + (j + 1), none⟩, by simp [h], fun w7 hb7 => (hI.below hb7).news (j + 1)⟩
  have HC1 : Hid (∀ i u, ((L.take j).map fun i : Nat => Value.int .i64 (i : Int))[i]? = some u → (w.drew.alloc (.cells #[] 3)).cell? ((⟨g, o, none⟩ : Addr).add i) = some u) := Lib.hid (fun i u hu => by
    have hi : i < j := by
      have := (List.getElem?_eq_some_iff.1 hu).1
      simp at this; omega
    refine (hI.below hW).news 0 i u ?_
    rw [List.drop_zero, ← hu, List.map_take, List.getElem?_take, if_pos hi])
  have s1 : Hid (((L.take j).map fun i : Nat => Value.int .i64 (i : Int)).length = j * 1) := Lib.hid (by simp; omega)
  have s2 : Hid (∀ u ∈ ((L.take j).map fun i : Nat => Value.int .i64 (i : Int)), u.oneCell' = true) := Lib.hid (fun u hu => by
    obtain ⟨x, _, rfl⟩ := List.mem_map.1 hu
    rfl)
  have t1 : Hid (((L.drop (j + 1)).map fun i : Nat => Value.int .i64 (i : Int)).length = (L.length - (j + 1)) * 1) := Lib.hid (by simp)
  have t2 : Hid (∀ u ∈ ((L.drop (j + 1)).map fun i : Nat => Value.int .i64 (i : Int)), u.oneCell' = true) := Lib.hid (fun u hu => by
    obtain ⟨x, _, rfl⟩ := List.mem_map.1 hu
    rfl)
  have HS5 : Hid (w.heap.size ≤ (w.drew.alloc (.cells #[] 3)).heap.size) := Lib.hid hW.size
  have HB7 : Hid (∀ w7, (w.drew.alloc (.cells #[] 3)).grownBy w7 (some w.heap.size) → Below w.heap.size w w7) := Lib.hid (fun w7 hg => hW.grown hg hW.size (fun k hk => by cases hk; exact Nat.le_refl _))
  have hjc : j ≤ lcap := by omega
  have hwr : IntKind.i64.wrap ((j : Int) + 1) = (j : Int) + 1 := by rw [IntKind.wrap_i64]; omega
  have hp0 : (0 : Int) ≤ (j : Int) + 1 := by omega
  have hp1 : (j : Int) + 1 ≤ (L.length : Int) := by omega
  have hp2 : ((j : Int) + 1).toNat = j + 1 := by omega
  clear hI hW hcj hno
  go_enter Tryz.func125, Tryz.ntmps125
  go_wp2_with fail
  go_region_law (first
    | (refine step_append_own _ rfl (.tmp 9) (.tmp 13) 29 rfl w.heap.size 3 i0 (.int .i64 0) 1 8 Tryz.underlying29 hi hz0 hz1 hz2 rfl (by decide) v7 (0 + j) _ (by simp [Act.eval]) hown7 A (L.length - (j + 1)) (lcap - (j + 1)) _ (by simp [Act.eval]) t1.out (HC2.out _ (HB7.out _ hg7)) t2.out (by unfold maxLen; omega) (by omega) (Nat.le_trans HS5.out hg7.size) ?_
       intro v8 w8 hown8 hg8)
    | (refine step_append_own _ rfl (.tmp 5) (.tmp 8) 29 rfl w.heap.size 3 i0 (.int .i64 0) 1 8 Tryz.underlying29 hi hz0 hz1 hz2 rfl (by decide) _ 0 [] (by simp [Act.eval]) HOW.out ⟨g, o, none⟩ j lcap _ (by simp [Act.eval]) s1.out HC1.out s2.out (by unfold maxLen; omega) (by omega) HS5.out ?_
       intro v7 w7 hown7 hg7))
  all_goals have hb8 : Below w.heap.size w w8 := (HB7.out _ hg7).trans ((Below.refl _ _).grown hg8 (Nat.le_trans HS5.out hg7.size) (fun k hk => (hown7.lt k hk).1))
  all_goals have hI8 : Ints w8 v8 ((L.take j ++ L.drop (j + 1)).map Int.ofNat) := Ints.of_nats (base := w.heap.size) (e := 3) (n := 0 + j + (L.length - (j + 1))) (by rw [List.map_append]; exact hown8)
  all_goals clear HB7 HC1 HC2 HOW hown7 hg7 hown8 hg8
  all_goals go_simp
  all_goals go_wp2
  all_goals go_ret
  all_goals exact ⟨⟨_, rfl, hI8⟩, hb8⟩
end Go.Proofs.YtecpeegbfeijaaaGreatDoor

namespace Go.Proofs.YtecpeegbfeijaaaGreatDoor
set_option maxRecDepth 100000
open Go.RowKit Go.Shelf
attribute [local go_sem] Oper.semAt_some

/-- As many orders as keep a level; -1 of too many transactions. -/
def countI (h : List TxnV) (lv : Int) : Int := if h.length ≤ 8 then (((ordersN h.length).countP (keptL h lv) : Nat) : Int) else -1
/-- One order: whether a level is kept by it. -/
theorem bin_kept (lv : Int) (va : Value) (r : List Nat) (h : List TxnV) (B b : Nat) (w : World) (hO : OrdIs w B b h) (hc : checkI h = 0) (ht : Tab w) (hK : Kinds w) (hl : Ints w va (r.map Int.ofNat)) (hr : r ∈ ordersN h.length) :
    Calls Tryz.prog 68 #[.pointer (some ⟨B, 0, none⟩), .int .i64 lv, va] w fun e w' => (∃ X, (keptL h lv r = true → LeastIs h (askN lv) (r.map Int.ofNat) X) ∧ e = .returned (.tuple #[.agg (rowsA X), .bool (keptL h lv r)])) ∧ Below w.heap.size w w' := by
  refine (bin_any lv va (r.map Int.ofNat) h B b w hO hc ht hK hl).mono ?_
  rintro e w' ⟨⟨R, hR, rfl⟩, hb⟩
  have e1 := kept_holds hc lv (orders_perm hr) hR
  refine ⟨⟨inR h lv (r.map Int.ofNat) R, fun hk => ?_, by rw [e1]⟩, hb⟩
  unfold inR
  rw [if_pos (by rw [e1]; exact hk)]
  exact hR
/-- What stands in the loop's own cells. -/
structure CntI (s B : Nat) (lv : Int) (c : Nat) (w W : World) : Prop where
  c0 : W.cell? ⟨s, 0, none⟩ = some (.pointer (some ⟨B, 0, none⟩))
  c1 : W.cell? ⟨s + 1, 0, none⟩ = some (.int .i64 lv)
  c2 : W.cell? ⟨s + 1 + 1, 0, none⟩ = some (.int .i64 (c : Int))
  f2 : W.frozen? ⟨s + 1 + 1, 0, none⟩ = false
  bel : Below s w W
theorem CntI.below {s B : Nat} {lv : Int} {c D : Nat} {w W W' : World} (q : CntI s B lv c w W) (hb : Below D W W') (hD : s + 4 ≤ D) : CntI s B lv c w W' :=
  ⟨(hb.cell (p := ⟨s, 0, none⟩) (by show s < D; omega)).trans q.c0, (hb.cell (p := ⟨s + 1, 0, none⟩) (by show s + 1 < D; omega)).trans q.c1, (hb.cell (p := ⟨s + 1 + 1, 0, none⟩) (by show s + 1 + 1 < D; omega)).trans q.c2, (hb.frozen (p := ⟨s + 1 + 1, 0, none⟩) (by show s + 1 + 1 < D; omega)).trans q.f2, q.bel.trans (hb.mono (by omega))⟩
theorem CntI.more {s B : Nat} {lv : Int} {c : Nat} {w W : World} (q : CntI s B lv c w W) (c' : Nat) : CntI s B lv c' w (W.setCell ⟨s + 1 + 1, 0, none⟩ (.int .i64 (c' : Int))) := by
  refine ⟨?_, ?_, World.cell?_setCell_same _ _ _ q.c2, by rw [World.frozen?_setCell]; exact q.f2, q.bel.setCell (p := ⟨s + 1 + 1, 0, none⟩) (by show s ≤ s + 1 + 1; omega) _⟩
  · rw [World.cell?_setCell_other _ _ _ _ (by simp)]; exact q.c0
  · rw [World.cell?_setCell_other _ _ _ _ (by simp)]; exact q.c1
theorem exts_len (many : Nat) : ∀ (k : Nat) (r : List Nat), (exts many k r).length ≤ many ^ k
  | 0, r => by simp [exts]
  | k + 1, r => by
    have key : ∀ j, (extsTo many k r j).length ≤ j * many ^ k := by
      intro j
      induction j with
      | zero => rw [extsTo_zero]; simp
      | succ j ih =>
        rw [extsTo_succ, List.length_append, Nat.succ_mul]
        refine Nat.add_le_add ih ?_
        split
        · simp
        · exact exts_len many k _
    rw [exts_all, Nat.pow_succ, Nat.mul_comm]
    exact key many
theorem pre_len {n : Nat} (h8 : n ≤ 8) {pre : List (List Nat)} {r : List Nat} (hp : (pre ++ [r]) <+: ordersN n) (p : List Nat → Bool) : pre.countP p ≤ 16777216 := by
  have h1 := hp.length_le
  have h2 := exts_len n n []
  have h3 : n ^ n ≤ 8 ^ 8 := Nat.le_trans (Nat.pow_le_pow_left h8 n) (Nat.pow_le_pow_right (by omega) h8)
  have h4 := List.countP_le_length (p := p) (l := pre)
  have h5 : (ordersN n).length ≤ 8 ^ 8 := Nat.le_trans h2 h3
  rw [List.length_append] at h1
  have h6 : (8 : Nat) ^ 8 = 16777216 := by decide
  omega
theorem countP_snoc (p : List Nat → Bool) (pre : List (List Nat)) (r : List Nat) : (pre ++ [r]).countP p = pre.countP p + if p r = true then 1 else 0 := by
  rw [List.countP_append, List.countP_singleton]
theorem four_boxes (w : World) (B : Nat) (lv n : Int) (c : Nat) (t1 t2 t3 t4 : TypeId) :
    CntI w.heap.size B lv c w ((((w.alloc (.cells #[.pointer (some ⟨B, 0, none⟩)] t1)).alloc (.cells #[.int .i64 lv] t2)).alloc (.cells #[.int .i64 (c : Int)] t3)).alloc (.cells #[.int .i64 n] t4)) ∧
    ((((w.alloc (.cells #[.pointer (some ⟨B, 0, none⟩)] t1)).alloc (.cells #[.int .i64 lv] t2)).alloc (.cells #[.int .i64 (c : Int)] t3)).alloc (.cells #[.int .i64 n] t4)).cell? ⟨w.heap.size + 3, 0, none⟩ = some (.int .i64 n) ∧
    ((((w.alloc (.cells #[.pointer (some ⟨B, 0, none⟩)] t1)).alloc (.cells #[.int .i64 lv] t2)).alloc (.cells #[.int .i64 (c : Int)] t3)).alloc (.cells #[.int .i64 n] t4)).heap.size = w.heap.size + 4 := by
  obtain ⟨w1, e1⟩ : ∃ x, x = w.alloc (.cells #[.pointer (some ⟨B, 0, none⟩)] t1) := ⟨_, rfl⟩
  obtain ⟨w2, e2⟩ : ∃ x, x = w1.alloc (.cells #[.int .i64 lv] t2) := ⟨_, rfl⟩
  obtain ⟨w3, e3⟩ : ∃ x, x = w2.alloc (.cells #[.int .i64 (c : Int)] t3) := ⟨_, rfl⟩
  obtain ⟨w4, e4⟩ : ∃ x, x = w3.alloc (.cells #[.int .i64 n] t4) := ⟨_, rfl⟩
  rw [← e1, ← e2, ← e3, ← e4]
  have s1 : w1.heap.size = w.heap.size + 1 := by rw [e1]; simp
  have s2 : w2.heap.size = w.heap.size + 2 := by rw [e2]; simp [s1]
  have s3 : w3.heap.size = w.heap.size + 3 := by rw [e3]; simp [s2]
  have s4 : w4.heap.size = w.heap.size + 4 := by rw [e4]; simp [s3]
  have b1 : Below w.heap.size w w1 := by rw [e1]; exact (Below.refl _ _).alloc (Nat.le_refl _) _
  have b2 : Below w1.heap.size w1 w2 := by rw [e2]; exact (Below.refl _ _).alloc (Nat.le_refl _) _
  have b3 : Below w2.heap.size w2 w3 := by rw [e3]; exact (Below.refl _ _).alloc (Nat.le_refl _) _
  have b4 : Below w3.heap.size w3 w4 := by rw [e4]; exact (Below.refl _ _).alloc (Nat.le_refl _) _
  have c1 : w1.cell? ⟨w.heap.size, 0, none⟩ = some (.pointer (some ⟨B, 0, none⟩)) := by rw [e1, cell_of_row _ _ _ _ _ _ (heap_alloc_new w _)]; rfl
  have c2 : w2.cell? ⟨w1.heap.size, 0, none⟩ = some (.int .i64 lv) := by rw [e2, cell_of_row _ _ _ _ _ _ (heap_alloc_new w1 _)]; rfl
  have c3 : w3.cell? ⟨w2.heap.size, 0, none⟩ = some (.int .i64 (c : Int)) := by rw [e3, cell_of_row _ _ _ _ _ _ (heap_alloc_new w2 _)]; rfl
  have f3 : w3.frozen? ⟨w2.heap.size, 0, none⟩ = false := by rw [e3]; exact frozen_of_row _ _ _ _ _ (heap_alloc_new w2 _)
  have c4 : w4.cell? ⟨w3.heap.size, 0, none⟩ = some (.int .i64 n) := by rw [e4, cell_of_row _ _ _ _ _ _ (heap_alloc_new w3 _)]; rfl
  have b24 : Below w2.heap.size w2 w4 := b3.trans (b4.mono b3.size)
  have b14 : Below w1.heap.size w1 w4 := b2.trans (b24.mono b2.size)
  have b34 := b4.cell (p := ⟨w2.heap.size, 0, none⟩) (by show w2.heap.size < w3.heap.size; omega)
  have g34 := b4.frozen (p := ⟨w2.heap.size, 0, none⟩) (by show w2.heap.size < w3.heap.size; omega)
  have c1' := (b14.cell (p := ⟨w.heap.size, 0, none⟩) (by show w.heap.size < w1.heap.size; omega)).trans c1
  have c2' := (b24.cell (p := ⟨w1.heap.size, 0, none⟩) (by show w1.heap.size < w2.heap.size; omega)).trans c2
  have c3' := b34.trans c3
  have f3' := g34.trans f3
  rw [s1] at c2'
  rw [s2] at c3' f3'
  rw [s3] at c4
  exact ⟨⟨c1', c2', c3', f3', b1.trans (b14.mono b1.size)⟩, c4, s4⟩
set_option maxRecDepth 100000 in
set_option maxHeartbeats 8000000 in
theorem bcount_any (lv : Int) (h : List TxnV) (B b : Nat) (w : World) (hO : OrdIs w B b h) (hc : checkI h = 0) (ht : Tab w) (hK : Kinds w) :
    Calls Tryz.prog 19 #[.pointer (some ⟨B, 0, none⟩), .int .i64 lv] w fun e w' => e = .returned (.int .i64 (countI h lv)) ∧ Below w.heap.size w w' := by
  have h64 := (check_zero hc).1
  have hg := ht.pos
  have n0 := hO.blk.cN
  have HC := Lib.hid hc
  have HB : Hid (∀ wx, Below w.heap.size w wx → (OrdIs wx B b h ∧ Tab wx ∧ Kinds wx) ∧ wx.cell? ⟨B, 0, none⟩ = w.cell? ⟨B, 0, none⟩) := Lib.hid (fun wx hb => ⟨⟨hO.below hb, ht.below hb hg, hK.below hb⟩, hb.cell (p := ⟨B, 0, none⟩) (block_lt n0)⟩)
  clear hO hc ht hK hg
  have hb1 : Below w.heap.size w ((w.alloc (.cells #[.pointer (some ⟨B, 0, none⟩)] 25)).alloc (.cells #[.int .i64 lv] 35)) := ((Below.refl _ w).alloc (Nat.le_refl _) _).alloc (by simp) _
  have n1 := (HB.out _ hb1).2.trans n0
  by_cases h8 : h.length ≤ 8
  · have HV : Hid ((((ordersN h.length).countP (keptL h lv) : Nat) : Int) = countI h lv) := Lib.hid (by unfold countI; rw [if_pos h8])
    refine (callsIn_wide (n := 3)).1 ?_
    refine callsIn_of_wp_marks Tryz.func19 rfl trivial ?_ rfl
    simp only [Tryz.ntmps19, List.size_toArray, List.length_cons, List.length_nil, Nat.reduceAdd, Nat.reduceSub, Array.replicate_succ, Array.replicate_zero, List.push_toArray, List.append_toArray, List.nil_append, List.cons_append]
    have h8i : ¬ (8 : Int) < (h.length : Int) := by omega
    have hb2 : Below w.heap.size w (((w.alloc (.cells #[.pointer (some ⟨B, 0, none⟩)] 25)).alloc (.cells #[.int .i64 lv] 35)).alloc (.cells #[.int .i64 0] 3)) := hb1.alloc hb1.size _
    have n2 := (HB.out _ hb2).2.trans n0
    have HQ : Hid (CntI w.heap.size B lv 0 w ((((w.alloc (.cells #[.pointer (some ⟨B, 0, none⟩)] 25)).alloc (.cells #[.int .i64 lv] 35)).alloc (.cells #[.int .i64 0] 3)).alloc (.cells #[.int .i64 (h.length : Int)] 3)) ∧ ((((w.alloc (.cells #[.pointer (some ⟨B, 0, none⟩)] 25)).alloc (.cells #[.int .i64 lv] 35)).alloc (.cells #[.int .i64 0] 3)).alloc (.cells #[.int .i64 (h.length : Int)] 3)).cell? ⟨w.heap.size + 3, 0, none⟩ = some (.int .i64 (h.length : Int)) ∧ ((((w.alloc (.cells #[.pointer (some ⟨B, 0, none⟩)] 25)).alloc (.cells #[.int .i64 lv] 35)).alloc (.cells #[.int .i64 0] 3)).alloc (.cells #[.int .i64 (h.length : Int)] 3)).heap.size = w.heap.size + 4) := Lib.hid (four_boxes w _ _ _ _ _ _ _ _)
    have hs3 : (((w.alloc (.cells #[.pointer (some ⟨B, 0, none⟩)] 25)).alloc (.cells #[.int .i64 lv] 35)).alloc (.cells #[.int .i64 0] 3)).heap.size = w.heap.size + 3 := by simp
    have HM := Lib.hid (orders_any (h.length : Int) (((w.alloc (.cells #[.pointer (some ⟨B, 0, none⟩)] 25)).alloc (.cells #[.int .i64 lv] 35)).alloc (.cells #[.int .i64 0] 3)))
    rw [hs3] at HM
    clear hb1 hb2 hs3
    gi_wp2_with (refine ⟨trivial, ?_⟩; gi_at_call 67; refine ((callsIn_wide (n := _)).2 HM.out).mono ?_; rintro e w' ⟨rfl, rfl⟩)
    clear HM n1 n2
    generalize ((((w.alloc (.cells #[.pointer (some ⟨B, 0, none⟩)] 25)).alloc (.cells #[.int .i64 lv] 35)).alloc (.cells #[.int .i64 0] 3)).alloc (.cells #[.int .i64 (h.length : Int)] 3)) = W4 at *
    obtain ⟨q4, c4, s4⟩ := HQ.out
    have hs : w.heap.size + 4 ≤ W4.heap.size := by omega
    refine range_rows (gf := 118) (lb := #[.pointer (some ⟨w.heap.size + 3, 0, none⟩)]) (L := ordersN h.length) rfl (by omega) rfl trivial (fun args w => by kernel_rfl)
      (orders_seq _ h.length (w.heap.size + 3) W4 (by omega) (by omega) c4) (Below.refl _ _) rfl
      (fun pre W => CntI w.heap.size B lv (pre.countP (keptL h lv)) w W) (fun _ _ => False)
      (fun pre A B q hb => q.below hb hs) (fun _ _ _ _ q _ => q) q4
      (fun v => { tmps := #[.pointer (some ⟨B, 0, none⟩), .int .i64 lv, .pointer (some ⟨w.heap.size, 0, none⟩), .pointer (some ⟨w.heap.size + 1, 0, none⟩), .int .i64 0, .pointer (some ⟨w.heap.size + 1 + 1, 0, none⟩), v, undef, undef, .pointer (some ⟨B, 0, none⟩), .pointer (some ⟨B, 0, none⟩), .pointer (some ⟨B, 0, none⟩), .int .i64 (h.length : Int), .bool false, .pointer (some ⟨B, 0, none⟩), .pointer (some ⟨B, 0, none⟩), .pointer (some ⟨B, 0, none⟩), .int .i64 (h.length : Int),
        .func (.func 118) #[] #[.pointer (some ⟨w.heap.size + 3, 0, none⟩)], v, undef, undef, undef, undef, undef, undef, undef, undef, undef, undef, undef], defers := [] }) ?assign ?body ?done ?stop
    case assign =>
      intro l v W K hK
      gi_wp2
      exact hK
    case body =>
      intro l pre v r W q hr hpre hsz
      have hle := pre_len h8 hpre (keptL h lv)
      have HP := Lib.hid (countP_snoc (keptL h lv) pre r)
      have q0 := q.c0
      have q1 := q.c1
      obtain ⟨⟨hO, ht, hK⟩, _⟩ := HB.out W q.bel
      have CI := Lib.hid (bin_kept lv v r h B b W hO HC.out ht hK hr.1 (mem_of_prefix hpre))
      have HQ := Lib.hid q
      generalize hx : pre.countP (keptL h lv) = x at *
      clear q hr hpre hO ht hK hx
      gi_wp2_with fail
      refine ⟨trivial, ?_⟩
      refine (CallsIn.inRound l ((callsIn_wide (n := _)).2 CI.out)).mono ?_
      rintro e w5 ⟨⟨X, _, rfl⟩, hb5⟩
      have z5 := zero_block w5
      have hb6 : Below W.heap.size W ((w5.alloc (.cells #[.int .u64 0, .int .u64 0, .int .u64 0, .int .u64 0, .int .u64 0, .int .u64 0, .int .u64 0, .int .u64 0, .int .u64 0, .int .u64 0, .int .u64 0, .int .u64 0, .int .u64 0, .int .u64 0, .int .u64 0, .int .u64 0, .int .u64 0, .int .u64 0, .int .u64 0, .int .u64 0, .int .u64 0, .int .u64 0, .int .u64 0, .int .u64 0, .int .u64 0, .int .u64 0, .int .u64 0, .int .u64 0, .int .u64 0, .int .u64 0, .int .u64 0, .int .u64 0, .int .u64 0, .int .u64 0, .int .u64 0, .int .u64 0, .int .u64 0, .int .u64 0, .int .u64 0, .int .u64 0, .int .u64 0, .int .u64 0, .int .u64 0, .int .u64 0, .int .u64 0, .int .u64 0, .int .u64 0, .int .u64 0, .int .u64 0, .int .u64 0, .int .u64 0, .int .u64 0, .int .u64 0, .int .u64 0, .int .u64 0, .int .u64 0, .int .u64 0, .int .u64 0, .int .u64 0, .int .u64 0, .int .u64 0, .int .u64 0, .int .u64 0, .int .u64 0] 97)).setRow w5.heap.size (rowsA X)) := below_setRow (below_then hb5 (box_below w5 (.cells #[.int .u64 0, .int .u64 0, .int .u64 0, .int .u64 0, .int .u64 0, .int .u64 0, .int .u64 0, .int .u64 0, .int .u64 0, .int .u64 0, .int .u64 0, .int .u64 0, .int .u64 0, .int .u64 0, .int .u64 0, .int .u64 0, .int .u64 0, .int .u64 0, .int .u64 0, .int .u64 0, .int .u64 0, .int .u64 0, .int .u64 0, .int .u64 0, .int .u64 0, .int .u64 0, .int .u64 0, .int .u64 0, .int .u64 0, .int .u64 0, .int .u64 0, .int .u64 0, .int .u64 0, .int .u64 0, .int .u64 0, .int .u64 0, .int .u64 0, .int .u64 0, .int .u64 0, .int .u64 0, .int .u64 0, .int .u64 0, .int .u64 0, .int .u64 0, .int .u64 0, .int .u64 0, .int .u64 0, .int .u64 0, .int .u64 0, .int .u64 0, .int .u64 0, .int .u64 0, .int .u64 0, .int .u64 0, .int .u64 0, .int .u64 0, .int .u64 0, .int .u64 0, .int .u64 0, .int .u64 0, .int .u64 0, .int .u64 0, .int .u64 0, .int .u64 0] 97))) hb5.size (rowsA X)
      have HQ6 := Lib.hid (HQ.out.below hb6 (Nat.le_trans hs (by omega)))
      have c2 := HQ6.out.c2
      have f2 := HQ6.out.f2
      have HK6 : Hid (KeepsHi W4.heap.size W ((w5.alloc (.cells #[.int .u64 0, .int .u64 0, .int .u64 0, .int .u64 0, .int .u64 0, .int .u64 0, .int .u64 0, .int .u64 0, .int .u64 0, .int .u64 0, .int .u64 0, .int .u64 0, .int .u64 0, .int .u64 0, .int .u64 0, .int .u64 0, .int .u64 0, .int .u64 0, .int .u64 0, .int .u64 0, .int .u64 0, .int .u64 0, .int .u64 0, .int .u64 0, .int .u64 0, .int .u64 0, .int .u64 0, .int .u64 0, .int .u64 0, .int .u64 0, .int .u64 0, .int .u64 0, .int .u64 0, .int .u64 0, .int .u64 0, .int .u64 0, .int .u64 0, .int .u64 0, .int .u64 0, .int .u64 0, .int .u64 0, .int .u64 0, .int .u64 0, .int .u64 0, .int .u64 0, .int .u64 0, .int .u64 0, .int .u64 0, .int .u64 0, .int .u64 0, .int .u64 0, .int .u64 0, .int .u64 0, .int .u64 0, .int .u64 0, .int .u64 0, .int .u64 0, .int .u64 0, .int .u64 0, .int .u64 0, .int .u64 0, .int .u64 0, .int .u64 0, .int .u64 0] 97)).setRow w5.heap.size (rowsA X))) := Lib.hid (KeepsHi.of_below hb6)
      clear hb5 hb6 CI
      cases hk : keptL h lv r with
      | false =>
        rw [hk] at HP
        gi_wp2_with (with_reducible refine wpListIn_store_rel z5 X rfl _ _ rfl rfl rfl ?_)
        exact ⟨HK6.out, by show CntI _ _ _ ((pre ++ [r]).countP (keptL h lv)) _ _; rw [HP.out]; exact HQ6.out⟩
      | true =>
        rw [hk] at HP
        have HS := Lib.hid (HQ6.out.more (x + 1))
        have HT := Lib.hid (KeepsHi.setCell (D := W4.heap.size) ((w5.alloc (.cells #[.int .u64 0, .int .u64 0, .int .u64 0, .int .u64 0, .int .u64 0, .int .u64 0, .int .u64 0, .int .u64 0, .int .u64 0, .int .u64 0, .int .u64 0, .int .u64 0, .int .u64 0, .int .u64 0, .int .u64 0, .int .u64 0, .int .u64 0, .int .u64 0, .int .u64 0, .int .u64 0, .int .u64 0, .int .u64 0, .int .u64 0, .int .u64 0, .int .u64 0, .int .u64 0, .int .u64 0, .int .u64 0, .int .u64 0, .int .u64 0, .int .u64 0, .int .u64 0, .int .u64 0, .int .u64 0, .int .u64 0, .int .u64 0, .int .u64 0, .int .u64 0, .int .u64 0, .int .u64 0, .int .u64 0, .int .u64 0, .int .u64 0, .int .u64 0, .int .u64 0, .int .u64 0, .int .u64 0, .int .u64 0, .int .u64 0, .int .u64 0, .int .u64 0, .int .u64 0, .int .u64 0, .int .u64 0, .int .u64 0, .int .u64 0, .int .u64 0, .int .u64 0, .int .u64 0, .int .u64 0, .int .u64 0, .int .u64 0, .int .u64 0, .int .u64 0] 97)).setRow w5.heap.size (rowsA X)) ⟨w.heap.size + 1 + 1, 0, none⟩ (.int .i64 ((x + 1 : Nat) : Int)) (by show w.heap.size + 1 + 1 < W4.heap.size; omega))
        gi_wp2_with (with_reducible refine wpListIn_store_rel z5 X rfl _ _ rfl rfl rfl ?_)
        exact ⟨HK6.out.trans HT.out, by show CntI _ _ _ ((pre ++ [r]).countP (keptL h lv)) _ _; rw [HP.out]; exact HS.out⟩
    case done =>
      intro W q hK
      have c2 := q.c2
      have HQ := Lib.hid q
      clear q
      gi_wp2
      refine ⟨by simp, .inl ⟨_, _, rfl, run_takeDeferred hK, ?_⟩⟩
      exact ⟨_, results_tmp rfl _ _ _, by rw [← HV.out]; rfl, HQ.out.bel.trans (belowK_b (w := w) (Nat.le_refl _) W W4.heap.size _ _ (by omega) hK rfl rfl)⟩
    case stop => exact fun pre W _ h _ => h.elim
  · have HV : Hid ((-1 : Int) = countI h lv) := Lib.hid (by unfold countI; rw [if_neg h8])
    have h8i : (8 : Int) < (h.length : Int) := by omega
    clear h8
    go_enter Tryz.func19, Tryz.ntmps19
    go_wp2_with fail
    go_ret
    exact ⟨ret_i HV.out, hb1⟩
end Go.Proofs.YtecpeegbfeijaaaGreatDoor

namespace Go.Proofs.YtecpeegbfeijaaaGreatDoor
set_option maxRecDepth 100000
open Go.RowKit

/-- Is a witness one of a level: an order, and lists? -/
def acceptsB (h : List TxnV) (lv : Int) (l : List Int) (LL : List (List Int)) : Bool := okL h.length LL && holdsR h lv l (pairsL LL h.length)
/-- What lies in the block of a witness. -/
def WitS (p : Nat) (vo vs : Value) (w : World) : Prop := w.cell? ⟨p, 0, none⟩ = some vo ∧ w.cell? ⟨p, 1, none⟩ = some vs
theorem WitS.below {p : Nat} {vo vs : Value} {w w' : World} (h : WitS p vo vs w) (hb : Below w.heap.size w w') : WitS p vo vs w' := ⟨(hb.cell (p := ⟨p, 0, none⟩) (block_lt h.1)).trans h.1, (hb.cell (p := ⟨p, 1, none⟩) (block_lt h.2)).trans h.2⟩
set_option maxRecDepth 100000 in
set_option maxHeartbeats 16000000 in
theorem aaccepts_any (lv : Int) (vo vs : Value) (l : List Int) (LL : List (List Int)) (h : List TxnV) (B b : Nat) (w : World) (hO : OrdIs w B b h) (hc : checkI h = 0) (ht : Tab w) (hK : Kinds w) (hl : Ints w vo l) (hL : Lists w vs LL) :
    Calls Tryz.prog 20 #[.pointer (some ⟨B, 0, none⟩), .int .i64 lv, .agg #[vo, vs]] w fun e w' => e = .returned (.bool (acceptsB h lv l LL)) ∧ Below w.heap.size w w' := by
  have hg := ht.pos
  have hn := (check_zero hc).1
  have hbx := box_below w (.cells #[vo, vs] 32)
  have hW0 : WitS w.heap.size vo vs (w.alloc (.cells #[vo, vs] 32)) := by
    refine ⟨?_, ?_⟩ <;> (rw [cell_of_row _ _ _ _ _ _ (heap_alloc_new w _)]; rfl)
  have HW := Lib.hid (fun wx (hx : Below w.heap.size w wx) => And.intro (hO.below hx) (And.intro (ht.below hx hg) (And.intro (hK.below hx) (And.intro (hl.below hx) (hL.below hx)))))
  have HC := Lib.hid hc
  have HAC : Hid (acceptsB h lv l LL = (okL h.length LL && holdsR h lv l (pairsL LL h.length))) := Lib.hid rfl
  obtain ⟨ao, cap, rfl, hal⟩ := hl.form
  obtain ⟨so, scap, rfl, hsl⟩ := hL.form
  clear hO hc ht hK hl hL
  generalize acceptsB h lv l LL = z at *
  go_enter Tryz.func20, Tryz.ntmps20
  go_upto_region 1 with fail
  generalize w.alloc (.cells #[.slice ao l.length cap, .slice so LL.length scap] 32) = w0 at *
  have HB := Lib.hid (fun wx (hx : Below w0.heap.size w0 wx) => hbx.trans (hx.mono hbx.size))
  have HS : Hid (∀ wx, Below w0.heap.size w0 wx → OrdB wx B h ∧ WitS w.heap.size (.slice ao l.length cap) (.slice so LL.length scap) wx) := Lib.hid (fun wx hx => ⟨(HW.out wx (HB.out _ hx)).1.blk, hW0.below hx⟩)
  have CR := Lib.hid (fun wx (hx : Below w0.heap.size w0 wx) => arelation_any h.length hn _ LL wx (HW.out _ (HB.out _ hx)).2.2.2.2)
  have CH := Lib.hid (fun V wx (hx : Below w0.heap.size w0 wx) => aholds_any lv _ l V h B b wx (HW.out _ (HB.out _ hx)).1 HC.out (HW.out _ (HB.out _ hx)).2.1 (HW.out _ (HB.out _ hx)).2.2.1 (HW.out _ (HB.out _ hx)).2.2.2.1)
  have HSAME := Lib.hid (fun V m (hr : Rep V m) => holds_same HC.out hr lv l)
  have kd := (Below.refl w0.heap.size w0).drew
  generalize okL h.length LL = ok at *
  clear hW0 hbx hn HW
  go_cut [7, 8] from 7 to 18 (fun u7 u8 wx => ∃ (p7 : Nat) (R : Mat), u7 = .pointer (some ⟨p7, 0, none⟩) ∧ u8 = .bool ok ∧ RelAt wx p7 97 R ∧ (ok = true → Rep R (pairsL LL h.length)) ∧ Below w0.heap.size w0 wx)
  case first =>
    refine wp_region_held_drew (S := Below w0.heap.size w0) (by kernel_rfl) kd (fun hS0 => ?_)
    refine takeG (some 10) (i := 0) (v := ?vq0) rfl rfl (by kernel_rfl) (by kernel_rfl) (by kernel_rfl) (fun _ _ _ h => h) (Or.inl ⟨by rfl, ?hq0⟩) hS0 ?rq0
    case hq0 => (intro w hw; obtain ⟨hO, n0, n1⟩ := HS.out _ hw; have hn := hO.cN; go_simp; try (with_reducible rfl))
    try simp only [Act.put, List.setIfInBounds_toArray, List.set_cons_zero, List.set_cons_succ]
    refine takeG (some 11) (i := 1) (v := ?vq1) rfl rfl (by kernel_rfl) (by kernel_rfl) (by kernel_rfl) (fun _ _ _ h => h) (Or.inl ⟨by rfl, ?hq1⟩) hS0 ?rq1
    case hq1 => (intro w hw; obtain ⟨hO, n0, n1⟩ := HS.out _ hw; have hn := hO.cN; go_simp; try (with_reducible rfl))
    try simp only [Act.put, List.setIfInBounds_toArray, List.set_cons_zero, List.set_cons_succ]
    refine takeG (some 12) (i := 2) (v := ?vq2) rfl rfl (by kernel_rfl) (by kernel_rfl) (by kernel_rfl) (fun _ _ _ h => h) (Or.inl ⟨by rfl, ?hq2⟩) hS0 ?rq2
    case hq2 => (intro w hw; obtain ⟨hO, n0, n1⟩ := HS.out _ hw; have hn := hO.cN; go_simp; try (with_reducible rfl))
    try simp only [Act.put, List.setIfInBounds_toArray, List.set_cons_zero, List.set_cons_succ]
    refine takeG (some 13) (i := 3) (v := ?vq3) rfl rfl (by kernel_rfl) (by kernel_rfl) (by kernel_rfl) (fun _ _ _ h => h) (Or.inl ⟨by rfl, ?hq3⟩) hS0 ?rq3
    case hq3 => (intro w hw; obtain ⟨hO, n0, n1⟩ := HS.out _ hw; have hn := hO.cN; go_simp; try (with_reducible rfl))
    try simp only [Act.put, List.setIfInBounds_toArray, List.set_cons_zero, List.set_cons_succ]
    refine takeG (some 14) (i := 4) (v := ?vq4) rfl rfl (by kernel_rfl) (by kernel_rfl) (by kernel_rfl) (fun _ _ _ h => h) (Or.inl ⟨by rfl, ?hq4⟩) hS0 ?rq4
    case hq4 => (intro w hw; obtain ⟨hO, n0, n1⟩ := HS.out _ hw; have hn := hO.cN; go_simp; try (with_reducible rfl))
    try simp only [Act.put, List.setIfInBounds_toArray, List.set_cons_zero, List.set_cons_succ]
    refine takeG (some 15) (i := 5) (v := ?vq5) rfl rfl (by kernel_rfl) (by kernel_rfl) (by kernel_rfl) (fun _ _ _ h => h) (Or.inl ⟨by rfl, ?hq5⟩) hS0 ?rq5
    case hq5 => (intro w hw; obtain ⟨hO, n0, n1⟩ := HS.out _ hw; have hn := hO.cN; go_simp; try (with_reducible rfl))
    try simp only [Act.put, List.setIfInBounds_toArray, List.set_cons_zero, List.set_cons_succ]
    generalize w0.drew = wd at *
    refine wpAnyH_ready (rs := [6, 10]) (by kernel_rfl) (by simp) ?_
    refine AllReadyH.cons rfl (fun K hK => ?_) (AllReadyH.cons rfl (fun K hK => ?_) AllReadyH.nil)
    ·
      go_simp
      refine (CR.out _ hS0).mono ?_
      rintro e q1 ⟨⟨R, rfl, hR⟩, h1⟩
      show K _ _
      have k1 := below_then hS0 h1
      have hR := Lib.hid hR
      refine hK.out _ _ k1 (fun _ => ?_)
      clear hK K
      refine takeG (some 9) (i := 7) (v := ?vqa7) rfl rfl (by kernel_rfl) (by kernel_rfl) (by kernel_rfl) (fun _ _ _ h => h) (Or.inl ⟨by rfl, ?hqa7⟩) k1 ?rqa7
      case hqa7 => (intro w _; go_simp; try (with_reducible rfl))
      try simp only [Act.put, List.setIfInBounds_toArray, List.set_cons_zero, List.set_cons_succ]
      refine takeG (some 17) (i := 8) (v := ?vqa8) rfl rfl (by kernel_rfl) (by kernel_rfl) (by kernel_rfl) (fun _ _ _ h => h) (Or.inl ⟨by rfl, ?hqa8⟩) k1 ?rqa8
      case hqa8 => (intro w _; go_simp; try (with_reducible rfl))
      try simp only [Act.put, List.setIfInBounds_toArray, List.set_cons_zero, List.set_cons_succ]
      refine takeG (some 18) (i := 9) (v := ?vqa9) rfl rfl (by kernel_rfl) (by kernel_rfl) (by kernel_rfl) (fun _ _ _ h => h) (Or.inl ⟨by rfl, ?hqa9⟩) k1 ?rqa9
      case hqa9 => (intro w _; go_simp; try (with_reducible rfl))
      try simp only [Act.put, List.setIfInBounds_toArray, List.set_cons_zero, List.set_cons_succ]
      refine wpAnyH_ready (rs := [10]) (by kernel_rfl) (by simp) ?_
      refine AllReadyH.cons rfl (fun K hK => ?_) AllReadyH.nil
      go_simp
      have hp2 := k1.size
      have k2 := k1.alloc k1.size (.cells #[.int .u64 0, .int .u64 0, .int .u64 0, .int .u64 0, .int .u64 0, .int .u64 0, .int .u64 0, .int .u64 0, .int .u64 0, .int .u64 0, .int .u64 0, .int .u64 0, .int .u64 0, .int .u64 0, .int .u64 0, .int .u64 0, .int .u64 0, .int .u64 0, .int .u64 0, .int .u64 0, .int .u64 0, .int .u64 0, .int .u64 0, .int .u64 0, .int .u64 0, .int .u64 0, .int .u64 0, .int .u64 0, .int .u64 0, .int .u64 0, .int .u64 0, .int .u64 0, .int .u64 0, .int .u64 0, .int .u64 0, .int .u64 0, .int .u64 0, .int .u64 0, .int .u64 0, .int .u64 0, .int .u64 0, .int .u64 0, .int .u64 0, .int .u64 0, .int .u64 0, .int .u64 0, .int .u64 0, .int .u64 0, .int .u64 0, .int .u64 0, .int .u64 0, .int .u64 0, .int .u64 0, .int .u64 0, .int .u64 0, .int .u64 0, .int .u64 0, .int .u64 0, .int .u64 0, .int .u64 0, .int .u64 0, .int .u64 0, .int .u64 0, .int .u64 0] 97)
      have z2 := zero_block q1
      refine hK.out _ _ k2 (fun _ => ?_)
      clear hK K
      generalize q1.alloc (.cells #[.int .u64 0, .int .u64 0, .int .u64 0, .int .u64 0, .int .u64 0, .int .u64 0, .int .u64 0, .int .u64 0, .int .u64 0, .int .u64 0, .int .u64 0, .int .u64 0, .int .u64 0, .int .u64 0, .int .u64 0, .int .u64 0, .int .u64 0, .int .u64 0, .int .u64 0, .int .u64 0, .int .u64 0, .int .u64 0, .int .u64 0, .int .u64 0, .int .u64 0, .int .u64 0, .int .u64 0, .int .u64 0, .int .u64 0, .int .u64 0, .int .u64 0, .int .u64 0, .int .u64 0, .int .u64 0, .int .u64 0, .int .u64 0, .int .u64 0, .int .u64 0, .int .u64 0, .int .u64 0, .int .u64 0, .int .u64 0, .int .u64 0, .int .u64 0, .int .u64 0, .int .u64 0, .int .u64 0, .int .u64 0, .int .u64 0, .int .u64 0, .int .u64 0, .int .u64 0, .int .u64 0, .int .u64 0, .int .u64 0, .int .u64 0, .int .u64 0, .int .u64 0, .int .u64 0, .int .u64 0, .int .u64 0, .int .u64 0, .int .u64 0, .int .u64 0] 97) = x2 at *
      refine wpAnyH_ready (rs := [11]) (by kernel_rfl) (by simp) ?_
      refine AllReadyH.cons rfl (fun K hK => ?_) AllReadyH.nil
      rw [if_pos (by rfl)]
      refine wp_store_rel z2 R _ _ rfl rfl rfl ?_
      have k3 := below_setRow k2 (g := q1.heap.size) (by omega) (rowsA R)
      have z3 := z2.setRow R
      refine hK.out _ _ k3 (fun _ => ?_)
      clear hK K
      generalize x2.setRow q1.heap.size (rowsA R) = x3 at *
      refine takeG (some 8) (i := 12) (v := ?vqa12) rfl rfl (by kernel_rfl) (by kernel_rfl) (by kernel_rfl) (fun _ _ _ h => h) (Or.inl ⟨by rfl, ?hqa12⟩) k3 ?rqa12
      case hqa12 => (intro w _; go_simp; try (with_reducible rfl))
      try simp only [Act.put, List.setIfInBounds_toArray]
      refine wpAnyH_done (by kernel_rfl) ?_ _
      go_wp2_with fail
      go_meet
      exact ⟨q1.heap.size, R, rfl, rfl, z3, hR.out, k3⟩
    ·
      go_simp
      have hp1 := hS0.size
      have k1 := hS0.alloc hS0.size (.cells #[.int .u64 0, .int .u64 0, .int .u64 0, .int .u64 0, .int .u64 0, .int .u64 0, .int .u64 0, .int .u64 0, .int .u64 0, .int .u64 0, .int .u64 0, .int .u64 0, .int .u64 0, .int .u64 0, .int .u64 0, .int .u64 0, .int .u64 0, .int .u64 0, .int .u64 0, .int .u64 0, .int .u64 0, .int .u64 0, .int .u64 0, .int .u64 0, .int .u64 0, .int .u64 0, .int .u64 0, .int .u64 0, .int .u64 0, .int .u64 0, .int .u64 0, .int .u64 0, .int .u64 0, .int .u64 0, .int .u64 0, .int .u64 0, .int .u64 0, .int .u64 0, .int .u64 0, .int .u64 0, .int .u64 0, .int .u64 0, .int .u64 0, .int .u64 0, .int .u64 0, .int .u64 0, .int .u64 0, .int .u64 0, .int .u64 0, .int .u64 0, .int .u64 0, .int .u64 0, .int .u64 0, .int .u64 0, .int .u64 0, .int .u64 0, .int .u64 0, .int .u64 0, .int .u64 0, .int .u64 0, .int .u64 0, .int .u64 0, .int .u64 0, .int .u64 0] 97)
      have z1 := zero_block wd
      refine hK.out _ _ k1 (fun _ => ?_)
      clear hK K
      generalize wd.alloc (.cells #[.int .u64 0, .int .u64 0, .int .u64 0, .int .u64 0, .int .u64 0, .int .u64 0, .int .u64 0, .int .u64 0, .int .u64 0, .int .u64 0, .int .u64 0, .int .u64 0, .int .u64 0, .int .u64 0, .int .u64 0, .int .u64 0, .int .u64 0, .int .u64 0, .int .u64 0, .int .u64 0, .int .u64 0, .int .u64 0, .int .u64 0, .int .u64 0, .int .u64 0, .int .u64 0, .int .u64 0, .int .u64 0, .int .u64 0, .int .u64 0, .int .u64 0, .int .u64 0, .int .u64 0, .int .u64 0, .int .u64 0, .int .u64 0, .int .u64 0, .int .u64 0, .int .u64 0, .int .u64 0, .int .u64 0, .int .u64 0, .int .u64 0, .int .u64 0, .int .u64 0, .int .u64 0, .int .u64 0, .int .u64 0, .int .u64 0, .int .u64 0, .int .u64 0, .int .u64 0, .int .u64 0, .int .u64 0, .int .u64 0, .int .u64 0, .int .u64 0, .int .u64 0, .int .u64 0, .int .u64 0, .int .u64 0, .int .u64 0, .int .u64 0, .int .u64 0] 97) = x1 at *
      refine wpAnyH_ready (rs := [6]) (by kernel_rfl) (by simp) ?_
      refine AllReadyH.cons rfl (fun K hK => ?_) AllReadyH.nil
      go_simp
      refine (CR.out _ k1).mono ?_
      rintro e q2 ⟨⟨R, rfl, hR⟩, h2⟩
      show K _ _
      have k2 := below_then k1 h2
      have hR := Lib.hid hR
      have z2 := z1.below h2 z1.lt
      refine hK.out _ _ k2 (fun _ => ?_)
      clear hK K
      refine takeG (some 9) (i := 7) (v := ?vqb7) rfl rfl (by kernel_rfl) (by kernel_rfl) (by kernel_rfl) (fun _ _ _ h => h) (Or.inl ⟨by rfl, ?hqb7⟩) k2 ?rqb7
      case hqb7 => (intro w _; go_simp; try (with_reducible rfl))
      try simp only [Act.put, List.setIfInBounds_toArray, List.set_cons_zero, List.set_cons_succ]
      refine takeG (some 17) (i := 8) (v := ?vqb8) rfl rfl (by kernel_rfl) (by kernel_rfl) (by kernel_rfl) (fun _ _ _ h => h) (Or.inl ⟨by rfl, ?hqb8⟩) k2 ?rqb8
      case hqb8 => (intro w _; go_simp; try (with_reducible rfl))
      try simp only [Act.put, List.setIfInBounds_toArray, List.set_cons_zero, List.set_cons_succ]
      refine takeG (some 18) (i := 9) (v := ?vqb9) rfl rfl (by kernel_rfl) (by kernel_rfl) (by kernel_rfl) (fun _ _ _ h => h) (Or.inl ⟨by rfl, ?hqb9⟩) k2 ?rqb9
      case hqb9 => (intro w _; go_simp; try (with_reducible rfl))
      try simp only [Act.put, List.setIfInBounds_toArray, List.set_cons_zero, List.set_cons_succ]
      refine wpAnyH_ready (rs := [11]) (by kernel_rfl) (by simp) ?_
      refine AllReadyH.cons rfl (fun K hK => ?_) AllReadyH.nil
      rw [if_pos (by rfl)]
      refine wp_store_rel z2 R _ _ rfl rfl rfl ?_
      have k3 := below_setRow k2 (g := wd.heap.size) (by omega) (rowsA R)
      have z3 := z2.setRow R
      refine hK.out _ _ k3 (fun _ => ?_)
      clear hK K
      generalize q2.setRow wd.heap.size (rowsA R) = x3 at *
      refine takeG (some 8) (i := 12) (v := ?vqb12) rfl rfl (by kernel_rfl) (by kernel_rfl) (by kernel_rfl) (fun _ _ _ h => h) (Or.inl ⟨by rfl, ?hqb12⟩) k3 ?rqb12
      case hqb12 => (intro w _; go_simp; try (with_reducible rfl))
      try simp only [Act.put, List.setIfInBounds_toArray]
      refine wpAnyH_done (by kernel_rfl) ?_ _
      go_wp2_with fail
      go_meet
      exact ⟨wd.heap.size, R, rfl, rfl, z3, hR.out, k3⟩
  case rest =>
    obtain ⟨p7, R, rfl, rfl, hr, hR, hb⟩ := hcut
    cases ok with
    | false =>
      go_wp2_with fail
      go_ret
      exact ⟨ret_b (by rw [HAC.out]; rfl), HB.out _ hb⟩
    | true =>
      have CQ := Lib.hid (CH.out R _ hb)
      rw [HSAME.out R _ (hR rfl)] at CQ
      obtain ⟨_, n0, n1⟩ := HS.out _ hb
      clear hR HSAME CR CH
      generalize holdsR h lv l (pairsL LL h.length) = q at *
      go_wp2_with (with_reducible refine wpList_load_rel_g hr _ rfl (by kernel_rfl) rfl ?_)
      refine (CQ.out).mono ?_
      rintro e w5 ⟨rfl, h5⟩
      have hb5 := below_then hb h5
      clear n0 n1
      go_wp2_with fail
      go_ret
      exact ⟨ret_b (by rw [HAC.out]; rfl), HB.out _ hb5⟩
end Go.Proofs.YtecpeegbfeijaaaGreatDoor

namespace Go.Proofs.YtecpeegbfeijaaaGreatDoor
set_option maxRecDepth 100000
open Go.RowKit

theorem nilIn (w : World) : Sem.run Tryz.prog (binOp .eql 29 (.slice none 0 0) (.slice none 0 0)) w = .ok (.bool true) w := by kernel_rfl
theorem someIn (w : World) (a : Addr) (n c : Nat) : Sem.run Tryz.prog (binOp .eql 29 (.slice (some a) n c) (.slice none 0 0)) w = .ok (.bool false) w := by kernel_rfl
set_option maxHeartbeats 4000000 in
theorem clone_ints (va : Value) (l : List Int) (w : World) (ha : Ints w va l) (hl : l.length ≤ 100000) :
    Calls Tryz.prog 122 #[va] w fun e w' => ∃ v, e = .returned v ∧ w'.ownsRow w.heap.size 3 1 v l.length (l.map (Value.int .i64)) ∧ Below w.heap.size w w' := by
  obtain ⟨i0, hi, hz0, hz1, hz2⟩ := info_parts infoInt
  obtain ⟨ao, cap, rfl, hal⟩ := ha.form
  cases ao with
  | none =>
    have h0 : l = [] := by
      obtain ⟨_, ao', cap', e, _, hno, _⟩ := ha
      cases e
      exact List.eq_nil_of_length_eq_zero (hno rfl).1
    subst h0
    have hc0 : cap = 0 := by
      obtain ⟨_, ao', cap', e, _, hno, _⟩ := ha
      cases e
      exact (hno rfl).2
    subst hc0
    have e1 := nilIn
    have e2 := fun w a n c => someIn w a n c
    go_enter Tryz.func122, Tryz.ntmps122
    go_wp2_with fail
    go_ret
    exact ⟨_, rfl, World.ownsRow_nil _ _ _ _, Below.refl _ _⟩
  | some ad =>
    have e1 := nilIn
    have e2 := fun w a n c => someIn w a n c
    go_enter Tryz.func122, Tryz.ntmps122
    go_wp2_with (first | (at_builtin; refine wpList_append_row rfl _ _ 29 rfl w.heap.size 3 i0 (.int .i64 0) 1 8 Tryz.underlying29 hi hz0 hz1 hz2 rfl (by decide) _ 0 [] rfl (World.ownsRow_lit _ _ _ (Nat.le_refl _) (by decide) rfl) _ l.length _ rfl (ha.below ((Below.refl _ _).alloc (Nat.le_refl _) _)) ?d1 ?d2 ?d3 ?d4 ?_) | go_in)
    case d1 => intro u hu; obtain ⟨x, _, rfl⟩ := List.mem_map.1 hu; rfl
    case d2 => unfold maxLen; omega
    case d3 => omega
    case d4 => first | omega | simp
    intro v5 w5 hown5 hg5
    have hO5 : w5.ownsRow w.heap.size 3 1 v5 l.length (l.map (Value.int .i64)) := by simpa using hown5
    have hb5 := ((Below.refl w.heap.size w).alloc (Nat.le_refl _) (.cells #[] 3)).grown hg5 (by simp) (by intro k hk; simp [Value.ownBlock] at hk; omega)
    clear hown5 hg5
    go_wp2_with fail
    go_ret
    exact ⟨_, rfl, hO5, hb5⟩
theorem infoIntsL : (Tryz.prog.info? 29).map (fun i => (i.zero, i.size, i.bytes)) = some (some (.slice none 0 0), 1, 24) := by kernel_rfl
/-- Whom each sees, in lists. -/
def seesL (V : Mat) (n : Nat) : List (List Int) := (List.range n).map fun (i : Nat) => (lst (seeTo V (i : Int) 64)).map Int.ofNat
theorem seesL_succ (V : Mat) (n : Nat) : seesL V (n + 1) = seesL V n ++ [(lst (seeTo V (n : Int) 64)).map Int.ofNat] := by
  unfold seesL; rw [List.range_succ, List.map_append]; rfl
/-- A row of rows of ints that the call itself made. -/
structure OwnK (b : Nat) (w : World) (v : Value) (K : List KRow) : Prop where
  kr : w.ownsRow b 29 1 v K.length (K.map (·.1))
  ke : ∀ p ∈ K, w.ownsRow b 3 1 p.1 p.2.length (p.2.map (Value.int .i64))
theorem OwnK.nil (b : Nat) (w : World) : OwnK b w (.slice none 0 0) [] := ⟨World.ownsRow_nil _ _ _ _, fun p hp => (by cases hp)⟩
theorem OwnK.below {b : Nat} {w w' : World} {v : Value} {K : List KRow} (h : OwnK b w v K) (hb : Below w.heap.size w w') : OwnK b w' v K := ⟨owns_below h.kr hb, fun p hp => owns_below (h.ke p hp) hb⟩
theorem OwnK.add {b : Nat} {w w2 : World} {o : Obj} {v v' u : Value} {K : List KRow} {l : List Int} (h : OwnK b w v K) (hv : w.ownsRow b 3 1 u l.length (l.map (Value.int .i64))) (hown : w2.ownsRow b 29 1 v' (K.length + 1) (K.map (·.1) ++ [u]))
    (hg : (w.alloc o).grownBy w2 v.ownBlock) : OwnK b w2 v' (K ++ [(u, l)]) := by
  refine ⟨by simpa using hown, fun p hp => ?_⟩
  rcases List.mem_append.1 hp with hp | hp
  · exact ((h.ke p hp).alloc o).kept hg (owns_apart (h.ke p hp) h.kr (by decide))
  · obtain rfl := List.mem_singleton.1 hp
    exact (hv.alloc o).kept hg (owns_apart hv h.kr (by decide))
theorem OwnK.lists {b : Nat} {w : World} {v : Value} {K : List KRow} (h : OwnK b w v K) : Lists w v (K.map (·.2)) := by
  refine ⟨K.map (·.1), by have := Row.of_owns h.kr; rwa [List.length_map], fun k hk => ?_⟩
  rw [List.length_map] at hk
  refine ⟨K[k].1, by rw [List.getElem?_map, List.getElem?_eq_getElem hk]; rfl, ?_⟩
  rw [List.getElem_map]
  exact Ints.of_owns (h.ke _ (List.getElem_mem hk))
/-- What lies in a block of another type isn't an own row's. -/
theorem own_far {w : World} {b e size n p : Nat} {v : Value} {xs : List Value} {cs : Array Value} {t : TypeId} {fr : Nat × Nat} (h : w.ownsRow b e size v n xs) (hp : w.heap[p]? = some (.cells cs t fr)) (hne : e ≠ t) : some p ≠ v.ownBlock := by
  obtain ⟨_, h⟩ := h
  rcases h with ⟨rfl, _⟩ | ⟨g, c, cur, rfl, _, hh, _⟩
  · simp [Value.ownBlock]
  · intro e2
    simp [Value.ownBlock] at e2
    subst e2
    rw [hp] at hh
    injection hh with hh
    injection hh with h1 h2 h3
    exact hne h2.symm
/-- What lies there while a witness is made. -/
structure WI (b p5 : Nat) (V : Mat) (vo : Value) (l : List Int) (vs : Value) (K : List KRow) (w0 w : World) : Prop where
  rel : RelAt w b 97 V
  res : At w (b + 1) (.cells #[.slice none 0 0, .slice none 0 0] 32)
  box : At w p5 (.cells #[vo, vs] 32)
  own : OwnK b w vs K
  ord : w.ownsRow b 3 1 vo l.length (l.map (Value.int .i64))
  bel : Below b w0 w
theorem grown_setW (w : World) (a : Addr) (u : Value) : w.grownBy (w.setCell a u) (some a.block) :=
  ⟨rfl, rfl, rfl, by simp, fun k _ hk => Below.heap_setCell w a u k (fun e => hk (by rw [e]))⟩
theorem lit_newS (w : World) (x : Value) (t : TypeId) : ∀ j u, [x][j]? = some u → (w.alloc (.cells #[x] t)).cell? ((⟨w.heap.size, 0, none⟩ : Addr).add j) = some u := fun j u hu => by
  match j, hu with
  | 0, hu =>
    simp at hu; subst hu
    rw [Addr.add_lit, Nat.add_zero, cell_of_row _ _ _ _ _ _ (heap_alloc_new w _)]; rfl
  | j + 1, hu => simp at hu
theorem own_none {w : World} {b e size n p : Nat} {v : Value} {xs : List Value} {cs : Array Value} {t : TypeId} {fr : Nat × Nat} (h : w.ownsRow b e size v n xs) (hp : w.heap[p]? = some (.cells cs t fr)) (hne : e ≠ t) : v.ownBlock = none ∨ v.ownBlock ≠ some p := .inr (fun e2 => own_far h hp hne e2.symm)
theorem WI.below {b p5 : Nat} {V : Mat} {vo : Value} {l : List Int} {vs : Value} {K : List KRow} {w0 w w' : World} (h : WI b p5 V vo l vs K w0 w) (hb : Below w.heap.size w w') : WI b p5 V vo l vs K w0 w' :=
  ⟨h.rel.below hb h.rel.lt, h.res.below hb, h.box.below hb, h.own.below hb, owns_below h.ord hb, h.bel.trans (hb.mono (Nat.le_of_lt h.rel.lt))⟩
theorem WI.add {b p5 : Nat} {V : Mat} {vo : Value} {l : List Int} {vs v' u : Value} {K : List KRow} {s : List Int} {w0 W w5 : World} {o : Obj} (hp : b + 2 ≤ p5) (h : WI b p5 V vo l vs K w0 W) (hv : W.ownsRow b 3 1 u s.length (s.map (Value.int .i64)))
    (hown : w5.ownsRow b 29 1 v' (K.length + 1) (K.map (·.1) ++ [u])) (hg : (W.alloc o).grownBy w5 vs.ownBlock) :
    RelAt w5 b 97 V ∧ w5.cell? ⟨p5, 1, none⟩ = some vs ∧ w5.frozen? ⟨p5, 1, none⟩ = false ∧ RelAt (w5.setCell ⟨p5, 1, none⟩ v') b 97 V ∧ WI b p5 V vo l v' (K ++ [(u, s)]) w0 (w5.setCell ⟨p5, 1, none⟩ v') := by
  have kr := h.own.kr.alloc o
  have r1 : At w5 b (.cells (rowsA V) 97) := At.grown (h.rel.alloc o) hg (own_far kr (h.rel.alloc o) (by decide))
  have r2 := At.grown (h.res.alloc o) hg (own_far kr (h.res.alloc o) (by decide))
  have r3 := At.grown (h.box.alloc o) hg (own_far kr (h.box.alloc o) (by decide))
  have r4 := h.own.add hv hown hg
  have r5 := (h.ord.alloc o).kept hg (owns_apart h.ord h.own.kr (by decide))
  have d5 := (h.bel.alloc (Nat.le_of_lt h.rel.lt) o).grown hg (by have := h.rel.lt; simp; omega) (fun k hk => (kr.lt k hk).1)
  have gs := grown_setW w5 ⟨p5, 1, none⟩ v'
  have hc : w5.cell? ⟨p5, 1, none⟩ = some vs := by unfold At at r3; simp [World.cell?, r3]
  have q1 := At.grown r1 gs (by simp; omega)
  refine ⟨r1, hc, frozen_of_row w5 p5 1 _ _ r3, q1, q1, At.grown r2 gs (by simp; omega), ?_, ⟨r4.kr.kept gs (own_none r4.kr r3 (by decide)), fun p hp => (r4.ke p hp).kept gs (own_none (r4.ke p hp) r3 (by decide))⟩, r5.kept gs (own_none r5 r3 (by decide)), d5.setCell (p := ⟨p5, 1, none⟩) (by show b ≤ p5; omega) v'⟩
  unfold At at r3 ⊢
  simp [World.setCell, Array.getElem?_modify, r3]
theorem At.second {w : World} {p : Nat} {x y : Value} {t : TypeId} (h : At w p (.cells #[x, y] t)) (z : Value) : At (w.setCell ⟨p, 1, none⟩ z) p (.cells #[x, z] t) := by
  unfold At at h ⊢
  simp [World.setCell, Array.getElem?_modify, h]
theorem WI.done {b p5 : Nat} {V : Mat} {vo : Value} {l : List Int} {vs : Value} {K : List KRow} {w0 w : World} (h : WI b p5 V vo l vs K w0 w) :
    At ((w.setCell ⟨b + 1, 0, none⟩ vo).setCell ⟨b + 1, 1, none⟩ vs) (b + 1) (.cells #[vo, vs] 32) ∧ ((w.setCell ⟨b + 1, 0, none⟩ vo).setCell ⟨b + 1, 1, none⟩ vs).ownsRow b 3 1 vo l.length (l.map (Value.int .i64)) ∧ OwnK b ((w.setCell ⟨b + 1, 0, none⟩ vo).setCell ⟨b + 1, 1, none⟩ vs) vs K ∧ Below b w0 ((w.setCell ⟨b + 1, 0, none⟩ vo).setCell ⟨b + 1, 1, none⟩ vs) := by
  have g1 := grown_setW w ⟨b + 1, 0, none⟩ vo
  have a1 : At (w.setCell ⟨b + 1, 0, none⟩ vo) (b + 1) (.cells #[vo, .slice none 0 0] 32) := by
    have := h.res
    unfold At at this ⊢
    simp [World.setCell, Array.getElem?_modify, this]
  have g2 := grown_setW (w.setCell ⟨b + 1, 0, none⟩ vo) ⟨b + 1, 1, none⟩ vs
  have o1 := h.ord.kept g1 (own_none h.ord h.res (by decide))
  have o2 := o1.kept g2 (own_none o1 a1 (by decide))
  have k1 := h.own.kr.kept g1 (own_none h.own.kr h.res (by decide))
  have k2 := k1.kept g2 (own_none k1 a1 (by decide))
  have hk : OwnK b ((w.setCell ⟨b + 1, 0, none⟩ vo).setCell ⟨b + 1, 1, none⟩ vs) vs K := ⟨k2, fun p hp => by
    have q1 := (h.own.ke p hp).kept g1 (own_none (h.own.ke p hp) h.res (by decide))
    exact q1.kept g2 (own_none q1 a1 (by decide))⟩
  refine ⟨?_, o2, hk, (h.bel.setCell (p := ⟨b + 1, 0, none⟩) (by show b ≤ b + 1; omega) vo).setCell (p := ⟨b + 1, 1, none⟩) (by show b ≤ b + 1; omega) vs⟩
  exact a1.second vs
set_option maxRecDepth 100000 in
set_option maxHeartbeats 16000000 in
theorem awitness_own (va : Value) (l : List Int) (V : Mat) (w : World) (ht : Tab w) (hI : Ints w va l) (hl : l.length ≤ 64) :
    Calls Tryz.prog 69 #[va, .agg (rowsA V)] w fun e w' => (∃ vo vs K, e = .returned (.agg #[vo, vs]) ∧ w'.ownsRow w.heap.size 3 1 vo l.length (l.map (Value.int .i64)) ∧ OwnK w.heap.size w' vs K ∧ K.map (fun p : KRow => p.2) = seesL V l.length) ∧ Below w.heap.size w w' := by
  have hg := ht.pos
  obtain ⟨i0, hi, hz0, hz1, hz2⟩ := info_parts infoIntsL
  have HT : Hid (∀ wx, Below w.heap.size w wx → Tab wx) := Lib.hid (fun wx hb => ht.below hb hg)
  have HI := Lib.hid (fun wx (hx : Below w.heap.size w wx) => hI.below hx)
  obtain ⟨ao, cap, rfl, hal⟩ := hI.form
  have r0 : RelAt (w.alloc (.cells (rowsA V) 97)) w.heap.size 97 V := RelAt.made w _ _ rfl rfl
  have hb0 := box_below w (.cells (rowsA V) 97)
  clear ht hI
  go_enter Tryz.func69, Tryz.ntmps69
  go_upto_region 1 with fail
  generalize hw0 : w.alloc (.cells (rowsA V) 97) = w0 at *
  have hs0 : w0.heap.size = w.heap.size + 1 := by rw [← hw0]; simp
  clear hw0
  have a4 := At.new w0 (.cells #[.slice none 0 0, .slice none 0 0] 32)
  rw [hs0] at a4
  have r0 := r0.alloc (.cells #[.slice none 0 0, .slice none 0 0] 32)
  have hb1 := hb0.alloc (by omega) (.cells #[.slice none 0 0, .slice none 0 0] 32)
  have hs1 : (w0.alloc (.cells #[.slice none 0 0, .slice none 0 0] 32)).heap.size = w.heap.size + 2 := by simp [hs0]
  generalize w0.alloc (.cells #[.slice none 0 0, .slice none 0 0] 32) = w1 at *
  have CC := Lib.hid (clone_ints _ l w1 (HI.out _ hb1) (by omega))
  clear hb0 hs0
  go_wp2_with fail
  refine (CC.out).mono ?_
  rintro e w2 ⟨vo, rfl, hO2, h2⟩
  have r2 := r0.below h2 r0.lt
  have a4 := a4.below h2
  have hb2 := below_then hb1 h2
  have hp5 : w.heap.size + 2 ≤ w2.heap.size := by have := h2.size; omega
  obtain ⟨oo, oc, rfl⟩ := owns_form hO2
  go_upto_region 2 with fail
  have hWI : WI w.heap.size w2.heap.size V (.slice oo l.length oc) l (.slice none 0 0) [] w (w2.alloc (.cells #[.slice oo l.length oc, .slice none 0 0] 32)) :=
    ⟨r2.alloc _, a4.alloc _, At.new w2 _, OwnK.nil _ _, own_base' (hO2.alloc _) (by omega), hb2.alloc hb2.size _⟩
  generalize w2.alloc (.cells #[.slice oo l.length oc, .slice none 0 0] 32) = w3 at *
  generalize w2.heap.size = p5 at *
  clear r0 r2 a4 hb1 hb2 hO2 h2 hs1 CC
  go_wp2_with fail
  go_loopw [12] (fun iv wr => ∃ (k : Nat) (vs : Value) (K : List KRow), k ≤ l.length ∧ iv = .int .i64 k ∧ K.map (fun p : KRow => p.2) = seesL V k ∧ WI w.heap.size p5 V (.slice oo l.length oc) l vs K w wr) (fun iv _ => l.length - (intOf iv).toNat)
  case atStart => exact ⟨0, .slice none 0 0, [], by omega, rfl, rfl, hWI⟩
  case round =>
    clear hWI
    obtain ⟨k, vs, K, hk, rfl, hK, hW⟩ := hrel
    by_cases hlt : k < l.length
    · have hki : (k : Int) < (l.length : Int) := by omega
      have hKl : K.length = k := by have := congrArg List.length hK; simpa [seesL] using this
      obtain ⟨vsa, vsc, rfl⟩ := owns_form hW.own.kr
      have HNX : Hid (∀ u, (K ++ [(u, (lst (seeTo V (k : Int) 64)).map Int.ofNat)]).map (fun p : KRow => p.2) = seesL V (k + 1)) := Lib.hid (fun u => by rw [List.map_append, hK, seesL_succ]; rfl)
      have CS := Lib.hid (fun wx => asees_any V (k : Int) wx)
      have CL : Hid (∀ wx, Below wr.heap.size wr wx → Calls Tryz.prog 124 #[.int .u64 ((seeTo V (k : Int) 64 : Nat) : Int)] wx fun e w' => ∃ v, e = .returned v ∧ w'.ownsRow w.heap.size 3 1 v ((lst (seeTo V (k : Int) 64)).map Int.ofNat).length (((lst (seeTo V (k : Int) 64)).map Int.ofNat).map (Value.int .i64)) ∧ Below wx.heap.size wx w') := Lib.hid (fun wx hx => (list_any (seeTo V (k : Int) 64) wx (seeTo_set V _ 64) (HT.out _ (hW.bel.trans (hx.mono (Nat.le_of_lt hW.rel.lt))))).mono (by
        rintro e w' ⟨v, he, ho, hb⟩
        refine ⟨v, he, own_base' ?_ (show w.heap.size ≤ wx.heap.size by have h1 := hx.size; have h2 := hW.rel.lt; omega), hb⟩
        rw [List.length_map, List.map_map]
        exact ho))
      have HW := Lib.hid (fun wx (hx : Below wr.heap.size wr wx) => hW.below hx)
      have HSR : Hid (∀ wx, Below wr.heap.size wr wx → RelAt wx w.heap.size 97 V) := Lib.hid (fun wx hx => (hW.below hx).rel)
      have HCL : Hid (∀ wx, Below wr.heap.size wr wx → wx.cell? ⟨p5, 1, none⟩ = some (.slice vsa K.length vsc)) := Lib.hid (fun wx hx => by have r3 := (hW.below hx).box; unfold At at r3; simp [World.cell?, r3])
      have HSZ : Hid (∀ wx (o : Obj), Below wr.heap.size wr wx → w.heap.size ≤ (wx.alloc o).heap.size) := Lib.hid (fun wx o hx => by have h1 := hx.size; have h2 := hW.rel.lt; simp; omega)
      have n3 : Hid (K.length + 1 ≤ maxLen) := Lib.hid (by unfold maxLen; omega)
      have n4 : Hid ((K.length + 1) * 24 ≤ 140737488355328) := Lib.hid (by omega)
      generalize hLs : (lst (seeTo V (k : Int) 64)).map Int.ofNat = ls at *
      clear hLs
      have kd := (Below.refl wr.heap.size wr).drew
      clear hW hK hKl
      go_upto_region 5 with fail

      refine wp_region_held_drew (S := fun wx => RelAt wx w.heap.size 97 V) (by kernel_rfl) (HSR.out _ kd) (fun hS0 => ?_)
      refine takeG (some 15) (i := 0) (v := ?vw0) rfl rfl (by kernel_rfl) (by kernel_rfl) (by kernel_rfl) (fun _ _ _ h => h) (Or.inl ⟨by rfl, ?hw0⟩) hS0 ?rw0
      case hw0 => (intro w _; go_simp; try (with_reducible rfl))
      try simp only [Act.put, List.setIfInBounds_toArray, List.set_cons_zero, List.set_cons_succ]
      refine takeG (some 18) (i := 3) (v := ?vw3) rfl rfl (by kernel_rfl) (by kernel_rfl) (by kernel_rfl) (fun _ _ _ h => h) (Or.inl ⟨by rfl, ?hw3⟩) hS0 ?rw3
      case hw3 => (intro w _; go_simp; try (with_reducible rfl))
      try simp only [Act.put, List.setIfInBounds_toArray, List.set_cons_zero, List.set_cons_succ]
      refine takeG (some 17) (i := 2) (v := _) rfl rfl (by kernel_rfl) (by kernel_rfl) (by kernel_rfl) (fun _ _ _ h => h) (yields_rel (by rfl) _ rfl rfl (fun w hw => hw)) hS0 ?_
      try simp only [Act.put, List.setIfInBounds_toArray, List.set_cons_zero, List.set_cons_succ]
      generalize wr.drew = wd at *
      refine wpAnyH_ready (rs := [1, 4]) (by kernel_rfl) (by simp) ?_
      refine AllReadyH.cons rfl (fun K' hK' => ?_) (AllReadyH.cons rfl (fun K' hK' => ?_) AllReadyH.nil)
      ·
        have hc1 := HCL.out _ kd
        go_simp
        refine hK'.out _ _ hS0 (fun _ => ?_)
        clear hK' K' hc1
        refine wpAnyH_ready (rs := [4]) (by kernel_rfl) (by simp) ?_
        refine AllReadyH.cons rfl (fun K' hK' => ?_) AllReadyH.nil
        go_simp
        refine (CS.out _).mono ?_
        rintro e q2 ⟨rfl, j2⟩
        show K' _ _
        have k2 := below_then kd j2
        have s2 := HSR.out _ k2
        refine hK'.out _ _ s2 (fun _ => ?_)
        clear hK' K'
        refine wpAnyH_ready (rs := [5]) (by kernel_rfl) (by simp) ?_
        refine AllReadyH.cons rfl (fun K' hK' => ?_) AllReadyH.nil
        go_simp
        refine (CL.out _ k2).mono ?_
        rintro e q3 ⟨vx, rfl, hox, j3⟩
        obtain ⟨ax, cx, hvx⟩ := owns_form hox
        subst hvx
        show K' _ _
        have k3 := below_then k2 j3
        have s3 := HSR.out _ k3
        refine hK'.out _ _ s3 (fun _ => ?_)
        clear hK' K'
        refine wpAnyH_ready (rs := [6]) (by kernel_rfl) (by simp) ?_
        refine AllReadyH.cons rfl (fun K' hK' => ?_) AllReadyH.nil
        go_simp
        have s4 := s3.alloc (.cells #[.slice ax ls.length cx] 29)
        have HCA4 := HCL.out _ (k3.alloc k3.size (.cells #[.slice ax ls.length cx] 29))
        refine hK'.out _ _ s4 (fun _ => ?_)
        clear hK' K'
        refine wpAnyH_ready (rs := [7]) (by kernel_rfl) (by simp) ?_
        refine AllReadyH.cons rfl (fun K' hK' => ?_) AllReadyH.nil
        refine step_app _ rfl (.tmp 16) (.tmp 21) 30 rfl w.heap.size 29 i0 (.slice none 0 0) 1 24 Tryz.underlying30 hi hz0 hz1 hz2 rfl (by decide) (.slice vsa K.length vsc) K.length (K.map (·.1)) (by simp [Act.eval]) ((HW.out _ k3).own.kr.alloc _) ⟨q3.heap.size, 0, none⟩ 1 1 [.slice ax ls.length cx] (by simp [Act.eval]) rfl ?c1x5 ?c2x5 ?c3x5 ?c4x5 ?c5x5 ?c6x5
        case c1x5 => exact lit_newS _ _ _
        case c2x5 => intro u hu; simp at hu; subst hu; rfl
        case c3x5 => exact n3.out
        case c4x5 => exact n4.out
        case c5x5 => exact HSZ.out _ _ k3
        case c6x5 =>
          intro v5 w5 hown5 hg5
          obtain ⟨a5, c5, hv5⟩ := owns_form hown5
          subst hv5
          obtain ⟨hS5, hcz, hfz, hS6, hF5⟩ := WI.add hp5 (HW.out _ k3) hox hown5 hg5
          show K' _ _
          refine hK'.out _ _ hS5 (fun _ => ?_)
          clear hK' K'
          refine takeG (some 23) (i := 8) (v := ?vw5x8) rfl rfl (by kernel_rfl) (by kernel_rfl) (by kernel_rfl) (fun _ _ _ h => h) (Or.inl ⟨by rfl, ?hw5x8⟩) hS5 ?rw5x8
          case hw5x8 => (intro w _; go_simp; try (with_reducible rfl))
          try simp only [Act.put, List.setIfInBounds_toArray]
          refine wpAnyH_ready (rs := [9]) (by kernel_rfl) (by simp) ?_
          refine AllReadyH.cons rfl (fun K' hK' => ?_) AllReadyH.nil
          go_simp
          refine hK'.out _ _ hS6 (fun _ => ?_)
          clear hK' K'
          refine wpAnyH_done (by kernel_rfl) ?_ _
          go_wp2_with fail
          go_roundw
          case rel => exact ⟨k + 1, _, _, by omega, by go_num, HNX.out _, hF5⟩
          case measure => simp [intOf]; omega
      ·
        go_simp
        refine (CS.out _).mono ?_
        rintro e q7 ⟨rfl, j7⟩
        show K' _ _
        have k7 := below_then kd j7
        have s7 := HSR.out _ k7
        refine hK'.out _ _ s7 (fun _ => ?_)
        clear hK' K'
        refine wpAnyH_ready (rs := [1, 5]) (by kernel_rfl) (by simp) ?_
        refine AllReadyH.cons rfl (fun K' hK' => ?_) (AllReadyH.cons rfl (fun K' hK' => ?_) AllReadyH.nil)
        ·
          have hc8 := HCL.out _ k7
          go_simp
          refine hK'.out _ _ s7 (fun _ => ?_)
          clear hK' K' hc8
          refine wpAnyH_ready (rs := [5]) (by kernel_rfl) (by simp) ?_
          refine AllReadyH.cons rfl (fun K' hK' => ?_) AllReadyH.nil
          go_simp
          refine (CL.out _ k7).mono ?_
          rintro e q9 ⟨vx, rfl, hox, j9⟩
          obtain ⟨ax, cx, hvx⟩ := owns_form hox
          subst hvx
          show K' _ _
          have k9 := below_then k7 j9
          have s9 := HSR.out _ k9
          refine hK'.out _ _ s9 (fun _ => ?_)
          clear hK' K'
          refine wpAnyH_ready (rs := [6]) (by kernel_rfl) (by simp) ?_
          refine AllReadyH.cons rfl (fun K' hK' => ?_) AllReadyH.nil
          go_simp
          have s10 := s9.alloc (.cells #[.slice ax ls.length cx] 29)
          have HCA10 := HCL.out _ (k9.alloc k9.size (.cells #[.slice ax ls.length cx] 29))
          refine hK'.out _ _ s10 (fun _ => ?_)
          clear hK' K'
          refine wpAnyH_ready (rs := [7]) (by kernel_rfl) (by simp) ?_
          refine AllReadyH.cons rfl (fun K' hK' => ?_) AllReadyH.nil
          refine step_app _ rfl (.tmp 16) (.tmp 21) 30 rfl w.heap.size 29 i0 (.slice none 0 0) 1 24 Tryz.underlying30 hi hz0 hz1 hz2 rfl (by decide) (.slice vsa K.length vsc) K.length (K.map (·.1)) (by simp [Act.eval]) ((HW.out _ k9).own.kr.alloc _) ⟨q9.heap.size, 0, none⟩ 1 1 [.slice ax ls.length cx] (by simp [Act.eval]) rfl ?c1x11 ?c2x11 ?c3x11 ?c4x11 ?c5x11 ?c6x11
          case c1x11 => exact lit_newS _ _ _
          case c2x11 => intro u hu; simp at hu; subst hu; rfl
          case c3x11 => exact n3.out
          case c4x11 => exact n4.out
          case c5x11 => exact HSZ.out _ _ k9
          case c6x11 =>
            intro v5 w5 hown5 hg5
            obtain ⟨a5, c5, hv5⟩ := owns_form hown5
            subst hv5
            obtain ⟨hS5, hcz, hfz, hS6, hF5⟩ := WI.add hp5 (HW.out _ k9) hox hown5 hg5
            show K' _ _
            refine hK'.out _ _ hS5 (fun _ => ?_)
            clear hK' K'
            refine takeG (some 23) (i := 8) (v := ?vw11x8) rfl rfl (by kernel_rfl) (by kernel_rfl) (by kernel_rfl) (fun _ _ _ h => h) (Or.inl ⟨by rfl, ?hw11x8⟩) hS5 ?rw11x8
            case hw11x8 => (intro w _; go_simp; try (with_reducible rfl))
            try simp only [Act.put, List.setIfInBounds_toArray]
            refine wpAnyH_ready (rs := [9]) (by kernel_rfl) (by simp) ?_
            refine AllReadyH.cons rfl (fun K' hK' => ?_) AllReadyH.nil
            go_simp
            refine hK'.out _ _ hS6 (fun _ => ?_)
            clear hK' K'
            refine wpAnyH_done (by kernel_rfl) ?_ _
            go_wp2_with fail
            go_roundw
            case rel => exact ⟨k + 1, _, _, by omega, by go_num, HNX.out _, hF5⟩
            case measure => simp [intOf]; omega
        ·
          go_simp
          refine (CL.out _ k7).mono ?_
          rintro e q13 ⟨vx, rfl, hox, j13⟩
          obtain ⟨ax, cx, hvx⟩ := owns_form hox
          subst hvx
          show K' _ _
          have k13 := below_then k7 j13
          have s13 := HSR.out _ k13
          refine hK'.out _ _ s13 (fun _ => ?_)
          clear hK' K'
          refine wpAnyH_ready (rs := [1, 6]) (by kernel_rfl) (by simp) ?_
          refine AllReadyH.cons rfl (fun K' hK' => ?_) (AllReadyH.cons rfl (fun K' hK' => ?_) AllReadyH.nil)
          ·
            have hc14 := HCL.out _ k13
            go_simp
            refine hK'.out _ _ s13 (fun _ => ?_)
            clear hK' K' hc14
            refine wpAnyH_ready (rs := [6]) (by kernel_rfl) (by simp) ?_
            refine AllReadyH.cons rfl (fun K' hK' => ?_) AllReadyH.nil
            go_simp
            have s15 := s13.alloc (.cells #[.slice ax ls.length cx] 29)
            have HCA15 := HCL.out _ (k13.alloc k13.size (.cells #[.slice ax ls.length cx] 29))
            refine hK'.out _ _ s15 (fun _ => ?_)
            clear hK' K'
            refine wpAnyH_ready (rs := [7]) (by kernel_rfl) (by simp) ?_
            refine AllReadyH.cons rfl (fun K' hK' => ?_) AllReadyH.nil
            refine step_app _ rfl (.tmp 16) (.tmp 21) 30 rfl w.heap.size 29 i0 (.slice none 0 0) 1 24 Tryz.underlying30 hi hz0 hz1 hz2 rfl (by decide) (.slice vsa K.length vsc) K.length (K.map (·.1)) (by simp [Act.eval]) ((HW.out _ k13).own.kr.alloc _) ⟨q13.heap.size, 0, none⟩ 1 1 [.slice ax ls.length cx] (by simp [Act.eval]) rfl ?c1x16 ?c2x16 ?c3x16 ?c4x16 ?c5x16 ?c6x16
            case c1x16 => exact lit_newS _ _ _
            case c2x16 => intro u hu; simp at hu; subst hu; rfl
            case c3x16 => exact n3.out
            case c4x16 => exact n4.out
            case c5x16 => exact HSZ.out _ _ k13
            case c6x16 =>
              intro v5 w5 hown5 hg5
              obtain ⟨a5, c5, hv5⟩ := owns_form hown5
              subst hv5
              obtain ⟨hS5, hcz, hfz, hS6, hF5⟩ := WI.add hp5 (HW.out _ k13) hox hown5 hg5
              show K' _ _
              refine hK'.out _ _ hS5 (fun _ => ?_)
              clear hK' K'
              refine takeG (some 23) (i := 8) (v := ?vw16x8) rfl rfl (by kernel_rfl) (by kernel_rfl) (by kernel_rfl) (fun _ _ _ h => h) (Or.inl ⟨by rfl, ?hw16x8⟩) hS5 ?rw16x8
              case hw16x8 => (intro w _; go_simp; try (with_reducible rfl))
              try simp only [Act.put, List.setIfInBounds_toArray]
              refine wpAnyH_ready (rs := [9]) (by kernel_rfl) (by simp) ?_
              refine AllReadyH.cons rfl (fun K' hK' => ?_) AllReadyH.nil
              go_simp
              refine hK'.out _ _ hS6 (fun _ => ?_)
              clear hK' K'
              refine wpAnyH_done (by kernel_rfl) ?_ _
              go_wp2_with fail
              go_roundw
              case rel => exact ⟨k + 1, _, _, by omega, by go_num, HNX.out _, hF5⟩
              case measure => simp [intOf]; omega
          ·
            go_simp
            have s18 := s13.alloc (.cells #[.slice ax ls.length cx] 29)
            have HCA18 := HCL.out _ (k13.alloc k13.size (.cells #[.slice ax ls.length cx] 29))
            refine hK'.out _ _ s18 (fun _ => ?_)
            clear hK' K'
            refine wpAnyH_ready (rs := [1]) (by kernel_rfl) (by simp) ?_
            refine AllReadyH.cons rfl (fun K' hK' => ?_) AllReadyH.nil
            have hc19 := HCA18
            go_simp
            refine hK'.out _ _ s18 (fun _ => ?_)
            clear hK' K' hc19
            refine wpAnyH_ready (rs := [7]) (by kernel_rfl) (by simp) ?_
            refine AllReadyH.cons rfl (fun K' hK' => ?_) AllReadyH.nil
            refine step_app _ rfl (.tmp 16) (.tmp 21) 30 rfl w.heap.size 29 i0 (.slice none 0 0) 1 24 Tryz.underlying30 hi hz0 hz1 hz2 rfl (by decide) (.slice vsa K.length vsc) K.length (K.map (·.1)) (by simp [Act.eval]) ((HW.out _ k13).own.kr.alloc _) ⟨q13.heap.size, 0, none⟩ 1 1 [.slice ax ls.length cx] (by simp [Act.eval]) rfl ?c1x20 ?c2x20 ?c3x20 ?c4x20 ?c5x20 ?c6x20
            case c1x20 => exact lit_newS _ _ _
            case c2x20 => intro u hu; simp at hu; subst hu; rfl
            case c3x20 => exact n3.out
            case c4x20 => exact n4.out
            case c5x20 => exact HSZ.out _ _ k13
            case c6x20 =>
              intro v5 w5 hown5 hg5
              obtain ⟨a5, c5, hv5⟩ := owns_form hown5
              subst hv5
              obtain ⟨hS5, hcz, hfz, hS6, hF5⟩ := WI.add hp5 (HW.out _ k13) hox hown5 hg5
              show K' _ _
              refine hK'.out _ _ hS5 (fun _ => ?_)
              clear hK' K'
              refine takeG (some 23) (i := 8) (v := ?vw20x8) rfl rfl (by kernel_rfl) (by kernel_rfl) (by kernel_rfl) (fun _ _ _ h => h) (Or.inl ⟨by rfl, ?hw20x8⟩) hS5 ?rw20x8
              case hw20x8 => (intro w _; go_simp; try (with_reducible rfl))
              try simp only [Act.put, List.setIfInBounds_toArray]
              refine wpAnyH_ready (rs := [9]) (by kernel_rfl) (by simp) ?_
              refine AllReadyH.cons rfl (fun K' hK' => ?_) AllReadyH.nil
              go_simp
              refine hK'.out _ _ hS6 (fun _ => ?_)
              clear hK' K'
              refine wpAnyH_done (by kernel_rfl) ?_ _
              go_wp2_with fail
              go_roundw
              case rel => exact ⟨k + 1, _, _, by omega, by go_num, HNX.out _, hF5⟩
              case measure => simp [intOf]; omega
    · have hkn : k = l.length := by omega
      have hnk : ¬ (k : Int) < (l.length : Int) := by omega
      rw [hkn] at hK
      have HL := Lib.hid hK
      clear hK
      have b1 := hW.box
      have b2 := hW.res
      obtain ⟨vsa, vsc, rfl⟩ := owns_form hW.own.kr
      have c0 : wr.cell? ⟨p5, 0, none⟩ = some (.slice oo l.length oc) := by unfold At at b1; simp [World.cell?, b1]
      have c1 : wr.cell? ⟨p5, 1, none⟩ = some (.slice vsa K.length vsc) := by unfold At at b1; simp [World.cell?, b1]
      have c2 : wr.cell? ⟨w.heap.size + 1, 0, none⟩ = some (.slice none 0 0) := by unfold At at b2; simp [World.cell?, b2]
      have c3 : wr.cell? ⟨w.heap.size + 1, 1, none⟩ = some (.slice none 0 0) := by unfold At at b2; simp [World.cell?, b2]
      have f2 := frozen_of_row wr (w.heap.size + 1) 0 _ _ b2
      have f3 := frozen_of_row wr (w.heap.size + 1) 1 _ _ b2
      have HW := Lib.hid hW
      clear hW b1 b2
      go_wp2_with fail
      obtain ⟨e1, e2, e3, e4⟩ := WI.done HW.out
      generalize (wr.setCell ⟨w.heap.size + 1, 0, none⟩ (.slice oo l.length oc)).setCell ⟨w.heap.size + 1, 1, none⟩ (.slice vsa K.length vsc) = w7 at *
      have d0 : w7.cell? ⟨w.heap.size + 1, 0, none⟩ = some (.slice oo l.length oc) := by unfold At at e1; simp [World.cell?, e1]
      have d1 : w7.cell? ⟨w.heap.size + 1, 1, none⟩ = some (.slice vsa K.length vsc) := by unfold At at e1; simp [World.cell?, e1]
      clear c0 c1 c2 c3 f2 f3
      refine bodyPost_ret (v := .agg #[.slice oo l.length oc, .slice vsa K.length vsc]) ?_ rfl ⟨⟨_, _, rfl, e2, K, e3, HL.out⟩, e4⟩
      simp [results, Tryz.results69, go_sem, d0, d1]
end Go.Proofs.YtecpeegbfeijaaaGreatDoor

namespace Go.Proofs.YtecpeegbfeijaaaGreatDoor
set_option maxRecDepth 100000
open Go.RowKit Go.Shelf

theorem info50 : (Tryz.prog.info? 32).map (·.size) = some 2 := by kernel_rfl
theorem run_load_wit {w : World} {g : Nat} {vo vs : Value} (h0 : w.cell? ⟨g, 0, none⟩ = some vo) (h1 : w.cell? ⟨g, 1, none⟩ = some vs) : (loadVar 32 ⟨g, 0, none⟩).run Tryz.prog w = .ok (.agg #[vo, vs]) w := by
  have hl : (loadCells ⟨g, 0, none⟩ [vo, vs].length).run Tryz.prog w = .ok [vo, vs].toArray w :=
    run_loadCells_list (P := Tryz.prog) w ⟨g, 0, none⟩ [vo, vs] (fun j v hv => by
      have hadd : (⟨g, 0, none⟩ : Addr).add j = ⟨g, j, none⟩ := by unfold Addr.add; split <;> simp_all
      rw [hadd]
      match j, hv with
      | 0, hv => rw [h0]; exact hv
      | 1, hv => rw [h1]; exact hv
      | j + 2, hv => simp at hv)
  cases hq : Tryz.prog.info? 32 with
  | none => have := info50; simp [hq] at this
  | some i =>
    have hs : i.size = 2 := by have := info50; simpa [hq] using this
    have hagg : (isAgg 32).run Tryz.prog w = .ok true w := by
      unfold isAgg
      rw [Sem.run_bind, run_underlying Tryz.underlying32 w]
      rfl
    simp only [List.length_cons, List.length_nil, Nat.zero_add, Nat.reduceAdd] at hl
    simp [loadVar, Sem.run_bind, hagg, sizeOf, typeInfo, hq, hs, hl]
theorem run_load_bool {w : World} {g : Nat} {v : Value} (h0 : w.cell? ⟨g, 0, none⟩ = some v) : (loadVar 4 ⟨g, 0, none⟩).run Tryz.prog w = .ok v w := by
  have hagg : (isAgg 4).run Tryz.prog w = .ok false w := by
    unfold isAgg
    rw [Sem.run_bind, run_underlying Tryz.underlying4 w]
    rfl
  simp [loadVar, Sem.run_bind, hagg, h0]
theorem results_dec {fn : Func} {p q u : Tmp} (h : fn.results = #[.cell p 32, .cell q 4, .cell u 4]) (tmps : Array Value) (w : World) (g1 g2 g3 : Nat) (vo vs b1 b2 : Value)
    (hp : tmps.getD p undef = .pointer (some ⟨g1, 0, none⟩)) (hq : tmps.getD q undef = .pointer (some ⟨g2, 0, none⟩)) (hu : tmps.getD u undef = .pointer (some ⟨g3, 0, none⟩))
    (h0 : w.cell? ⟨g1, 0, none⟩ = some vo) (h1 : w.cell? ⟨g1, 1, none⟩ = some vs) (h2 : w.cell? ⟨g2, 0, none⟩ = some b1) (h3 : w.cell? ⟨g3, 0, none⟩ = some b2) : (results fn tmps).run Tryz.prog w = .ok (.tuple #[.agg #[vo, vs], b1, b2]) w := by
  have hp' : tmps[p]?.getD undef = .pointer (some ⟨g1, 0, none⟩) := by simpa using hp
  have hq' : tmps[q]?.getD undef = .pointer (some ⟨g2, 0, none⟩) := by simpa using hq
  have hu' : tmps[u]?.getD undef = .pointer (some ⟨g3, 0, none⟩) := by simpa using hu
  simp [results, h, hp', hq', hu', asAddr, Sem.run_bind, run_load_wit h0 h1, run_load_bool h2, run_load_bool h3, Result.andThen]
/-- What Decide hands back: nothing; or the first order by which the level is kept, and what is seen at least. -/
def DecRes (h : List TxnV) (lv : Int) (v : Value) (w : World) : Prop :=
  if h.length ≤ 8 then
    match (ordersN h.length).find? (keptL h lv) with
    | none => v = .tuple #[.agg #[.slice none 0 0, .slice none 0 0], .bool false, .bool true]
    | some r => ∃ vo vs X, v = .tuple #[.agg #[vo, vs], .bool true, .bool true] ∧ LeastIs h (askN lv) (r.map Int.ofNat) X ∧ Ints w vo (r.map Int.ofNat) ∧ Lists w vs (seesL X (r.map Int.ofNat).length)
  else v = .tuple #[.agg #[.slice none 0 0, .slice none 0 0], .bool false, .bool false]
/-- What stands in the loop's own cells: of what was handed in, and of what is to be handed back. -/
structure DecI (s B : Nat) (lv : Int) (vo vs b1 b2 : Value) (w W : World) : Prop where
  c0 : W.cell? ⟨s, 0, none⟩ = some (.pointer (some ⟨B, 0, none⟩))
  c1 : W.cell? ⟨s + 1, 0, none⟩ = some (.int .i64 lv)
  c2 : W.cell? ⟨s + 1 + 1, 0, none⟩ = some vo
  d2 : W.cell? ⟨s + 1 + 1, 1, none⟩ = some vs
  c3 : W.cell? ⟨s + 1 + 1 + 1, 0, none⟩ = some b1
  c4 : W.cell? ⟨s + 1 + 1 + 1 + 1, 0, none⟩ = some b2
  f2 : W.frozen? ⟨s + 1 + 1, 0, none⟩ = false
  g2 : W.frozen? ⟨s + 1 + 1, 1, none⟩ = false
  f3 : W.frozen? ⟨s + 1 + 1 + 1, 0, none⟩ = false
  f4 : W.frozen? ⟨s + 1 + 1 + 1 + 1, 0, none⟩ = false
  bel : Below s w W
section
variable {s B D : Nat} {lv : Int} {vo vs b1 b2 : Value} {w W W' : World}
theorem DecI.below (q : DecI s B lv vo vs b1 b2 w W) (hb : Below D W W') (hD : s + 6 ≤ D) : DecI s B lv vo vs b1 b2 w W' :=
  ⟨(hb.cell (p := ⟨s, 0, none⟩) (by show s < D; omega)).trans q.c0, (hb.cell (p := ⟨s + 1, 0, none⟩) (by show s + 1 < D; omega)).trans q.c1, (hb.cell (p := ⟨s + 1 + 1, 0, none⟩) (by show s + 1 + 1 < D; omega)).trans q.c2, (hb.cell (p := ⟨s + 1 + 1, 1, none⟩) (by show s + 1 + 1 < D; omega)).trans q.d2,
    (hb.cell (p := ⟨s + 1 + 1 + 1, 0, none⟩) (by show s + 1 + 1 + 1 < D; omega)).trans q.c3, (hb.cell (p := ⟨s + 1 + 1 + 1 + 1, 0, none⟩) (by show s + 1 + 1 + 1 + 1 < D; omega)).trans q.c4,
    (hb.frozen (p := ⟨s + 1 + 1, 0, none⟩) (by show s + 1 + 1 < D; omega)).trans q.f2, (hb.frozen (p := ⟨s + 1 + 1, 1, none⟩) (by show s + 1 + 1 < D; omega)).trans q.g2,
    (hb.frozen (p := ⟨s + 1 + 1 + 1, 0, none⟩) (by show s + 1 + 1 + 1 < D; omega)).trans q.f3, (hb.frozen (p := ⟨s + 1 + 1 + 1 + 1, 0, none⟩) (by show s + 1 + 1 + 1 + 1 < D; omega)).trans q.f4, q.bel.trans (hb.mono (by omega))⟩
/-- All four are written. -/
theorem DecI.put (q : DecI s B lv vo vs b1 b2 w W) (uo us u1 u2 : Value) :
    DecI s B lv uo us u1 u2 w ((((W.setCell ⟨s + 1 + 1, 0, none⟩ uo).setCell ⟨s + 1 + 1, 1, none⟩ us).setCell ⟨s + 1 + 1 + 1, 0, none⟩ u1).setCell ⟨s + 1 + 1 + 1 + 1, 0, none⟩ u2) := by
  obtain ⟨c0, c1, c2, d2, c3, c4, f2, g2, f3, f4, bel⟩ := q
  refine ⟨?_, ?_, ?_, ?_, ?_, ?_, ?_, ?_, ?_, ?_, ?_⟩
  · simp [World.cell?_setCell_other, c0]
  · simp [World.cell?_setCell_other, c1]
  · rw [World.cell?_setCell_other _ _ _ _ (by simp), World.cell?_setCell_other _ _ _ _ (by simp), World.cell?_setCell_other _ _ _ _ (by simp)]
    exact World.cell?_setCell_same _ _ _ c2
  · rw [World.cell?_setCell_other _ _ _ _ (by simp), World.cell?_setCell_other _ _ _ _ (by simp)]
    exact World.cell?_setCell_same _ _ _ (by rw [World.cell?_setCell_other _ _ _ _ (by simp)]; exact d2)
  · rw [World.cell?_setCell_other _ _ _ _ (by simp)]
    exact World.cell?_setCell_same _ _ _ (by rw [World.cell?_setCell_other _ _ _ _ (by simp), World.cell?_setCell_other _ _ _ _ (by simp)]; exact c3)
  · exact World.cell?_setCell_same _ _ _ (by rw [World.cell?_setCell_other _ _ _ _ (by simp), World.cell?_setCell_other _ _ _ _ (by simp), World.cell?_setCell_other _ _ _ _ (by simp)]; exact c4)
  · simp only [World.frozen?_setCell]; exact f2
  · simp only [World.frozen?_setCell]; exact g2
  · simp only [World.frozen?_setCell]; exact f3
  · simp only [World.frozen?_setCell]; exact f4
  · exact (((bel.setCell (p := ⟨s + 1 + 1, 0, none⟩) (by show s ≤ s + 1 + 1; omega) _).setCell (p := ⟨s + 1 + 1, 1, none⟩) (by show s ≤ s + 1 + 1; omega) _).setCell (p := ⟨s + 1 + 1 + 1, 0, none⟩) (by show s ≤ s + 1 + 1 + 1; omega) _).setCell (p := ⟨s + 1 + 1 + 1 + 1, 0, none⟩) (by show s ≤ s + 1 + 1 + 1 + 1; omega) _
theorem keeps_four (W : World) (uo us u1 u2 : Value) (hD : s + 6 ≤ D) : KeepsHi D W ((((W.setCell ⟨s + 1 + 1, 0, none⟩ uo).setCell ⟨s + 1 + 1, 1, none⟩ us).setCell ⟨s + 1 + 1 + 1, 0, none⟩ u1).setCell ⟨s + 1 + 1 + 1 + 1, 0, none⟩ u2) :=
  (((KeepsHi.setCell W ⟨s + 1 + 1, 0, none⟩ uo (by show s + 1 + 1 < D; omega)).trans (KeepsHi.setCell _ ⟨s + 1 + 1, 1, none⟩ us (by show s + 1 + 1 < D; omega))).trans (KeepsHi.setCell _ ⟨s + 1 + 1 + 1, 0, none⟩ u1 (by show s + 1 + 1 + 1 < D; omega))).trans (KeepsHi.setCell _ ⟨s + 1 + 1 + 1 + 1, 0, none⟩ u2 (by show s + 1 + 1 + 1 + 1 < D; omega))
end
theorem six_boxes (w : World) (B : Nat) (lv n : Int) (t1 t2 t3 t4 t5 t6 : TypeId) : ∀ w6, w6 = (((((w.alloc (.cells #[.pointer (some ⟨B, 0, none⟩)] t1)).alloc (.cells #[.int .i64 lv] t2)).alloc (.cells #[.slice none 0 0, .slice none 0 0] t3)).alloc (.cells #[.bool false] t4)).alloc (.cells #[.bool false] t5)).alloc (.cells #[.int .i64 n] t6) →
    DecI w.heap.size B lv (.slice none 0 0) (.slice none 0 0) (.bool false) (.bool false) w w6 ∧ w6.cell? ⟨w.heap.size + 5, 0, none⟩ = some (.int .i64 n) ∧ w6.heap.size = w.heap.size + 6 := by
  obtain ⟨w1, e1⟩ : ∃ x, x = w.alloc (.cells #[.pointer (some ⟨B, 0, none⟩)] t1) := ⟨_, rfl⟩
  obtain ⟨w2, e2⟩ : ∃ x, x = w1.alloc (.cells #[.int .i64 lv] t2) := ⟨_, rfl⟩
  obtain ⟨w3, e3⟩ : ∃ x, x = w2.alloc (.cells #[.slice none 0 0, .slice none 0 0] t3) := ⟨_, rfl⟩
  obtain ⟨w4, e4⟩ : ∃ x, x = w3.alloc (.cells #[.bool false] t4) := ⟨_, rfl⟩
  obtain ⟨w5, e5⟩ : ∃ x, x = w4.alloc (.cells #[.bool false] t5) := ⟨_, rfl⟩
  rw [← e1, ← e2, ← e3, ← e4, ← e5]
  intro w6 e6
  have s1 : w1.heap.size = w.heap.size + 1 := by rw [e1]; simp
  have s2 : w2.heap.size = w.heap.size + 1 + 1 := by rw [e2]; simp [s1]
  have s3 : w3.heap.size = w.heap.size + 1 + 1 + 1 := by rw [e3]; simp [s2]
  have s4 : w4.heap.size = w.heap.size + 1 + 1 + 1 + 1 := by rw [e4]; simp [s3]
  have s5 : w5.heap.size = w.heap.size + 5 := by rw [e5]; simp [s4]
  have s6 : w6.heap.size = w.heap.size + 6 := by rw [e6]; simp [s5]
  have b1 : Below w.heap.size w w1 := by rw [e1]; exact (Below.refl _ _).alloc (Nat.le_refl _) _
  have b2 : Below w1.heap.size w1 w2 := by rw [e2]; exact (Below.refl _ _).alloc (Nat.le_refl _) _
  have b3 : Below w2.heap.size w2 w3 := by rw [e3]; exact (Below.refl _ _).alloc (Nat.le_refl _) _
  have b4 : Below w3.heap.size w3 w4 := by rw [e4]; exact (Below.refl _ _).alloc (Nat.le_refl _) _
  have b5 : Below w4.heap.size w4 w5 := by rw [e5]; exact (Below.refl _ _).alloc (Nat.le_refl _) _
  have b6 : Below w5.heap.size w5 w6 := by rw [e6]; exact (Below.refl _ _).alloc (Nat.le_refl _) _
  have x4 : Below w4.heap.size w4 w6 := b5.trans (b6.mono b5.size)
  have x3 : Below w3.heap.size w3 w6 := b4.trans (x4.mono b4.size)
  have x2 : Below w2.heap.size w2 w6 := b3.trans (x3.mono b3.size)
  have x1 : Below w1.heap.size w1 w6 := b2.trans (x2.mono b2.size)
  have h1 := heap_alloc_new w (.cells #[.pointer (some ⟨B, 0, none⟩)] t1)
  have h2 := heap_alloc_new w1 (.cells #[.int .i64 lv] t2)
  have h3 := heap_alloc_new w2 (.cells #[.slice none 0 0, .slice none 0 0] t3)
  have h4 := heap_alloc_new w3 (.cells #[.bool false] t4)
  have h5 := heap_alloc_new w4 (.cells #[.bool false] t5)
  have h6 := heap_alloc_new w5 (.cells #[.int .i64 n] t6)
  rw [← e1] at h1; rw [← e2] at h2; rw [← e3] at h3; rw [← e4] at h4; rw [← e5] at h5; rw [← e6] at h6
  have k1 := (x1.block w.heap.size (by omega)).trans h1
  have k2 := (x2.block w1.heap.size (by omega)).trans h2
  have k3 := (x3.block w2.heap.size (by omega)).trans h3
  have k4 := (x4.block w3.heap.size (by omega)).trans h4
  have k5 := (b6.block w4.heap.size (by omega)).trans h5
  rw [s1] at k2; rw [s2] at k3; rw [s3] at k4; rw [s4] at k5; rw [s5] at h6
  refine ⟨⟨?_, ?_, ?_, ?_, ?_, ?_, frozen_of_row _ _ _ _ _ k3, frozen_of_row _ _ _ _ _ k3, frozen_of_row _ _ _ _ _ k4, frozen_of_row _ _ _ _ _ k5, b1.trans (x1.mono b1.size)⟩, ?_, s6⟩
  · rw [cell_of_row _ _ _ _ _ _ k1]; rfl
  · rw [cell_of_row _ _ _ _ _ _ k2]; rfl
  · rw [cell_of_row _ _ _ _ _ _ k3]; rfl
  · rw [cell_of_row _ _ _ _ _ _ k3]; rfl
  · rw [cell_of_row _ _ _ _ _ _ k4]; rfl
  · rw [cell_of_row _ _ _ _ _ _ k5]; rfl
  · rw [cell_of_row _ _ _ _ _ _ h6]; rfl
end Go.Proofs.YtecpeegbfeijaaaGreatDoor
