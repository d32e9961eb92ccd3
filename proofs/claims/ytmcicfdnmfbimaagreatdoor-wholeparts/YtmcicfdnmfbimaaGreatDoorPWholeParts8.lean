/- Walks and plain facts that the proof of the statement WholeParts uses, joined: PrtA. Conditions: each theorem's own. -/
import Derived.Test.YtmcicfdnmfbimaaGreatDoorPWholeParts7
namespace Go.Proofs.YtmcicfdnmfbimaaGreatDoor
set_option maxHeartbeats 32000000
set_option maxRecDepth 100000
open Lib (hid)
section
open Go.RowKit
theorem catRes_form {a b : Int} {b0 : Nat} {e : Ending} {w : World} (h : CatRes a b b0 e w) : ∃ s oo nn cc m, e = .returned (.tuple #[.agg #[.string s, .slice oo nn cc, .int .i64 m], .bool (catF a b).isSome]) ∧ (∀ i, catF a b = some i → m = ((2 ^ i : Nat) : Int)) ∧ (catF a b = none → s = ByteArray.empty ∧ nn = 0 ∧ m = 0) := by
 unfold CatRes at h
 cases hf : catF a b with
 | none =>
  rw [hf] at h
  exact ⟨_, _, _, _, _, h, fun i e => (by cases e), fun _ => ⟨rfl, rfl, rfl⟩⟩
 | some i =>
  rw [hf] at h
  obtain ⟨v, u, h1, h2⟩ := h
  obtain ⟨oo, nn, cc, rfl⟩ := txns_slice h2.txns
  exact ⟨_, _, _, _, _, h1, fun j e => by injection e with e; rw [e], fun e => by cases e⟩
theorem cat_strict : catF 7 11 = some 5 := by decide +kernel
theorem cat_part {k j : Nat} (hk : k < 12) (hj : j < 12) : (catF (k : Int) (j : Int)).isSome = !impB (k : Int) (j : Int) := by
 cases h : impB (k : Int) (j : Int) with
 | true => rw [catF_none h]; rfl
 | false =>
  obtain ⟨i, _, hi, _⟩ := catF_some (a := (k : Int)) (b := (j : Int)) (by rw [lv_in ⟨k, hk⟩, lv_in ⟨j, hj⟩]; rfl) h
  rw [hi]; rfl
theorem parts10_walk (va : Value) (h : List TxnV) (w : World) (ht : Tab w) (hK : Kinds w) (hT : Txns w va h) (hok : ∀ t ∈ h, t.ok) (hsh : Short h) :
  Calls Tryz.prog 12 #[va] w fun e w' => e = .returned (.bool true) ∧ Below w.heap.size w w' := by
 have hg := ht.pos
 have HT : Hid (∀ wx, Below w.heap.size w wx → Tab wx ∧ Kinds wx) := hid (fun wx hb => ⟨ht.below hb hg, hK.below hb⟩)
 have HH := hid (fun wx (hx : Below w.heap.size w wx) => hT.below hx)
 obtain ⟨ao, cap, rfl, hal⟩ := hT.form
 have HOK := hid hok
 have HSH := hid hsh
 have C0 := hid (cfind_any 7 11 w hK)
 clear ht hK hT hok
 go_enter Tryz.func12, Tryz.ntmps12
 go_wp2_with fail
 refine (C0.out).mono ?_
 rintro e w1 ⟨hres, hb1⟩
 obtain ⟨s0, o0, n0, c0, m0, rfl, hm0, _⟩ := catRes_form hres
 obtain rfl := hm0 5 cat_strict
 rw [show (catF 7 11).isSome = true from by rw [cat_strict]; rfl]
 have hx1 := box_below w1 (.cells #[.string s0, .slice o0 n0 c0, .int .i64 ((2 ^ 5 : Nat) : Int)] 81)
 have hE1 := EntAt.made w1 s0 (.slice o0 n0 c0) ((2 ^ 5 : Nat) : Int) 81
 rw [show ((2 ^ 5 : Nat) : Int) = 32 from rfl] at hx1 hE1 ⊢
 have hb1 := below_then hb1 hx1
 clear C0 hres hm0 hx1
 go_upto_region 2 with fail
 generalize w1.alloc (.cells #[.string s0, .slice o0 n0 c0, .int .i64 32] 81) = w1 at *
 obtain ⟨_, _, ec2, _, _, _⟩ := hE1
 go_upto_region 4 with fail
 clear ec2
 by_cases h5 : 6 < h.length
 ·have h5i : (6 : Int) < (h.length : Int) := by omega
  clear hsh
  go_wp2_with fail
  go_ret
  exact ⟨rfl, hb1⟩
 have h5i : ¬ (6 : Int) < (h.length : Int) := by omega
 have CC := hid (rcheck_any _ h w1 (HH.out _ hb1) hsh)
 rw [← check_ref] at CC
 by_cases hc : checkI h = 0
 rotate_left
 ·have hcn : ¬ checkI h = 0 := hc
  generalize checkI h = c at *
  have hcb : (c != 0) = true := by rw [bne_iff_ne]; exact hcn
  clear hsh hc
  go_wp2_with fail
  refine (CC.out).mono ?_
  rintro e w2 ⟨rfl, hb2⟩
  have hb2 := below_then hb1 hb2
  go_wp2_with fail
  go_ret
  exact ⟨rfl, hb2⟩
 rw [hc] at CC
 go_wp2_with fail
 refine (CC.out).mono ?_
 rintro e w2 ⟨rfl, hb2⟩
 have hb2 := below_then hb1 hb2
 have hTK := HT.out _ hb2
 have CO := hid (lawof_any _ h w2 (HH.out _ hb2) HOK.out HSH.out hc hTK.1 hTK.2 (vec_few (h := h) (by omega)))
 have HC := hid hc
 clear hb1 CC hc hsh hTK HH HOK HSH
 go_wp2_with fail
 refine (CO.out).mono ?_
 rintro e w3 ⟨⟨B, ws, rfl, hO, hW⟩, h3⟩
 have hb3 := below_then hb2 h3
 obtain ⟨V4, hb7, hth⟩ := vec_put w3 (accV h) ws
 have hone := hW.one (accV h)
 have hinf := info_vecA (accV h) ws
 have hb4 := below_then hb3 hb7
 clear CO h3 hb2 hb3 hW hb7 hO
 go_upto_region 7 with (with_reducible refine wpList_store_mid rfl 52 _ _ rfl w3.heap.size 0 (vecL (accV h) ws).toArray rfl rfl hth hinf hone ?_)
 generalize (w3.alloc (.cells #[.bool false, .bool false, .bool false, .bool false, .bool false, .bool false, .bool false, .bool false, .bool false, .bool false, .bool false, .bool false, .slice none 0 0, .slice none 0 0, .slice none 0 0, .slice none 0 0, .slice none 0 0, .slice none 0 0, .slice none 0 0, .slice none 0 0, .slice none 0 0, .slice none 0 0, .slice none 0 0, .slice none 0 0, .slice none 0 0, .slice none 0 0, .slice none 0 0, .slice none 0 0, .slice none 0 0, .slice none 0 0, .slice none 0 0, .slice none 0 0, .slice none 0 0, .slice none 0 0, .slice none 0 0, .slice none 0 0] 52)).setCells w3.heap.size 0 (vecL (accV h) ws) = w4 at *
 generalize w3.heap.size = g5 at *
 clear hth hone hinf
 have HV4 := hid (fun wx (hx : Below w4.heap.size w4 wx) => V4.below hx V4.lt)
 have HZ4 := hid (fun wx (hx : Below w4.heap.size w4 wx) => below_then hb4 hx)
 have CF := hid (fun (a b : Int) wx (hx : Below w4.heap.size w4 wx) => cfind_any a b wx (HT.out _ (below_then hb4 hx)).2)
 have CI := hid (fun (a b : Int) wx (hx : Below w4.heap.size w4 wx) => limp_any a b wx (HT.out _ (below_then hb4 hx)).2)
 have hb44 := Below.refl w4.heap.size w4
 clear V4 HT hb4
 go_wp2_with fail
 go_loopw [39] (fun i wr => ∃ k : Nat, k ≤ 12 ∧ i = .int .i64 k ∧ Below w4.heap.size w4 wr) (fun i _ => 12 - (intOf i).toNat)
 case atStart => exact ⟨0, by omega, rfl, hb44⟩
 case round =>
  obtain ⟨k, hk, rfl, hbr⟩ := hrel
  by_cases hlt : k < 12
  ·have hki : (k : Int) < 12 := by omega
   have hkd0 : decide ((k : Int) < 0) = false := decide_eq_false (by omega)
   have hkd1 : decide ((12 : Int) ≤ (k : Int)) = false := decide_eq_false (by omega)
   have hkd2 : decide (12 ≤ k) = false := decide_eq_false (by omega)
   go_wp2_with fail
   go_loopw [42] (fun i wx => ∃ j : Nat, j ≤ 12 ∧ i = .int .i64 j ∧ Below w4.heap.size w4 wx) (fun i _ => 12 - (intOf i).toNat)
   case atStart => exact ⟨0, by omega, rfl, hbr⟩
   case round =>
    obtain ⟨j, hj, rfl, hbj⟩ := hrel
    by_cases hjt : j < 12
    ·have hji : (j : Int) < 12 := by omega
     have hjd0 : decide ((j : Int) < 0) = false := decide_eq_false (by omega)
     have hjd1 : decide ((12 : Int) ≤ (j : Int)) = false := decide_eq_false (by omega)
     have hjd2 : decide (12 ≤ j) = false := decide_eq_false (by omega)
     have CF1 := hid (CF.out (k : Int) (j : Int) wr hbj)
     have HP := hid (cat_part hlt hjt)
     have HDI := hid (fun (e1 : impB (k : Int) (j : Int) = true) (e2 : accV h k = true) => (show accV h j = true from dec_implied HC.out e1 e2))
     go_wp2_with fail
     refine CF1.out.mono ?_
     rintro e w5 ⟨hres, h5⟩
     obtain ⟨s1, o1, n1, c1, m1, rfl, _, _⟩ := catRes_form hres
     rw [HP.out]
     have hx6 := box_below w5 (.cells #[.string s1, .slice o1 n1 c1, .int .i64 m1] 81)
     have hb6 := below_then (below_then hbj h5) hx6
     clear CF1 hres h5 hx6 HP
     go_upto_region 16 with fail
     generalize w5.alloc (.cells #[.string s1, .slice o1 n1 c1, .int .i64 m1] 81) = w6 at *
     have V6 := HV4.out _ hb6
     have hck := (V6 k (by omega)).1
     have hcj := (V6 j (by omega)).1
     rw [show vecF (accV h) ws k = .bool (accV h k) by unfold vecF; rw [if_pos hlt]] at hck
     rw [show vecF (accV h) ws j = .bool (accV h j) by unfold vecF; rw [if_pos hjt]] at hcj
     have CI1 := hid (CI.out (k : Int) (j : Int) _ hb6)
     clear V6
     generalize impB (k : Int) (j : Int) = P at *
     cases hrk : accV h k with
     | false =>
      rw [hrk] at hck
      clear HDI hrk hcj
      cases P with
      | false =>
       go_wp2_with fail
       refine CI1.out.mono ?_
       rintro e wq ⟨rfl, rfl⟩
       go_wp2_with fail
       go_roundw
       case rel => exact ⟨j + 1, by omega, by go_num, hb6⟩
       case measure => simp [intOf]; omega
      | true =>
       go_wp2_with fail
       refine CI1.out.mono ?_
       rintro e wq ⟨rfl, rfl⟩
       go_wp2_with fail
       go_roundw
       case rel => exact ⟨j + 1, by omega, by go_num, hb6⟩
       case measure => simp [intOf]; omega
     | true =>
      rw [hrk] at hck
      cases hrj : accV h j with
      | true =>
       rw [hrj] at hcj
       clear HDI hrk hrj
       cases P with
       | false =>
        go_wp2_with fail
        refine CI1.out.mono ?_
        rintro e wq ⟨rfl, rfl⟩
        go_wp2_with fail
        go_roundw
        case rel => exact ⟨j + 1, by omega, by go_num, hb6⟩
        case measure => simp [intOf]; omega
       | true =>
        go_wp2_with fail
        refine CI1.out.mono ?_
        rintro e wq ⟨rfl, rfl⟩
        go_wp2_with fail
        go_roundw
        case rel => exact ⟨j + 1, by omega, by go_num, hb6⟩
        case measure => simp [intOf]; omega
      | false =>
       rw [hrj] at hcj
       cases P with
       | false =>
        clear HDI hrk hrj
        go_wp2_with fail
        refine CI1.out.mono ?_
        rintro e wq ⟨rfl, rfl⟩
        go_wp2_with fail
        go_roundw
        case rel => exact ⟨j + 1, by omega, by go_num, hb6⟩
        case measure => simp [intOf]; omega
       | true =>
        have := HDI.out rfl hrk
        rw [hrj] at this
        cases this
    ·obtain rfl : j = 12 := by omega
     have hji : ¬ ((12 : Nat) : Int) < 12 := by omega
     go_wp2_with fail
     go_roundw
     case rel => exact ⟨k + 1, by omega, by go_num, hbj⟩
     case measure => simp [intOf]; omega
  ·obtain rfl : k = 12 := by omega
   have hki : ¬ ((12 : Nat) : Int) < 12 := by omega
   have hz := HZ4.out _ hbr
   go_wp2_with fail
   go_ret
   exact ⟨rfl, hz⟩
end

end Go.Proofs.YtmcicfdnmfbimaaGreatDoor
