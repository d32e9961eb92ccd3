/- Walks and plain facts that the proof of the statement LatticeOf uses, joined: LatI. Conditions: each theorem's own. -/
import Derived.Test.YtadihdkpoeibhaaGreatDoorPLatticeOf1
import Derived.Test.YtadihdkpoeibhaaGreatDoorPLatticeOf2
import Derived.Test.YtadihdkpoeibhaaGreatDoorPLatticeOf7
namespace Go.Proofs.YtadihdkpoeibhaaGreatDoor
set_option maxHeartbeats 32000000
set_option maxRecDepth 100000
open Lib (hid)
section
open Go.RowKit
theorem of19_walk (va : Value) (h : List TxnV) (w : World) (ht : Tab w) (hK : Kinds w) (hT : Txns w va h) (hok : ∀ t ∈ h, t.ok) (hsh : Short h) :
  Calls Tryz.prog 3 #[va] w fun e w' => e = .returned (.bool true) ∧ Below w.heap.size w w' := by
 have hg := ht.pos
 have HT : Hid (∀ wx, Below w.heap.size w wx → Tab wx ∧ Kinds wx) := hid (fun wx hb => ⟨ht.below hb hg, hK.below hb⟩)
 have HH := hid (fun wx (hx : Below w.heap.size w wx) => hT.below hx)
 obtain ⟨ao, cap, rfl, hal⟩ := hT.form
 have HOK := hid hok
 have HSH := hid hsh
 have C0 := hid (speaks19_any w hK)
 have CC := hid (fun wx (hx : Below w.heap.size w wx) => by have q := rcheck_any _ h wx (HH.out _ hx) hsh; rw [← check_ref] at q; exact q)
 clear ht hK hT hok hsh hg
 go_enter Tryz.func3, Tryz.ntmps3
 go_wp2_with fail
 refine (C0.out).mono ?_
 rintro e w1 ⟨rfl, hb1⟩
 clear C0
 by_cases h6 : 6 < h.length
 ·have h6i : (6 : Int) < (h.length : Int) := by omega
  by_cases h64 : h.length ≤ 64
  ·have h64i : (h.length : Int) ≤ 64 := by omega
   go_wp2_with fail
   go_ret
   exact ⟨rfl, hb1⟩
  ·have h64i : ¬ (h.length : Int) ≤ 64 := by omega
   by_cases h100 : 100 < h.length
   ·have h100i : (100 : Int) < (h.length : Int) := by omega
    go_wp2_with fail
    go_ret
    exact ⟨rfl, hb1⟩
   ·have h100i : ¬ (100 : Int) < (h.length : Int) := by omega
    have hc : checkI h ≠ 0 := fun e => by have := (check_zero e).1; omega
    have CP := hid (lplace_no _ h 4611686018427387904 w1 (HH.out _ hb1) HOK.out HSH.out hc)
    have hcn : ¬ checkI h = 0 := hc
    generalize checkI h = c at *
    have hcb : (c != 0) = true := by rw [bne_iff_ne]; exact hcn
    have hce : (c == c) = true := by simp
    clear hc
    go_wp2_with fail
    refine CP.out.mono ?_
    rintro e w2 ⟨rfl, h2⟩
    have hb2 := below_then hb1 h2
    have hx3 := box_below w2 (.cells #[.slice none 0 0, .slice none 0 0] 26)
    have hP := heap_alloc_new w2 (.cells #[.slice none 0 0, .slice none 0 0] 26)
    have c0 : (w2.alloc (.cells #[.slice none 0 0, .slice none 0 0] 26)).cell? ⟨w2.heap.size, 0, none⟩ = some (.slice none 0 0) := by simp only [World.cell?, hP]; rfl
    have c1 : (w2.alloc (.cells #[.slice none 0 0, .slice none 0 0] 26)).cell? ⟨w2.heap.size, 1, none⟩ = some (.slice none 0 0) := by simp only [World.cell?, hP]; rfl
    have hb3 := below_then hb2 hx3
    have CC1 := hid (CC.out _ hb3)
    clear CP h2 hx3 hP hb2 CC
    go_wp2_with fail
    generalize w2.alloc (.cells #[.slice none 0 0, .slice none 0 0] 26) = w3 at *
    refine CC1.out.mono ?_
    rintro e w4 ⟨rfl, h4⟩
    have c0 := (h4.cell (p := ⟨w2.heap.size, 0, none⟩) (block_lt c0)).trans c0
    have c1 := (h4.cell (p := ⟨w2.heap.size, 1, none⟩) (block_lt c1)).trans c1
    have hb4 := below_then hb3 h4
    clear CC1 h4 hb3
    go_wp2_with fail
    go_ret
    exact ⟨rfl, hb4⟩
 have h6i : ¬ (6 : Int) < (h.length : Int) := by omega
 have h100i : ¬ (100 : Int) < (h.length : Int) := by omega
 by_cases hc : checkI h = 0
 rotate_left
 ·have hc : checkI h ≠ 0 := hc
  have CP := hid (lplace_no _ h 4611686018427387904 w1 (HH.out _ hb1) HOK.out HSH.out hc)
  have hcn : ¬ checkI h = 0 := hc
  generalize checkI h = c at *
  have hcb : (c != 0) = true := by rw [bne_iff_ne]; exact hcn
  have hce : (c == c) = true := by simp
  clear hc
  go_wp2_with fail
  refine CP.out.mono ?_
  rintro e w2 ⟨rfl, h2⟩
  have hb2 := below_then hb1 h2
  have hx3 := box_below w2 (.cells #[.slice none 0 0, .slice none 0 0] 26)
  have hP := heap_alloc_new w2 (.cells #[.slice none 0 0, .slice none 0 0] 26)
  have c0 : (w2.alloc (.cells #[.slice none 0 0, .slice none 0 0] 26)).cell? ⟨w2.heap.size, 0, none⟩ = some (.slice none 0 0) := by simp only [World.cell?, hP]; rfl
  have c1 : (w2.alloc (.cells #[.slice none 0 0, .slice none 0 0] 26)).cell? ⟨w2.heap.size, 1, none⟩ = some (.slice none 0 0) := by simp only [World.cell?, hP]; rfl
  have hb3 := below_then hb2 hx3
  have CC1 := hid (CC.out _ hb3)
  clear CP h2 hx3 hP hb2 CC
  go_wp2_with fail
  generalize w2.alloc (.cells #[.slice none 0 0, .slice none 0 0] 26) = w3 at *
  refine CC1.out.mono ?_
  rintro e w4 ⟨rfl, h4⟩
  have c0 := (h4.cell (p := ⟨w2.heap.size, 0, none⟩) (block_lt c0)).trans c0
  have c1 := (h4.cell (p := ⟨w2.heap.size, 1, none⟩) (block_lt c1)).trans c1
  have hb4 := below_then hb3 h4
  clear CC1 h4 hb3
  go_wp2_with fail
  go_ret
  exact ⟨rfl, hb4⟩
 have CP := hid (lplace_ok _ h w1 (HH.out _ hb1) HOK.out HSH.out hc (HT.out _ hb1).1 (HT.out _ hb1).2 (vec_few (h := h) (by omega)))
 have HC := hid hc
 rw [hc] at CC
 clear hc
 go_wp2_with fail
 refine CP.out.mono ?_
 rintro e w2 ⟨⟨v1, v2, rfl, hO⟩, h2⟩
 obtain ⟨a1, n1, k1, rfl⟩ := pos_form hO.1
 obtain ⟨a2, n2, k2, rfl⟩ := pos_form hO.2
 have hb2 := below_then hb1 h2
 have hx3 := box_below w2 (.cells #[.slice a1 n1 k1, .slice a2 n2 k2] 26)
 have hP := heap_alloc_new w2 (.cells #[.slice a1 n1 k1, .slice a2 n2 k2] 26)
 have c0 : (w2.alloc (.cells #[.slice a1 n1 k1, .slice a2 n2 k2] 26)).cell? ⟨w2.heap.size, 0, none⟩ = some (.slice a1 n1 k1) := by simp only [World.cell?, hP]; rfl
 have c1 : (w2.alloc (.cells #[.slice a1 n1 k1, .slice a2 n2 k2] 26)).cell? ⟨w2.heap.size, 1, none⟩ = some (.slice a2 n2 k2) := by simp only [World.cell?, hP]; rfl
 have hb3 := below_then hb2 hx3
 have hO3 := hO.below hx3
 have CC1 := hid (CC.out _ hb3)
 clear CP h2 hx3 hP hb2 CC hO
 go_wp2_with fail
 generalize w2.alloc (.cells #[.slice a1 n1 k1, .slice a2 n2 k2] 26) = w3 at *
 generalize w2.heap.size = g3 at *
 refine CC1.out.mono ?_
 rintro e w4 ⟨rfl, h4⟩
 have hb4 := below_then hb3 h4
 have CO := hid (lawof_any _ h w4 (HH.out _ hb4) HOK.out HSH.out HC.out (HT.out _ hb4).1 (HT.out _ hb4).2 (vec_few (h := h) (by omega)))
 clear CC1 hb3
 go_wp2_with fail
 refine CO.out.mono ?_
 rintro e w5 ⟨⟨B, ws, rfl, _, hW⟩, h5⟩
 obtain ⟨V7, hb7, hth⟩ := vec_put w5 (accV h) ws
 have hone := hW.one (accV h)
 have hinf := info_vecA (accV h) ws
 have h37 := below_then (below_then h4 h5) hb7
 have hb9 := below_then (below_then hb4 h5) hb7
 have c0 := (h37.cell (p := ⟨g3, 0, none⟩) (block_lt c0)).trans c0
 have c1 := (h37.cell (p := ⟨g3, 1, none⟩) (block_lt c1)).trans c1
 have hO7 := hO3.below h37
 clear CO hW h4 h5 hb4 hb7 h37 hO3
 go_upto_region 10 with (with_reducible refine wpList_store_mid rfl 40 _ _ rfl w5.heap.size 0 (vecL (accV h) ws).toArray rfl rfl hth hinf hone ?_)
 generalize (w5.alloc (.cells #[.bool false, .bool false, .bool false, .bool false, .bool false, .bool false, .bool false, .bool false, .bool false, .bool false, .bool false, .bool false, .slice none 0 0, .slice none 0 0, .slice none 0 0, .slice none 0 0, .slice none 0 0, .slice none 0 0, .slice none 0 0, .slice none 0 0, .slice none 0 0, .slice none 0 0, .slice none 0 0, .slice none 0 0, .slice none 0 0, .slice none 0 0, .slice none 0 0, .slice none 0 0, .slice none 0 0, .slice none 0 0, .slice none 0 0, .slice none 0 0, .slice none 0 0, .slice none 0 0, .slice none 0 0, .slice none 0 0] 40)).setCells w5.heap.size 0 (vecL (accV h) ws) = w7 at *
 generalize w5.heap.size = g7 at *
 clear hth hone hinf
 have kd := (Below.refl w7.heap.size w7).drew
 have HS := hid (fun wx (hx : Below w7.heap.size w7 wx) => (show wx.cell? ⟨g3, 0, none⟩ = some (.slice a1 n1 k1) ∧ wx.cell? ⟨g3, 1, none⟩ = some (.slice a2 n2 k2) ∧ wx.rangeAt g7 0 (rowB (accV h)).toList from ⟨(hx.cell (p := ⟨g3, 0, none⟩) (block_lt c0)).trans c0, (hx.cell (p := ⟨g3, 1, none⟩) (block_lt c1)).trans c1, (V7.below hx V7.lt).row⟩))
 have HW := hid (fun wx (hx : Below w7.heap.size w7 wx) => below_then hb9 hx)
 have HQ : Hid (rowB (blw (stI (accV h))) = rowB (accV h)) := hid (blw_shut (acc_cls HC.out))
 have CR := hid (fun wx (hx : Below w7.heap.size w7 wx) => by have q := hO7.row (HT.out _ (HW.out _ hx)).2 hx; rw [HQ.out] at q; exact q)
 have CT := hid (fun wx (hx : Below w7.heap.size w7 wx) => hO7.text (HT.out _ (HW.out _ hx)).2 hx)
 have CL := hid (fun wx (hx : Below w7.heap.size w7 wx) => latof_any (accV h) wx (HT.out _ (HW.out _ hx)).2)
 have HKD := hid kd
 have G0 := fun (x y : Operand) (w : World) => guard_rowB .eql x y (accV h) (accV h) w
 have E0 := fun (w : World) => run_eql_rowB (accV h) w
 clear kd c0 c1 V7 hO7 hb9 HQ
 refine wp_region_held_drew (S := fun wx => wx.cell? ⟨g3, 0, none⟩ = some (.slice a1 n1 k1) ∧ wx.cell? ⟨g3, 1, none⟩ = some (.slice a2 n2 k2) ∧ wx.rangeAt g7 0 (rowB (accV h)).toList) (by kernel_rfl) (HS.out _ HKD.out) (fun hS0 => ?_)
 generalize w7.drew = wd0 at *
 refine tG (some 54) 0 ?vlo0x1 rfl rfl (Or.inl ⟨by rfl, ?hlo0x1⟩) hS0 ?rlo0x1
 case hlo0x1 => (intro w hw; obtain ⟨m0, m1, _⟩ := hw; go_simp; try (with_reducible rfl))
 try simp only [Act.put, zA, zB, zC]
 refine tG (some 55) 1 ?vlo1x2 rfl rfl (Or.inl ⟨by rfl, ?hlo1x2⟩) hS0 ?rlo1x2
 case hlo1x2 => (intro w hw; obtain ⟨m0, m1, _⟩ := hw; go_simp; try (with_reducible rfl))
 try simp only [Act.put, zA, zB, zC]
 refine tG (some 56) 2 ?vlo2x3 rfl rfl (Or.inl ⟨by rfl, ?hlo2x3⟩) hS0 ?rlo2x3
 case hlo2x3 => (intro w hw; obtain ⟨m0, m1, _⟩ := hw; go_simp; try (with_reducible rfl))
 try simp only [Act.put, zA, zB, zC]
 refine tG (some 57) 3 ?vlo3x4 rfl rfl (Or.inl ⟨by rfl, ?hlo3x4⟩) hS0 ?rlo3x4
 case hlo3x4 => (intro w hw; obtain ⟨m0, m1, _⟩ := hw; go_simp; try (with_reducible rfl))
 try simp only [Act.put, zA, zB, zC]
 refine tG (some 58) 4 ?vlo4x5 rfl rfl (Or.inl ⟨by rfl, ?hlo4x5⟩) hS0 ?rlo4x5
 case hlo4x5 => (intro w hw; obtain ⟨m0, m1, _⟩ := hw; go_simp; try (with_reducible rfl))
 try simp only [Act.put, zA, zB, zC]
 refine tG (some 59) 5 ?vlo5x6 rfl rfl (Or.inl ⟨by rfl, ?hlo5x6⟩) hS0 ?rlo5x6
 case hlo5x6 => (intro w hw; obtain ⟨m0, m1, _⟩ := hw; go_simp; try (with_reducible rfl))
 try simp only [Act.put, zA, zB, zC]
 refine tG (some 60) 6 ?vlo6x7 rfl rfl (Or.inl ⟨by rfl, ?hlo6x7⟩) hS0 ?rlo6x7
 case hlo6x7 => (intro w hw; obtain ⟨m0, m1, _⟩ := hw; go_simp; try (with_reducible rfl))
 try simp only [Act.put, zA, zB, zC]
 refine tG (some 62) 8 ?vlo8x8 rfl rfl (Or.inl ⟨by rfl, ?hlo8x8⟩) hS0 ?rlo8x8
 case hlo8x8 => (intro w hw; obtain ⟨m0, m1, _⟩ := hw; go_simp; try (with_reducible rfl))
 try simp only [Act.put, zA, zB, zC]
 refine tG (some 63) 9 _ rfl rfl (yieldsIf_load_mid (by rfl) 33 _ rfl g7 0 rfl (rowB (accV h)).toList _ (fun _ hw => hw.2.2) Tryz.underlying33 rfl (by kernel_rfl)) hS0 ?_
 try simp only [Act.put, zA, zB, zC]
 refine rD 7 rfl (fun K hK => ?_)
 go_simp
 refine (CR.out _ HKD.out).mono ?_
 rintro e wa ⟨rfl, hxwa⟩
 have HKD := hid (below_then HKD.out hxwa)
 have swa := HS.out _ HKD.out
 show K _ _
 refine hK.out _ _ swa (fun _ => ?_)
 clear hK K
 refine tG (some 64) 10 ?vlo10x11 rfl rfl (Or.inl ⟨by rfl, ?hlo10x11⟩) swa ?rlo10x11
 case hlo10x11 => (intro w hw; obtain ⟨m0, m1, _⟩ := hw; go_simp; try (with_reducible rfl))
 try simp only [Act.put, zA, zB, zC]
 refine tG (some 65) 11 ?vlo11x12 rfl rfl (Or.inl ⟨by rfl, ?hlo11x12⟩) swa ?rlo11x12
 case hlo11x12 => (intro w hw; obtain ⟨m0, m1, _⟩ := hw; go_simp; try (with_reducible rfl))
 try simp only [Act.put, zA, zB, zC]
 refine tG (some 66) 12 ?vlo12x13 rfl rfl (Or.inl ⟨by rfl, ?hlo12x13⟩) swa ?rlo12x13
 case hlo12x13 => (intro w hw; obtain ⟨m0, m1, _⟩ := hw; go_simp; try (with_reducible rfl))
 try simp only [Act.put, zA, zB, zC]
 refine tG (some 67) 13 ?vlo13x14 rfl rfl (Or.inl ⟨by rfl, ?hlo13x14⟩) swa ?rlo13x14
 case hlo13x14 => (intro w hw; obtain ⟨m0, m1, _⟩ := hw; go_simp; try (with_reducible rfl))
 try simp only [Act.put, zA, zB, zC]
 refine tG (some 69) 15 ?vlo15x15 rfl rfl (Or.inl ⟨by rfl, ?hlo15x15⟩) swa ?rlo15x15
 case hlo15x15 => (intro w hw; obtain ⟨m0, m1, _⟩ := hw; go_simp; try (with_reducible rfl))
 try simp only [Act.put, zA, zB, zC]
 refine tG (some 70) 16 _ rfl rfl (yieldsIf_load_mid (by rfl) 33 _ rfl g7 0 rfl (rowB (accV h)).toList _ (fun _ hw => hw.2.2) Tryz.underlying33 rfl (by kernel_rfl)) swa ?_
 try simp only [Act.put, zA, zB, zC]
 refine rD 14 rfl (fun K hK => ?_)
 go_simp
 refine (CT.out _ HKD.out).mono ?_
 rintro e wb ⟨rfl, hxwb⟩
 have HKD := hid (below_then HKD.out hxwb)
 have swb := HS.out _ HKD.out
 show K _ _
 refine hK.out _ _ swb (fun _ => ?_)
 clear hK K
 refine rD 17 rfl (fun K hK => ?_)
 go_simp
 refine (CL.out _ HKD.out).mono ?_
 rintro e wc ⟨u1, u2, rfl, hO2, hxwc⟩
 have HKD := hid (below_then HKD.out hxwc)
 have swc := HS.out _ HKD.out
 show K _ _
 refine hK.out _ _ swc (fun _ => ?_)
 clear hK K
 refine rD 18 rfl (fun K hK => ?_)
 have CT2 := hid (hO2.text (HT.out _ (HW.out _ HKD.out)).2 (Below.refl _ _))
 obtain ⟨b1, m1, j1, rfl⟩ := pos_form hO2.1
 obtain ⟨b2, m2, j2, rfl⟩ := pos_form hO2.2
 go_simp
 refine CT2.out.mono ?_
 rintro e wd ⟨rfl, hxwd⟩
 have HKD := hid (below_then HKD.out hxwd)
 have swd := HS.out _ HKD.out
 show K _ _
 refine hK.out _ _ swd (fun _ => ?_)
 clear hK K CT2
 refine tG (some 73) 19 ?vlo19x20 rfl rfl (Or.inl ⟨by rfl, ?hlo19x20⟩) swd ?rlo19x20
 case hlo19x20 => (intro w hw; obtain ⟨m0, m1, _⟩ := hw; go_simp; try (with_reducible rfl))
 try simp only [Act.put, zA, zB, zC]
 refine tG (some 74) 20 ?vlo20x21 rfl rfl (Or.inl ⟨by rfl, ?hlo20x21⟩) swd ?rlo20x21
 case hlo20x21 => (intro w hw; obtain ⟨m0, m1, _⟩ := hw; go_simp; try (with_reducible rfl))
 try simp only [Act.put, zA, zB, zC]
 refine tG (some 2) 21 ?vlo21x22 rfl rfl (Or.inl ⟨by rfl, ?hlo21x22⟩) swd ?rlo21x22
 case hlo21x22 => (intro w hw; obtain ⟨m0, m1, _⟩ := hw; go_simp; try (with_reducible rfl))
 try simp only [Act.put, zA, zB, zC]
 refine wpAnyH_done (by kernel_rfl) ?_ _
 have hz := HW.out _ HKD.out
 clear HKD CR CT CL HS
 go_wp2_with fail
 go_ret
 exact ⟨rfl, hz⟩
end

end Go.Proofs.YtadihdkpoeibhaaGreatDoor
