/- Walks and plain facts that the proof of the statement CanonApart uses, joined: CroD CanL CanM. Conditions: each theorem's own. -/
import Derived.Test.YtlajeemkoldngaaPCanonApart1
import Derived.Test.YtlajeemkoldngaaPCanonApart2
namespace Go.Proofs.Ytlajeemkoldngaa
set_option maxHeartbeats 32000000
set_option maxRecDepth 100000
open Lib (hid)
section
open Go.RowKit
theorem Own.keep {w w' : World} {b : Nat} {v : Value} {l : List OpV} {row : Option Nat} (h : Own w b v l) (hg : w.grownBy w' row) (hne : v.ownBlock = none ∨ v.ownBlock ≠ row) : Own w' b v l := World.ownsRow.kept h hg hne
theorem infoTxnA {x y z u : Value} : (Try.prog.info? 41).map (·.size) = some (#[x, y, z, u] : Array Value).size := (show (Try.prog.info? 41).map (·.size) = some 4 by kernel_rfl)
theorem rof22_any (va : Value) (h : List TxnV) (w : World) (hT : Txns w va h) (hc : checkI h = 0) :
  Calls Try.prog 12 #[va] w fun e w' => (∃ v c s, e = .returned v ∧ Txns w' v c ∧ IsSrt h s ∧ c.map txE = canE (s.map txE)) ∧ Below w.heap.size w w' := by
 obtain ⟨i0, hi, hz0, hz1, hz2⟩ := info_parts infoTxn
 obtain ⟨i1, hj, hy0, hy1, hy2⟩ := info_parts infoOp
 obtain ⟨h64, hopn, _, _⟩ := check_zero hc
 have HOL : Hid (∀ t ∈ h, t.l.length ≤ 64) := hid (fun t ht => (may_at (check_rightB hc).1 ht).1.2.2.2.2.2.2)
 have HT := hid (fun wx (hx : Below w.heap.size w wx) => hT.below hx)
 have CS := hid (fun wx (hx : Below w.heap.size w wx) => rsorted22_any va h wx (hT.below hx) (begins_nodup (check_rightB hc).2.2.1) (by omega))
 have CR := hid (fun x wx (hx : Below w.heap.size w wx) => rrank22_any va h x wx (hT.below hx) (by omega))
 have HOPN := hid hopn
 clear hT hc hopn
 have hO1 : OwnT (w.alloc (.cells #[] 41)) w.heap.size (.slice (some ⟨w.heap.size, 0, none⟩) 0 0) [] := World.ownsRow_lit (base := w.heap.size) (size := 4) w #[] 0 (Nat.le_refl _) (by decide) rfl
 have hb1 := (Below.refl w.heap.size w).alloc (Nat.le_refl _) (.cells #[] 41)
 have hs1 : (w.alloc (.cells #[] 41)).heap.size = w.heap.size + 1 := by simp
 go_enter Try.func12, Try.ntmps12
 go_upto_region 2 with fail
 generalize w.alloc (.cells #[] 41) = w1 at *
 have CS1 := hid (CS.out _ hb1)
 clear CS
 go_wp2_with fail
 refine CS1.out.mono ?_
 rintro e w2 ⟨⟨vl, s, rfl, hL, hs⟩, hb2⟩
 have HS := hid hs
 have hsl : s.length ≤ 64 := by have := hs.1.length_eq; omega
 have HOS : Hid (opsN s ≤ 1024) := hid (by have := HOPN.out; unfold opsN at this ⊢; rw [sum_perm (hs.1.map _)]; exact this)
 have hB2 := below_then hb1 hb2
 have h2s := hB2.size
 have hsz2 := hb2.size
 have hI0 : CroI s w.heap.size w2.heap.size (firsts (sTo s 0)) ((w2.alloc (.cells #[] 3))) (.slice (some ⟨w.heap.size, 0, none⟩) 0 0) vl (.slice (some ⟨w2.heap.size, 0, none⟩) 0 0) [] := by
  have hbx := box_below w2 (.cells #[] 3)
  refine ⟨(hO1.below hb2).below hbx, fun b e => ?_, fun t ht => (by cases ht), fun t ht => (by cases ht), OwnT.below (show OwnT w2 w.heap.size vl s from owns_weak hL (by omega)) hbx, fun b e => (World.ownsRow.lt hL b e).2, fun b e q => ?_, IntO.lit w2 h2s⟩
  ·simp [Value.ownBlock] at e; omega
  ·simp [Value.ownBlock] at e
   have := (World.ownsRow.lt hL b q).1
   omega
 have hk0 : IntO ((w2.alloc (.cells #[] 3)).alloc (.cells #[] 3)) w.heap.size (.slice (some ⟨w2.heap.size + 1, 0, none⟩) 0 0) [] := by
  have q := IntO.lit (w2.alloc (.cells #[] 3)) (b := w.heap.size) (by simp; omega)
  rwa [World.size_alloc] at q
 have hv0 : IntO (((w2.alloc (.cells #[] 3)).alloc (.cells #[] 3)).alloc (.cells #[] 3)) w.heap.size (.slice (some ⟨w2.heap.size + 1 + 1, 0, none⟩) 0 0) [] := by
  have q := IntO.lit ((w2.alloc (.cells #[] 3)).alloc (.cells #[] 3)) (b := w.heap.size) (by simp; omega)
  rwa [World.size_alloc, World.size_alloc] at q
 have hI1 := (hI0.below (box_below _ (.cells #[] 3))).below (box_below _ (.cells #[] 3))
 have hk1 := hk0.below (box_below _ (.cells #[] 3))
 have hb5 := ((hB2.alloc hB2.size (.cells #[] 3)).alloc (by simp; omega) (.cells #[] 3)).alloc (by simp; omega) (.cells #[] 3)
 have hm5 : w2.heap.size ≤ (((w2.alloc (.cells #[] 3)).alloc (.cells #[] 3)).alloc (.cells #[] 3)).heap.size := by simp; omega
 have hI2 := hid (hI1.mono hm5)
 have hL9 := hL.row
 clear hO1 hb1 hs1 hb2 hL hs CS1 hI0 hk0 hI1 hsz2
 go_upto_region 6 with fail
 generalize ((w2.alloc (.cells #[] 3)).alloc (.cells #[] 3)).alloc (.cells #[] 3) = w5 at *
 obtain ⟨vs0, hvs0⟩ : ∃ v, Value.slice (some ⟨w2.heap.size, 0, none⟩) 0 0 = v := ⟨_, rfl⟩
 have HK1 := hid hk1
 have HV0 := hid hv0
 have HB5 := hid hb5
 obtain ⟨lo, lc, rfl⟩ : ∃ ao cap, vl = .slice ao s.length cap := by
  obtain ⟨_, ao, cap, rfl, _⟩ := hL9
  exact ⟨ao, cap, rfl⟩
 clear hvs0 hk1 hv0 hb5 hm5 hB2 hL9
 go_wp2_with fail
 go_loopw [3, 5, 6, 7, 8] (fun vo vs vk vv vi wr => ∃ (i : Nat) (c : List TxnV), i ≤ s.length ∧ vi = .int .i64 (i : Int) ∧ Hid (c.map txE = (canE (s.map txE)).take i) ∧ Hid (CroI s w.heap.size wr.heap.size (firsts (sTo s i)) wr vo (.slice lo s.length lc) vs c) ∧ Hid (IntO wr w.heap.size vk (firsts (kTo s i 0))) ∧ Hid (IntO wr w.heap.size vv (firsts (valP (vTo s i 0)))) ∧ Hid (Below w.heap.size w wr)) (fun _ _ _ _ vi _ => s.length - (intOf vi).toNat)
 case atStart => exact ⟨0, [], by omega, rfl, hid rfl, hI2, HK1, HV0, HB5⟩
 case round =>
  obtain ⟨i, c, hil, rfl, HCM, HI, HK, HV, HB⟩ := hrel
  by_cases hlt : i < s.length
  ·have hii : (i : Int) < (s.length : Int) := by omega
   obtain ⟨g, o, hgo, a0, a1, a2, a3⟩ := rows_at HI.out.l.row hlt
   cases hgo
   have hmem := HS.out.1.mem_iff.1 (List.getElem_mem hlt)
   have HOPS := hid (fun wx (hx : Below w.heap.size w wx) => (HT.out wx hx).2 _ hmem)
   obtain ⟨oo, oc, hov, _⟩ := (HOPS.out _ HB.out).form
   have hol := HOL.out _ hmem
   have hop : opsAt s i = s[i].l := opsAt_eq hlt
   have CRB := hid (fun wx (hx : Below wr.heap.size wr wx) => CR.out s[i].b wx (below_then HB.out hx))
   have CRC := hid (fun wx (hx : Below wr.heap.size wr wx) => CR.out s[i].c wx (below_then HB.out hx))
   rw [rank_perm HS.out.1] at CRB CRC
   have HSN := hid (ses_now hlt)
   obtain ⟨ss, hss⟩ : ∃ x, s[i].s = x := ⟨_, rfl⟩
   have HSS := hid hss
   rw [hss] at a0 HSN
   have HCN := hid (fun vt x y z => can_next (vt := vt) (x := x) (y := y) (z := z) hlt HCM.out)
   have HXK := hid (fun k (hk : k < (opsAt s i).length) => cOp_val hlt hk)
   have HOV : Hid (s[i].v = .slice oo (opsAt s i).length oc) := hid (by rw [hop]; exact hov)
   rw [hov] at a3 HOPS
   rw [← hop] at HOPS hol a3
   have HLN := hid hol
   have hcl : c.length ≤ 64 := by have q := congrArg List.length HCM.out; rw [List.length_map, List.length_take] at q; omega
   clear hmem hop hol HCM
   generalize s[i].b = sb at *
   generalize s[i].c = sc at *
   obtain ⟨rb, hrb⟩ : ∃ r, rankI (stE (s.map txE)) sb = r := ⟨_, rfl⟩
   obtain ⟨rc, hrc⟩ : ∃ r, rankI (stE (s.map txE)) sc = r := ⟨_, rfl⟩
   rw [hrb] at CRB
   rw [hrc] at CRC
   have HRB := hid (And.intro hrb hrc)
   clear hrb hrc
   have b1 := fun O => ((box_below wr O).cell (p := ⟨g, o + i * 4 + 1, none⟩) (block_lt a1)).trans a1
   have b2 := fun O => ((box_below wr O).cell (p := ⟨g, o + i * 4 + 2, none⟩) (block_lt a2)).trans a2
   go_upto_region 9 with fail
   go_cut [9, 12, 13, 14, 15, 16, 17] from 9 to 38 (fun u9 u12 u13 u14 u15 u16 u17 wx => ∃ p : Nat, u9 = .pointer (some ⟨p, 0, none⟩) ∧ u12 = .slice (some ⟨w.heap.size, 0, none⟩) 0 0 ∧ u13 = va ∧ u14 = .slice (some ⟨g, o, none⟩) s.length lc ∧ u15 = .slice (some ⟨w2.heap.size, 0, none⟩) 0 0 ∧ u16 = .slice (some ⟨w2.heap.size + 1, 0, none⟩) 0 0 ∧ u17 = .slice (some ⟨w2.heap.size + 1 + 1, 0, none⟩) 0 0 ∧ Hid (wr.heap.size ≤ p) ∧ Hid (BoxN wx p 41 #[.int .i64 0, .int .i64 rb, .int .i64 rc, .slice none 0 0]) ∧ Hid (Below wr.heap.size wr wx))
   case first =>
    have kd := (Below.refl wr.heap.size wr).drew
    have hwd : wr.drew.heap.size = wr.heap.size := rfl
    have hgl : g < wr.heap.size := block_lt a1
    have hgd : g ≠ wr.heap.size := by omega
    have a1 := (kd.cell (p := ⟨g, o + i * 4 + 1, none⟩) (block_lt a1)).trans a1
    have a2 := (kd.cell (p := ⟨g, o + i * 4 + 2, none⟩) (block_lt a2)).trans a2
    clear b1 b2
    refine wp_region_held_drew (S := fun wx => wx.cell? ⟨g, o + i * 4 + 1, none⟩ = some (.int .i64 sb) ∧ wx.cell? ⟨g, o + i * 4 + 2, none⟩ = some (.int .i64 sc)) (by kernel_rfl) ⟨a1, a2⟩ (fun hS0 => ?_)
    generalize wr.drew = wd at *
    refine tG (some 24) 0 ?vra0x1 rfl rfl (Or.inl ⟨by rfl, ?hra0x1⟩) hS0 ?rra0x1
    case hra0x1 => (intro w hw; obtain ⟨m1, m2⟩ := hw; go_simp; try (with_reducible rfl))
    try simp only [Act.put, zA, zB, zC]
    refine tG (some 25) 1 ?vra1x2 rfl rfl (Or.inl ⟨by rfl, ?hra1x2⟩) hS0 ?rra1x2
    case hra1x2 => (intro w hw; obtain ⟨m1, m2⟩ := hw; go_simp; try (with_reducible rfl))
    try simp only [Act.put, zA, zB, zC]
    refine tG (some 26) 2 ?vra2x3 rfl rfl (Or.inl ⟨by rfl, ?hra2x3⟩) hS0 ?rra2x3
    case hra2x3 => (intro w hw; obtain ⟨m1, m2⟩ := hw; go_simp; try (with_reducible rfl))
    try simp only [Act.put, zA, zB, zC]
    refine tG (some 27) 3 ?vra3x4 rfl rfl (Or.inl ⟨by rfl, ?hra3x4⟩) hS0 ?rra3x4
    case hra3x4 => (intro w hw; obtain ⟨m1, m2⟩ := hw; go_simp; try (with_reducible rfl))
    try simp only [Act.put, zA, zB, zC]
    refine tG (some 28) 4 ?vra4x5 rfl rfl (Or.inl ⟨by rfl, ?hra4x5⟩) hS0 ?rra4x5
    case hra4x5 => (intro w hw; obtain ⟨m1, m2⟩ := hw; go_simp; try (with_reducible rfl))
    try simp only [Act.put, zA, zB, zC]
    refine tG (some 29) 5 ?vra5x6 rfl rfl (Or.inl ⟨by rfl, ?hra5x6⟩) hS0 ?rra5x6
    case hra5x6 => (intro w hw; obtain ⟨m1, m2⟩ := hw; go_simp; try (with_reducible rfl))
    try simp only [Act.put, zA, zB, zC]
    refine tG (some 31) 7 ?vra7x7 rfl rfl (Or.inl ⟨by rfl, ?hra7x7⟩) hS0 ?rra7x7
    case hra7x7 => (intro w hw; obtain ⟨m1, m2⟩ := hw; go_simp; try (with_reducible rfl))
    try simp only [Act.put, zA, zB, zC]
    refine tG (some 32) 8 ?vra8x8 rfl rfl (Or.inl ⟨by rfl, ?hra8x8⟩) hS0 ?rra8x8
    case hra8x8 => (intro w hw; obtain ⟨m1, m2⟩ := hw; go_simp; try (with_reducible rfl))
    try simp only [Act.put, zA, zB, zC]
    refine tG (some 33) 9 ?vra9x9 rfl rfl (Or.inl ⟨by rfl, ?hra9x9⟩) hS0 ?rra9x9
    case hra9x9 => (intro w hw; obtain ⟨m1, m2⟩ := hw; go_simp; try (with_reducible rfl))
    try simp only [Act.put, zA, zB, zC]
    refine tG (some 34) 10 ?vra10x10 rfl rfl (Or.inl ⟨by rfl, ?hra10x10⟩) hS0 ?rra10x10
    case hra10x10 => (intro w hw; obtain ⟨m1, m2⟩ := hw; go_simp; try (with_reducible rfl))
    try simp only [Act.put, zA, zB, zC]
    refine tG (some 35) 11 ?vra11x11 rfl rfl (Or.inl ⟨by rfl, ?hra11x11⟩) hS0 ?rra11x11
    case hra11x11 => (intro w hw; obtain ⟨m1, m2⟩ := hw; go_simp; try (with_reducible rfl))
    try simp only [Act.put, zA, zB, zC]
    refine tG (some 36) 12 ?vra12x12 rfl rfl (Or.inl ⟨by rfl, ?hra12x12⟩) hS0 ?rra12x12
    case hra12x12 => (intro w hw; obtain ⟨m1, m2⟩ := hw; go_simp; try (with_reducible rfl))
    try simp only [Act.put, zA, zB, zC]
    refine wpAnyH_ready (rs := [6, 15]) (by kernel_rfl) (by simp) ?_
    refine AllReadyH.cons rfl (fun K hK => ?_) (AllReadyH.cons rfl (fun K hK => ?_) AllReadyH.nil)
    ·
     go_simp
     refine (CRB.out _ kd).mono ?_
     rintro e wq ⟨rfl, rfl⟩
     show K _ _
     refine hK.out _ _ hS0 (fun _ => ?_)
     clear hK K
     refine wpAnyH_ready (rs := [13, 15]) (by kernel_rfl) (by simp) ?_
     refine AllReadyH.cons rfl (fun K hK => ?_) (AllReadyH.cons rfl (fun K hK => ?_) AllReadyH.nil)
     ·
      go_simp
      refine (CRC.out _ kd).mono ?_
      rintro e wq ⟨rfl, rfl⟩
      show K _ _
      refine hK.out _ _ hS0 (fun _ => ?_)
      clear hK K
      refine tG (some 38) 14 ?vra14x15 rfl rfl (Or.inl ⟨by rfl, ?hra14x15⟩) hS0 ?rra14x15
      case hra14x15 => (intro w hw; obtain ⟨m1, m2⟩ := hw; go_simp; try (with_reducible rfl))
      try simp only [Act.put, zA, zB, zC]
      refine rD 15 rfl (fun K hK => ?_)
      go_simp
      have kA := kd.alloc kd.size (.cells #[.int .i64 0, .int .i64 0, .int .i64 0, .slice none 0 0] 41)
      have zA : BoxN (wd.alloc (.cells #[.int .i64 0, .int .i64 0, .int .i64 0, .slice none 0 0] 41)) wr.heap.size 41 #[.int .i64 0, .int .i64 0, .int .i64 0, .slice none 0 0] := by have q := BoxN.new wd 41 #[.int .i64 0, .int .i64 0, .int .i64 0, .slice none 0 0]; rwa [hwd] at q
      have sA := And.intro (((box_below wd (.cells #[.int .i64 0, .int .i64 0, .int .i64 0, .slice none 0 0] 41)).cell (p := ⟨g, o + i * 4 + 1, none⟩) (block_lt hS0.1)).trans hS0.1) (((box_below wd (.cells #[.int .i64 0, .int .i64 0, .int .i64 0, .slice none 0 0] 41)).cell (p := ⟨g, o + i * 4 + 2, none⟩) (block_lt hS0.2)).trans hS0.2)
      show K _ _
      refine hK.out _ _ sA (fun _ => ?_)
      clear hK K
      refine rD 16 rfl (fun K hK => ?_)
      rw [if_pos (by rfl)]
      refine wp_store_row 41 _ _ rfl wr.heap.size #[.int .i64 0, .int .i64 rb, .int .i64 rc, .slice none 0 0] rfl rfl _ _ zA infoTxnA rfl (by simp [Value.oneCell']) ?_
      have sB := And.intro ((cell_setRow_other (wd.alloc (.cells #[.int .i64 0, .int .i64 0, .int .i64 0, .slice none 0 0] 41)) wr.heap.size #[.int .i64 0, .int .i64 rb, .int .i64 rc, .slice none 0 0] ⟨g, o + i * 4 + 1, none⟩ hgd).trans sA.1) ((cell_setRow_other (wd.alloc (.cells #[.int .i64 0, .int .i64 0, .int .i64 0, .slice none 0 0] 41)) wr.heap.size #[.int .i64 0, .int .i64 rb, .int .i64 rc, .slice none 0 0] ⟨g, o + i * 4 + 2, none⟩ hgd).trans sA.2)
      refine hK.out _ _ sB (fun _ => ?_)
      clear hK K
      refine wpAnyH_done (by kernel_rfl) ?_ _
      try simp only [Act.put]
      go_wp2_with fail
      go_meet
      exact ⟨wr.heap.size, rfl, rfl, rfl, rfl, rfl, rfl, rfl, hid (Nat.le_refl _), hid (setRow_heap _ _ _ _ _ _ zA), hid (below_setRow kA (Nat.le_refl _) #[.int .i64 0, .int .i64 rb, .int .i64 rc, .slice none 0 0])⟩
     ·
      go_simp
      have kA := kd.alloc kd.size (.cells #[.int .i64 0, .int .i64 0, .int .i64 0, .slice none 0 0] 41)
      have zA : BoxN (wd.alloc (.cells #[.int .i64 0, .int .i64 0, .int .i64 0, .slice none 0 0] 41)) wr.heap.size 41 #[.int .i64 0, .int .i64 0, .int .i64 0, .slice none 0 0] := by have q := BoxN.new wd 41 #[.int .i64 0, .int .i64 0, .int .i64 0, .slice none 0 0]; rwa [hwd] at q
      have sA := And.intro (((box_below wd (.cells #[.int .i64 0, .int .i64 0, .int .i64 0, .slice none 0 0] 41)).cell (p := ⟨g, o + i * 4 + 1, none⟩) (block_lt hS0.1)).trans hS0.1) (((box_below wd (.cells #[.int .i64 0, .int .i64 0, .int .i64 0, .slice none 0 0] 41)).cell (p := ⟨g, o + i * 4 + 2, none⟩) (block_lt hS0.2)).trans hS0.2)
      show K _ _
      refine hK.out _ _ sA (fun _ => ?_)
      clear hK K
      refine rD 13 rfl (fun K hK => ?_)
      go_simp
      refine (CRC.out _ kA).mono ?_
      rintro e wq ⟨rfl, rfl⟩
      show K _ _
      refine hK.out _ _ sA (fun _ => ?_)
      clear hK K
      refine tG (some 38) 14 ?vra14x20 rfl rfl (Or.inl ⟨by rfl, ?hra14x20⟩) sA ?rra14x20
      case hra14x20 => (intro w hw; obtain ⟨m1, m2⟩ := hw; go_simp; try (with_reducible rfl))
      try simp only [Act.put, zA, zB, zC]
      refine rD 16 rfl (fun K hK => ?_)
      rw [if_pos (by rfl)]
      refine wp_store_row 41 _ _ rfl wr.heap.size #[.int .i64 0, .int .i64 rb, .int .i64 rc, .slice none 0 0] rfl rfl _ _ zA infoTxnA rfl (by simp [Value.oneCell']) ?_
      have sB := And.intro ((cell_setRow_other (wd.alloc (.cells #[.int .i64 0, .int .i64 0, .int .i64 0, .slice none 0 0] 41)) wr.heap.size #[.int .i64 0, .int .i64 rb, .int .i64 rc, .slice none 0 0] ⟨g, o + i * 4 + 1, none⟩ hgd).trans sA.1) ((cell_setRow_other (wd.alloc (.cells #[.int .i64 0, .int .i64 0, .int .i64 0, .slice none 0 0] 41)) wr.heap.size #[.int .i64 0, .int .i64 rb, .int .i64 rc, .slice none 0 0] ⟨g, o + i * 4 + 2, none⟩ hgd).trans sA.2)
      refine hK.out _ _ sB (fun _ => ?_)
      clear hK K
      refine wpAnyH_done (by kernel_rfl) ?_ _
      try simp only [Act.put]
      go_wp2_with fail
      go_meet
      exact ⟨wr.heap.size, rfl, rfl, rfl, rfl, rfl, rfl, rfl, hid (Nat.le_refl _), hid (setRow_heap _ _ _ _ _ _ zA), hid (below_setRow kA (Nat.le_refl _) #[.int .i64 0, .int .i64 rb, .int .i64 rc, .slice none 0 0])⟩
    ·
     go_simp
     have kA := kd.alloc kd.size (.cells #[.int .i64 0, .int .i64 0, .int .i64 0, .slice none 0 0] 41)
     have zA : BoxN (wd.alloc (.cells #[.int .i64 0, .int .i64 0, .int .i64 0, .slice none 0 0] 41)) wr.heap.size 41 #[.int .i64 0, .int .i64 0, .int .i64 0, .slice none 0 0] := by have q := BoxN.new wd 41 #[.int .i64 0, .int .i64 0, .int .i64 0, .slice none 0 0]; rwa [hwd] at q
     have sA := And.intro (((box_below wd (.cells #[.int .i64 0, .int .i64 0, .int .i64 0, .slice none 0 0] 41)).cell (p := ⟨g, o + i * 4 + 1, none⟩) (block_lt hS0.1)).trans hS0.1) (((box_below wd (.cells #[.int .i64 0, .int .i64 0, .int .i64 0, .slice none 0 0] 41)).cell (p := ⟨g, o + i * 4 + 2, none⟩) (block_lt hS0.2)).trans hS0.2)
     show K _ _
     refine hK.out _ _ sA (fun _ => ?_)
     clear hK K
     refine rD 6 rfl (fun K hK => ?_)
     go_simp
     refine (CRB.out _ kA).mono ?_
     rintro e wq ⟨rfl, rfl⟩
     show K _ _
     refine hK.out _ _ sA (fun _ => ?_)
     clear hK K
     refine rD 13 rfl (fun K hK => ?_)
     go_simp
     refine (CRC.out _ kA).mono ?_
     rintro e wq ⟨rfl, rfl⟩
     show K _ _
     refine hK.out _ _ sA (fun _ => ?_)
     clear hK K
     refine tG (some 38) 14 ?vra14x25 rfl rfl (Or.inl ⟨by rfl, ?hra14x25⟩) sA ?rra14x25
     case hra14x25 => (intro w hw; obtain ⟨m1, m2⟩ := hw; go_simp; try (with_reducible rfl))
     try simp only [Act.put, zA, zB, zC]
     refine rD 16 rfl (fun K hK => ?_)
     rw [if_pos (by rfl)]
     refine wp_store_row 41 _ _ rfl wr.heap.size #[.int .i64 0, .int .i64 rb, .int .i64 rc, .slice none 0 0] rfl rfl _ _ zA infoTxnA rfl (by simp [Value.oneCell']) ?_
     have sB := And.intro ((cell_setRow_other (wd.alloc (.cells #[.int .i64 0, .int .i64 0, .int .i64 0, .slice none 0 0] 41)) wr.heap.size #[.int .i64 0, .int .i64 rb, .int .i64 rc, .slice none 0 0] ⟨g, o + i * 4 + 1, none⟩ hgd).trans sA.1) ((cell_setRow_other (wd.alloc (.cells #[.int .i64 0, .int .i64 0, .int .i64 0, .slice none 0 0] 41)) wr.heap.size #[.int .i64 0, .int .i64 rb, .int .i64 rc, .slice none 0 0] ⟨g, o + i * 4 + 2, none⟩ hgd).trans sA.2)
     refine hK.out _ _ sB (fun _ => ?_)
     clear hK K
     refine wpAnyH_done (by kernel_rfl) ?_ _
     try simp only [Act.put]
     go_wp2_with fail
     go_meet
     exact ⟨wr.heap.size, rfl, rfl, rfl, rfl, rfl, rfl, rfl, hid (Nat.le_refl _), hid (setRow_heap _ _ _ _ _ _ zA), hid (below_setRow kA (Nat.le_refl _) #[.int .i64 0, .int .i64 rb, .int .i64 rc, .slice none 0 0])⟩
   case rest =>
    obtain ⟨p9, rfl, rfl, rfl, rfl, rfl, rfl, rfl, HP, HX, HC⟩ := hcut
    have HI9 := hid (HI.out.below HC.out)
    have HK9 := HK.out.below HC.out
    have HV9 := HV.out.below HC.out
    have HB9 := hid (below_then HB.out HC.out)
    have a0 := (HC.out.cell (p := ⟨g, o + i * 4, none⟩) (block_lt a0)).trans a0
    have hpM := HP.out
    have hbM := HB.out.size
    have hsb := HC.out.size
    have CNS := hid (rname22_any w.heap.size _ (firsts (sTo s i)) ss _ HI9.out.se (by omega) (by have := sTo_len (s := s) (i := i); omega))
    clear HI HK HV HB b1 b2 a1 a2 a3 HC
    go_wp2_with fail
    refine CNS.out.mono ?_
    rintro e wy ⟨vs2, rfl, hO2, hby⟩
    rw [show addN (firsts (sTo s i)) ss = firsts (sTo s (i + 1)) from by rw [sTo_succ hlt, firsts_snoc, HSS.out]] at hO2
    have hIy : CroI s w.heap.size wr.heap.size (firsts (sTo s (i + 1))) wy u3 (.slice (some ⟨g, o, none⟩) s.length lc) vs2 c := { HI9.out.below hby with se := hO2 }
    have HXy := HX.out.below hby
    have hc0 := HXy.cell (i := 0) rfl
    have hf0 := HXy.free 0
    have HKy := HK9.below hby
    have HVy := HV9.below hby
    have HBy := below_then HB9.out hby
    obtain ⟨px, hpx⟩ : ∃ px, ((posL (firsts (sTo s i)) ss : Nat) : Int) = px := ⟨_, rfl⟩
    rw [hpx]
    have HPX := hid hpx
    have hgs := grown_set wy ⟨p9, 0, none⟩ (.int .i64 px)
    have hIz := hid (hIy.box hpM HXy (by decide) hgs)
    have HXz : Hid (BoxN (wy.setCell ⟨p9, 0, none⟩ (.int .i64 px)) p9 41 #[.int .i64 px, .int .i64 rb, .int .i64 rc, .slice none 0 0]) := hid (HXy.set 0 (.int .i64 px))
    have HKz := hid (HKy.box HXy (by decide) hgs)
    have HVz := hid (HVy.box HXy (by decide) hgs)
    have HBz := hid (HBy.setCell (p := ⟨p9, 0, none⟩) (by show w.heap.size ≤ p9; omega) (.int .i64 px))
    clear CNS hO2 hby hIy HXy HKy HVy HBy hgs HI9 HK9 HV9 HX HB9 hpx
    go_upto_region 12 with fail
    have hIz1 := hIz
    have hMz : wr.heap.size ≤ (wy.setCell ⟨p9, 0, none⟩ (.int .i64 px)).heap.size := by have := HBz.out.size; have := HXz.out.lt; omega
    generalize wy.setCell ⟨p9, 0, none⟩ (.int .i64 px) = wz at *
    generalize wr.heap.size = M at *
    go_loopw [6, 7, 10] (fun vk vv ik wr => ∃ (k : Nat) (vt : Value), k ≤ (opsAt s i).length ∧ ik = .int .i64 (k : Int) ∧ Hid (BoxN wr p9 41 #[.int .i64 px, .int .i64 rb, .int .i64 rc, vt]) ∧ Hid (Own wr M vt (((opsAt s i).take k).map (cOp (s.map txE)))) ∧ Hid (CroI s w.heap.size M (firsts (sTo s (i + 1))) wr u3 (.slice (some ⟨g, o, none⟩) s.length lc) vs2 c) ∧ Hid (IntO wr w.heap.size vk (firsts (kTo s i k))) ∧ Hid (IntO wr w.heap.size vv (firsts (valP (vTo s i k)))) ∧ Hid (Below w.heap.size w wr)) (fun _ _ ik _ => (opsAt s i).length - (intOf ik).toNat)
    case atStart => exact ⟨0, .slice none 0 0, by omega, rfl, HXz, hid (Own.nil _ _), hIz, HKz, HVz, HBz⟩
    case round =>
     obtain ⟨k, vt, hkl, rfl, HXq, HTq, HIq, HKq, HVq, HBq⟩ := hrel
     clear HXz hIz HKz HVz HBz hIz1 hMz
     obtain ⟨g', o', e', _, _, _, d3⟩ := rows_at HIq.out.l.row hlt
     cases e'
     rw [HOV.out] at d3
     have hln := HLN.out
     by_cases hkt : k < (opsAt s i).length
     ·have hki : (k : Int) < ((opsAt s i).length : Int) := by omega
      obtain ⟨g2, o2, ego, e0, e1, e2⟩ := (HOPS.out _ HBq.out).at hkt
      cases ego
      have hxk := HXK.out k hkt
      have HKS : Hid (kTo s i (k + 1) = kTo s i k ++ [(opsAt s i)[k].key]) := hid (kTo_succ hkt)
      have HVS : Hid (vTo s i (k + 1) = vTo s i k ++ [(opsAt s i)[k].val]) := hid (vTo_succ hkt)
      have HOS2 := hid (opsTake_succ (s.map txE) hkt)
      generalize (opsAt s i)[k] = x at *
      obtain ⟨xw, xk, xv⟩ := x
      simp only at e0 e1 e2 hxk HKS HVS
      obtain ⟨pk, hpk⟩ : ∃ z, ((posL (firsts (kTo s i k)) xk : Nat) : Int) = z := ⟨_, rfl⟩
      rw [hpk] at hxk
      have hbb := box_below wr (.cells #[.bool xw, .int .i64 xk, .int .i64 xv] 45)
      have HO11 := BoxN.new wr 45 #[.bool xw, .int .i64 xk, .int .i64 xv]
      have HX11 := HXq.out.below hbb
      have HT11 := HTq.out.below hbb
      have HI11 := HIq.out.below hbb
      have HK11 := HKq.out.below hbb
      have HV11 := hid (HVq.out.below hbb)
      have HB11 := HBq.out.alloc HBq.out.size (.cells #[.bool xw, .int .i64 xk, .int .i64 xv] 45)
      have hp11 : M ≤ wr.heap.size := by have := HXq.out.lt; omega
      have hpp : p9 < wr.heap.size := HXq.out.lt
      have HTB : Hid (∀ b, vt.ownBlock = some b → b < wr.heap.size) := hid (fun b e => (World.ownsRow.lt HTq.out b e).2)
      go_upto_region 15 with fail
      clear e0 e1 e2 d3 HXq HTq HIq HKq HVq HBq hbb
      generalize wr.alloc (.cells #[.bool xw, .int .i64 xk, .int .i64 xv] 45) = w11 at *
      generalize wr.heap.size = p11 at *
      have CNK := hid (rname22_any w.heap.size _ (firsts (kTo s i k)) xk _ HK11 HB11.size (by have := kTo_len (s := s) (i := i) (k := k) hlt; have := HOS.out; omega))
      have HX11 := hid HX11
      have HT11 := hid HT11
      have HI11 := hid HI11
      have HB11 := hid HB11
      have y1 := HO11.cell (i := 1) rfl
      have HO11 := hid HO11
      clear HK11
      go_wp2_with fail
      refine CNK.out.mono ?_
      rintro e wA ⟨vk2, rfl, hOA, hbA⟩
      rw [hpk]
      have HKA : Hid (IntO wA w.heap.size vk2 (firsts (kTo s i (k + 1)))) := hid (by rw [HKS.out, firsts_snoc]; exact hOA)
      have HOA := HO11.out.below hbA
      have hcA := HOA.cell (i := 1) rfl
      have hfA := HOA.free 1
      have hgs := grown_set wA ⟨p11, 1, none⟩ (.int .i64 pk)
      have HOB : BoxN (wA.setCell ⟨p11, 1, none⟩ (.int .i64 pk)) p11 45 #[.bool xw, .int .i64 pk, .int .i64 xv] := HOA.set 1 (.int .i64 pk)
      have HXB := hid ((HX11.out.below hbA).far (a := ⟨p11, 1, none⟩) (by show p9 ≠ p11; omega) (.int .i64 pk))
      have HTW := hid (Own.keep (HT11.out.below hbA) hgs (no_row HTB.out (fun g e => by cases e; exact Nat.le_refl _)))
      have HIB := hid ((HI11.out.below hbA).box hp11 HOA (by decide) hgs)
      have HKB := hid (HKA.out.box HOA (by decide) hgs)
      have HVB := hid ((HV11.out.below hbA).box HOA (by decide) hgs)
      have HBB := hid ((below_then HB11.out hbA).setCell (p := ⟨p11, 1, none⟩) (by show w.heap.size ≤ p11; omega) (.int .i64 pk))
      clear hOA hbA HOA hgs HX11 HT11 HI11 HV11 HB11 HO11 CNK HKA y1
      go_upto_region 16 with fail
      generalize wA.setCell ⟨p11, 1, none⟩ (.int .i64 pk) = wB at *
      have y2 := HOB.cell (i := 2) rfl
      have HOB := hid HOB
      by_cases hxv : xv = 0
      ·subst hxv
       have HXV : Hid (cOp (s.map txE) ⟨xw, xk, 0⟩ = ⟨xw, pk, 0⟩) := hid (by rw [hxk, if_pos rfl])
       have hq0 : ((0 : Int) != 0) = false := rfl
       have HVB2 : Hid (IntO wB w.heap.size u7 (firsts (valP (vTo s i (k + 1))))) := hid (by rw [HVS.out, val_old]; exact HVB.out)
       clear hxk
       go_upto_region 19 with fail
       have HO9 := HOB
       have HX9 := HXB
       have HT9 := HTW
       have HI9 := HIB
       have HK9 := HKB
       have HV9 := HVB2
       have HB9 := HBB
       clear y2 HOB HXB HTW HIB HKB HVB HVB2 HBB
       have HOC := HO9.out
       have HXC := HX9.out
       have HTC := HT9.out
       have HIC := HI9.out
       have HKC := HK9.out
       have HVC := HV9.out
       have HBC := HB9.out
       have hct := HXC.cell (i := 3) rfl
       have q0 := HOC.cell (i := 0) rfl
       have q1 := HOC.cell (i := 1) rfl
       have q2 := HOC.cell (i := 2) rfl
       have hlen : ((((opsAt s i).take k).map (cOp (s.map txE)))).length = k := by rw [List.length_map, List.length_take]; omega
       have HVT : vt.ownBlock = none ∨ vt.ownBlock ≠ some p9 := owns_no_box HTC HXC (by decide)
       have hsM : M ≤ wB.heap.size := by have := HXC.lt; omega
       have hbwo := HBC.size
       obtain ⟨ta, tn, tc, htv⟩ : ∃ a n c, vt = .slice a n c := by
        obtain ⟨_, a, c, e, _⟩ := HTC.ops
        exact ⟨a, _, c, e⟩
       subst htv
       have hown : wB.ownsRow M 45 3 (.slice ta tn tc) k (opV (((opsAt s i).take k).map (cOp (s.map txE)))) := by
        have q := HTC
        unfold Own at q
        rwa [hlen] at q
       have hbA := box_below wB (.cells #[.bool xw, .int .i64 pk, .int .i64 0] 45)
       have HXA := hid (HXC.below hbA)
       have HTA := hid (HTC.below hbA)
       have HIA := hid (HIC.below hbA)
       have HKA := hid (HKC.below hbA)
       have HVA := hid (HVC.below hbA)
       have HBA := hid HBC
       have HVT := hid HVT
       clear HOC HXC HTC HIC HKC HVC HBC hbA HO9 HX9 HT9 HI9 HK9 HV9 HB9
       go_wp2_with (first | (at_builtin; refine wpList_append_own _ rfl _ _ 39 rfl M 45 i1 (.agg #[.bool false, .int .i64 0, .int .i64 0]) 3 24 Try.underlying39 hj hy0 hy1 hy2 rfl (by decide) _ _ _ rfl (hown.alloc _) ⟨_, 0, none⟩ 1 1 [.bool xw, .int .i64 pk, .int .i64 0] rfl rfl ?c1 ?c2 ?c3 ?c4 ?c5 ?_) | go_in)
       try case c1 => exact lit_new _ _ _ _ _
       try case c2 => first | exact ⟨rfl, rfl, rfl⟩ | (intro u hu; simp at hu; rcases hu with rfl | rfl | rfl <;> rfl)
       case c3 => unfold maxLen; omega
       case c4 => omega
       case c5 => first | omega | (simp; omega)
       intro v6 w6 hown6 hg6 _
       have hOB := below_app0 HBA.out (Nat.le_refl _) hown hbM hg6
       have hT6 : Own w6 M v6 (((opsAt s i).take (k + 1)).map (cOp (s.map txE))) := by
        rw [HOS2.out, HXV.out]
        unfold Own
        rw [opV_app, List.length_append, hlen, List.map_take]
        exact hown6
       have hXx := HXA.out.kept hg6 (fun e => by
        rcases HVT.out with q | q
        ·rw [q] at e; cases e
        ·exact q e.symm)
       have hIx := HIA.out.ops HTA.out hg6
       have hKx : IntO w6 w.heap.size _ _ := World.ownsRow.kept HKA.out hg6 (owns_apart HKA.out HTA.out (by decide))
       have hVx : IntO w6 w.heap.size _ _ := World.ownsRow.kept HVA.out hg6 (owns_apart HVA.out HTA.out (by decide))
       obtain ⟨ga, gn, gc, hgv⟩ : ∃ a n c, v6 = .slice a n c := by
        obtain ⟨_, a, c, e, _⟩ := hT6.ops
        exact ⟨a, _, c, e⟩
       subst hgv
       have hcx := hXx.cell (i := 3) rfl
       have hfx := hXx.free 3
       have hgs := grown_set w6 ⟨p9, 3, none⟩ (.slice ga gn gc)
       have HXF : Hid (BoxN (w6.setCell ⟨p9, 3, none⟩ (.slice ga gn gc)) p9 41 #[.int .i64 px, .int .i64 rb, .int .i64 rc, .slice ga gn gc]) := hid (hXx.set 3 (.slice ga gn gc))
       have HTF := hid (Own.keep hT6 hgs (owns_no_box hT6 hXx (by decide)))
       have HIF := hid (hIx.box hpM hXx (by decide) hgs)
       have HKF := hid (hKx.box hXx (by decide) hgs)
       have HVF := hid (hVx.box hXx (by decide) hgs)
       have HBF := hid (hOB.setCell (p := ⟨p9, 3, none⟩) (by show w.heap.size ≤ p9; omega) (.slice ga gn gc))
       clear hown6 hg6 hT6 hXx hIx hKx hVx hgs hown HXA HTA HIA HKA HVA HBA hct q0 q1 q2 hOB
       go_wp2_with fail
       go_roundw
       case rel => exact ⟨k + 1, _, by omega, by go_num, HXF, HTF, HIF, HKF, HVF, HBF⟩
       case measure => simp [intOf]; omega
      ·have hq0 : (xv != 0) = true := by simpa using hxv
       have CNV := hid (rname22_any w.heap.size _ (firsts (valP (vTo s i k))) xv _ HVB.out HBB.out.size (by have := vTo_len (s := s) (i := i) (k := k) hlt; have := HOS.out; omega))
       have hpv1 : posL (firsts (valP (vTo s i k))) xv ≤ 1024 := by
        have h1 := vTo_len (s := s) (i := i) (k := k) hlt
        have h2 := HOS.out
        have h3 : posL (firsts (valP (vTo s i k))) xv ≤ (firsts (valP (vTo s i k))).length := List.findIdx_le_length
        omega
       rw [if_neg hxv] at hxk
       have HVN : Hid (addN (firsts (valP (vTo s i k))) xv = firsts (valP (vTo s i (k + 1)))) := hid (by rw [HVS.out, val_new _ _ hxv])
       obtain ⟨pv, hpv⟩ : ∃ z, posL (firsts (valP (vTo s i k))) xv = z := ⟨_, rfl⟩
       rw [hpv] at hxk CNV hpv1
       have HXV : Hid (cOp (s.map txE) ⟨xw, xk, xv⟩ = ⟨xw, pk, ((pv : Nat) : Int) + 1⟩) := hid hxk
       clear hxk hpv
       go_wp2_with fail
       refine CNV.out.mono ?_
       rintro e wC ⟨vv2, rfl, hOC, hbC⟩
       have HVC2 : IntO wC w.heap.size vv2 (firsts (valP (vTo s i (k + 1)))) := by rw [← HVN.out]; exact hOC
       have HOC := HOB.out.below hbC
       have hcC := HOC.cell (i := 2) rfl
       have hfC := HOC.free 2
       have hgs := grown_set wC ⟨p11, 2, none⟩ (.int .i64 (pv : Int))
       have HOD : BoxN (wC.setCell ⟨p11, 2, none⟩ (.int .i64 (pv : Int))) p11 45 #[.bool xw, .int .i64 pk, .int .i64 (pv : Int)] := HOC.set 2 (.int .i64 (pv : Int))
       have HXD := hid ((HXB.out.below hbC).far (a := ⟨p11, 2, none⟩) (by show p9 ≠ p11; omega) (.int .i64 (pv : Int)))
       have HTD := hid (Own.keep (HTW.out.below hbC) hgs (no_row HTB.out (fun g e => by cases e; exact Nat.le_refl _)))
       have HID := hid ((HIB.out.below hbC).box hp11 HOC (by decide) hgs)
       have HKD := hid ((HKB.out.below hbC).box HOC (by decide) hgs)
       have HVD := hid (HVC2.box HOC (by decide) hgs)
       have HBD := hid ((below_then HBB.out hbC).setCell (p := ⟨p11, 2, none⟩) (by show w.heap.size ≤ p11; omega) (.int .i64 (pv : Int)))
       clear hOC hbC HOC hgs y2 HOB HXB HTW HIB HKB HVB HBB CNV HVC2
       go_upto_region 18 with fail
       generalize wC.setCell ⟨p11, 2, none⟩ (.int .i64 (pv : Int)) = wD at *
       have hcD := HOD.cell (i := 2) rfl
       have hfD := HOD.free 2
       have hgs := grown_set wD ⟨p11, 2, none⟩ (.int .i64 ((pv : Int) + 1))
       have HO9 : Hid (BoxN (wD.setCell ⟨p11, 2, none⟩ (.int .i64 ((pv : Int) + 1))) p11 45 #[.bool xw, .int .i64 pk, .int .i64 ((pv : Int) + 1)]) := hid (HOD.set 2 (.int .i64 ((pv : Int) + 1)))
       have HX9 := hid (HXD.out.far (a := ⟨p11, 2, none⟩) (by show p9 ≠ p11; omega) (.int .i64 ((pv : Int) + 1)))
       have HT9 := hid (Own.keep HTD.out hgs (no_row HTB.out (fun g e => by cases e; exact Nat.le_refl _)))
       have HI9 := hid (HID.out.box hp11 HOD (by decide) hgs)
       have HK9 := hid (HKD.out.box HOD (by decide) hgs)
       have HV9 := hid (HVD.out.box HOD (by decide) hgs)
       have HB9 := hid (HBD.out.setCell (p := ⟨p11, 2, none⟩) (by show w.heap.size ≤ p11; omega) (.int .i64 ((pv : Int) + 1)))
       have hwrp : IntKind.i64.wrap ((pv : Int) + 1) = (pv : Int) + 1 := by rw [IntKind.wrap_i64]; omega
       clear hgs HOD HXD HTD HID HKD HVD HBD
       go_upto_region 19 with fail
       clear hcD hfD
       generalize wD.setCell ⟨p11, 2, none⟩ (.int .i64 ((pv : Int) + 1)) = wE at *
       have HOC := HO9.out
       have HXC := HX9.out
       have HTC := HT9.out
       have HIC := HI9.out
       have HKC := HK9.out
       have HVC := HV9.out
       have HBC := HB9.out
       have hct := HXC.cell (i := 3) rfl
       have q0 := HOC.cell (i := 0) rfl
       have q1 := HOC.cell (i := 1) rfl
       have q2 := HOC.cell (i := 2) rfl
       have hlen : ((((opsAt s i).take k).map (cOp (s.map txE)))).length = k := by rw [List.length_map, List.length_take]; omega
       have HVT : vt.ownBlock = none ∨ vt.ownBlock ≠ some p9 := owns_no_box HTC HXC (by decide)
       have hsM : M ≤ wE.heap.size := by have := HXC.lt; omega
       have hbwo := HBC.size
       obtain ⟨ta, tn, tc, htv⟩ : ∃ a n c, vt = .slice a n c := by
        obtain ⟨_, a, c, e, _⟩ := HTC.ops
        exact ⟨a, _, c, e⟩
       subst htv
       have hown : wE.ownsRow M 45 3 (.slice ta tn tc) k (opV (((opsAt s i).take k).map (cOp (s.map txE)))) := by
        have q := HTC
        unfold Own at q
        rwa [hlen] at q
       have hbA := box_below wE (.cells #[.bool xw, .int .i64 pk, .int .i64 ((pv : Int) + 1)] 45)
       have HXA := hid (HXC.below hbA)
       have HTA := hid (HTC.below hbA)
       have HIA := hid (HIC.below hbA)
       have HKA := hid (HKC.below hbA)
       have HVA := hid (HVC.below hbA)
       have HBA := hid HBC
       have HVT := hid HVT
       clear HOC HXC HTC HIC HKC HVC HBC hbA HO9 HX9 HT9 HI9 HK9 HV9 HB9
       go_wp2_with (first | (at_builtin; refine wpList_append_own _ rfl _ _ 39 rfl M 45 i1 (.agg #[.bool false, .int .i64 0, .int .i64 0]) 3 24 Try.underlying39 hj hy0 hy1 hy2 rfl (by decide) _ _ _ rfl (hown.alloc _) ⟨_, 0, none⟩ 1 1 [.bool xw, .int .i64 pk, .int .i64 ((pv : Int) + 1)] rfl rfl ?c1 ?c2 ?c3 ?c4 ?c5 ?_) | go_in)
       try case c1 => exact lit_new _ _ _ _ _
       try case c2 => first | exact ⟨rfl, rfl, rfl⟩ | (intro u hu; simp at hu; rcases hu with rfl | rfl | rfl <;> rfl)
       case c3 => unfold maxLen; omega
       case c4 => omega
       case c5 => first | omega | (simp; omega)
       intro v6 w6 hown6 hg6 _
       have hOB := below_app0 HBA.out (Nat.le_refl _) hown hbM hg6
       have hT6 : Own w6 M v6 (((opsAt s i).take (k + 1)).map (cOp (s.map txE))) := by
        rw [HOS2.out, HXV.out]
        unfold Own
        rw [opV_app, List.length_append, hlen, List.map_take]
        exact hown6
       have hXx := HXA.out.kept hg6 (fun e => by
        rcases HVT.out with q | q
        ·rw [q] at e; cases e
        ·exact q e.symm)
       have hIx := HIA.out.ops HTA.out hg6
       have hKx : IntO w6 w.heap.size _ _ := World.ownsRow.kept HKA.out hg6 (owns_apart HKA.out HTA.out (by decide))
       have hVx : IntO w6 w.heap.size _ _ := World.ownsRow.kept HVA.out hg6 (owns_apart HVA.out HTA.out (by decide))
       obtain ⟨ga, gn, gc, hgv⟩ : ∃ a n c, v6 = .slice a n c := by
        obtain ⟨_, a, c, e, _⟩ := hT6.ops
        exact ⟨a, _, c, e⟩
       subst hgv
       have hcx := hXx.cell (i := 3) rfl
       have hfx := hXx.free 3
       have hgs := grown_set w6 ⟨p9, 3, none⟩ (.slice ga gn gc)
       have HXF : Hid (BoxN (w6.setCell ⟨p9, 3, none⟩ (.slice ga gn gc)) p9 41 #[.int .i64 px, .int .i64 rb, .int .i64 rc, .slice ga gn gc]) := hid (hXx.set 3 (.slice ga gn gc))
       have HTF := hid (Own.keep hT6 hgs (owns_no_box hT6 hXx (by decide)))
       have HIF := hid (hIx.box hpM hXx (by decide) hgs)
       have HKF := hid (hKx.box hXx (by decide) hgs)
       have HVF := hid (hVx.box hXx (by decide) hgs)
       have HBF := hid (hOB.setCell (p := ⟨p9, 3, none⟩) (by show w.heap.size ≤ p9; omega) (.slice ga gn gc))
       clear hown6 hg6 hT6 hXx hIx hKx hVx hgs hown HXA HTA HIA HKA HVA HBA hct q0 q1 q2 hOB
       go_wp2_with fail
       go_roundw
       case rel => exact ⟨k + 1, _, by omega, by go_num, HXF, HTF, HIF, HKF, HVF, HBF⟩
       case measure => simp [intOf]; omega
     ·obtain rfl : k = (opsAt s i).length := by omega
      have hki : ¬ ((opsAt s i).length : Int) < ((opsAt s i).length : Int) := by omega
      have HTq2 : Own wr M vt ((opsAt s i).map (cOp (s.map txE))) := by have q := HTq.out; rwa [List.take_length] at q
      have t0 := HXq.out.cell (i := 0) rfl
      have t1 := HXq.out.cell (i := 1) rfl
      have t2 := HXq.out.cell (i := 2) rfl
      have t3 := HXq.out.cell (i := 3) rfl
      obtain ⟨ta, tn, tc, htv⟩ : ∃ a n c, vt = .slice a n c := by
       obtain ⟨_, a, c, e, _⟩ := HTq2.ops
       exact ⟨a, _, c, e⟩
      subst htv
      have hown := HIq.out.o
      have hIA := HIq.out.below (box_below wr (.cells #[.int .i64 px, .int .i64 rb, .int .i64 rc, .slice ta tn tc] 41))
      have HTA := hid (HTq2.below (box_below wr (.cells #[.int .i64 px, .int .i64 rb, .int .i64 rc, .slice ta tn tc] 41)))
      have HKA := hid (HKq.out.below (box_below wr (.cells #[.int .i64 px, .int .i64 rb, .int .i64 rc, .slice ta tn tc] 41)))
      have HVA := hid (HVq.out.below (box_below wr (.cells #[.int .i64 px, .int .i64 rb, .int .i64 rc, .slice ta tn tc] 41)))
      have HIA := hid hIA
      have HBA := hid HBq.out
      have hbwo := HBq.out.size
      clear HTq HTq2 HIq HKq HVq HXq HBq hIA
      go_wp2_with (first | (at_builtin; refine wpList_append_lies _ rfl _ _ 22 rfl w.heap.size 41 i0 (.agg #[.int .i64 0, .int .i64 0, .int .i64 0, .slice none 0 0]) 4 48 Try.underlying22 hi hz0 hz1 hz2 rfl (by decide) _ _ _ rfl (hown.alloc _) ⟨_, 0, none⟩ 1 1 [.int .i64 px, .int .i64 rb, .int .i64 rc, .slice ta tn tc] rfl rfl ?c1 ?c2 (by decide) ?c3 ?c4 ?c5 _ rfl ?_) | go_in)
      try case c1 => exact row4_newR _ _ _ _ _ _
      try case c2 => first | exact ⟨rfl, rfl, rfl, rfl⟩ | (intro u hu; simp at hu; rcases hu with rfl | rfl | rfl | rfl <;> rfl)
      case c3 => unfold maxLen; omega
      case c4 => omega
      case c5 => first | omega | (simp; omega)
      intro g6 c6 w6 hown6 hg6 hl6 hlt6
      have hO6 : OwnT w6 w.heap.size (.slice (some ⟨g6, 0, none⟩) (c.length + 1) c6) (c ++ [⟨px, rb, rc, .slice ta tn tc, (opsAt s i).map (cOp (s.map txE))⟩]) := by
       unfold OwnT
       rw [txV_app, List.length_append]
       exact hown6
      have HB6 := hid (below_app0 HBA.out (Nat.le_refl _) hown (Nat.le_refl _) hg6)
      have HI6 := hid (HIA.out.add hbM HTA.out hO6 hg6 (by rw [World.size_alloc]; exact hl6))
      have HK6 : Hid (IntO w6 w.heap.size _ _) := hid (World.ownsRow.kept HKA.out hg6 (owns_apart HKA.out HIA.out.o (by decide)))
      have HV6 : Hid (IntO w6 w.heap.size _ _) := hid (World.ownsRow.kept HVA.out hg6 (owns_apart HVA.out HIA.out.o (by decide)))
      rw [kTo_done hlt] at HK6
      rw [vTo_done hlt] at HV6
      have HC6 := hid (HCN.out (.slice ta tn tc) px rb rc (by rw [← HPX.out, HSN.out, HSS.out]) HRB.out.1.symm HRB.out.2.symm)
      clear hown6 hg6 hl6 hO6 hown HIA HTA HKA HVA HBA t0 t1 t2 t3 hlt6
      go_wp2_with fail
      go_roundw
      case rel => exact ⟨i + 1, _, by omega, by go_num, HC6, HI6, HK6, HV6, HB6⟩
      case measure => simp [intOf]; omega
  ·obtain rfl : i = s.length := by omega
   have hii : ¬ (s.length : Int) < (s.length : Int) := by omega
   have HTX := hid HI.out.txns
   have HCA := hid (can_all HCM.out)
   clear HI HK HV HCM
   go_wp2_with fail
   go_ret
   exact ⟨⟨_, rfl, _, HTX.out, _, HS.out, HCA.out⟩, HB.out⟩
end

section
open Go.RowKit
theorem srt_some {h : List TxnV} (hc : checkI h = 0) : ∃ s, IsSrt h s := by
 have hn := begins_nodup (check_rightB hc).2.2.1
 refine ⟨h.mergeSort (fun t u => decide (t.b ≤ u.b)), List.mergeSort_perm _ _, ?_⟩
 have h1 := List.pairwise_mergeSort (le := fun t u : TxnV => decide (t.b ≤ u.b)) (fun a b c h1 h2 => by simp at h1 h2 ⊢; omega) (fun a b => by simp; omega) h
 have h2 : ((h.mergeSort (fun t u => decide (t.b ≤ u.b))).map (·.b)).Nodup := ((List.mergeSort_perm _ _).map _).nodup_iff.2 hn
 rw [List.nodup_iff_pairwise_ne, List.pairwise_map] at h2
 exact h1.imp₂ (fun a b q r => by simp at q; omega) h2
theorem cansame_no (va vb : Value) (h g : List TxnV) (w : World) (hT : Txns w va h) (hok : ∀ t ∈ h, t.ok) (hsh : Short h) (hT2 : Txns w vb g) (hok2 : ∀ t ∈ g, t.ok) (hsh2 : Short g) (hc : checkI h ≠ 0 ∨ checkI g ≠ 0) :
  Calls Try.prog 11 #[va, vb] w fun e w' => e = .returned (.bool false) ∧ Below w.heap.size w w' := by
 have CC := hid (hcheck_any va h w hT hok hsh)
 have CC2 := hid (fun wx (hx : Below w.heap.size w wx) => hcheck_any vb g wx (hT2.below hx) hok2 hsh2)
 by_cases h0 : checkI h = 0
 ·have hq : (checkI g == 0) = false := by simpa using hc.resolve_left (fun q => q h0)
  rw [h0] at CC
  clear h0 hc
  generalize checkI g = c at *
  clear hT hok hsh hT2 hok2 hsh2
  go_enter Try.func11, Try.ntmps11
  go_wp2_with fail
  refine CC.out.mono ?_
  rintro e w1 ⟨rfl, h1⟩
  have CC3 := hid (CC2.out _ h1)
  clear CC CC2
  go_wp2_with fail
  refine CC3.out.mono ?_
  rintro e w2 ⟨rfl, h2⟩
  have hb := below_then h1 h2
  go_wp2_with fail
  go_ret
  exact ⟨rfl, hb⟩
 ·have hq : (checkI h == 0) = false := by simpa using h0
  clear hc h0
  generalize checkI h = c at *
  clear hT hok hsh hT2 hok2 hsh2 CC2
  go_enter Try.func11, Try.ntmps11
  go_wp2_with fail
  refine CC.out.mono ?_
  rintro e w1 ⟨rfl, h1⟩
  go_wp2_with fail
  go_ret
  exact ⟨rfl, h1⟩
theorem big_case (h : List TxnV) : bigI h = 1 ∨ bigI h = 0 := by
 unfold bigI; split
 ·exact .inl rfl
 ·exact .inr rfl
end

section
open Go.RowKit
theorem capart22_walk (va vb : Value) (h g : List TxnV) (w : World) (hT : Txns w va h) (hok : ∀ t ∈ h, t.ok) (hsh : Short h) (hT2 : Txns w vb g) (hok2 : ∀ t ∈ g, t.ok) (hsh2 : Short g) :
  Calls Try.prog 4 #[va, vb] w fun e w' => e = .returned (.bool true) ∧ Below w.heap.size w w' := by
 have HT := hid (fun wx (hx : Below w.heap.size w wx) => hT.below hx)
 have HT2 := hid (fun wx (hx : Below w.heap.size w wx) => hT2.below hx)
 have HOK := hid hok
 have HSH := hid hsh
 have HOK2 := hid hok2
 have HSH2 := hid hsh2
 clear hT hok hsh hT2 hok2 hsh2
 go_enter Try.func4, Try.ntmps4
 go_wp2_with fail
 refine (speaks22_any _).mono ?_
 rintro e w1 ⟨rfl, hb1⟩
 go_wp2_with fail
 refine (big_any _ h _ (HT.out _ hb1) HSH.out).mono ?_
 rintro e w2 ⟨rfl, hb2⟩
 have hb2 := below_then hb1 hb2
 clear hb1
 rcases big_case h with hbig | hbig
 ·rw [hbig]
  go_wp2_with fail
  go_ret
  exact ⟨rfl, hb2⟩
 rw [hbig]
 clear hbig
 go_wp2_with fail
 refine (big_any _ g _ (HT2.out _ hb2) HSH2.out).mono ?_
 rintro e w3 ⟨rfl, hb3⟩
 have hb3 := below_then hb2 hb3
 clear hb2
 rcases big_case g with hbig | hbig
 ·rw [hbig]
  go_wp2_with fail
  go_ret
  exact ⟨rfl, hb3⟩
 rw [hbig]
 clear hbig
 have CR := hid (rcheck_any va h w3 (HT.out _ hb3) HSH.out)
 have CR2 := hid (fun wx (hx : Below w.heap.size w wx) => rcheck_any vb g wx (HT2.out _ hx) HSH2.out)
 rw [← check_ref] at CR CR2
 by_cases hc : checkI h = 0
 ·by_cases hc2 : checkI g = 0
  ·obtain ⟨s, hs⟩ := srt_some hc
   obtain ⟨u, hu⟩ := srt_some hc2
   rw [hc] at CR
   rw [hc2] at CR2
   obtain ⟨q, hq⟩ : ∃ q, decide (canE (s.map txE) = canE (u.map txE)) = q := ⟨_, rfl⟩
   have hq2 : decide (canE (u.map txE) = canE (s.map txE)) = q := by
    rw [← hq, Bool.eq_iff_iff]
    simp only [decide_eq_true_eq]
    exact ⟨fun e => e.symm, fun e => e.symm⟩
   have CS := hid (fun wx (hx : Below w.heap.size w wx) => cansame_ok va vb h g s u wx (HT.out _ hx) HOK.out HSH.out hc hs (HT2.out _ hx) HOK2.out HSH2.out hc2 hu)
   have CS2 := hid (fun wx (hx : Below w.heap.size w wx) => cansame_ok vb va g h u s wx (HT2.out _ hx) HOK2.out HSH2.out hc2 hu (HT.out _ hx) HOK.out HSH.out hc hs)
   rw [hq] at CS
   rw [hq2] at CS2
   have CW := hid (fun wx (hx : Below w.heap.size w wx) => rof22_any va h wx (HT.out _ hx) hc)
   have CW2 := hid (fun wx (hx : Below w.heap.size w wx) => rof22_any vb g wx (HT2.out _ hx) hc2)
   have HS := hid hs
   have HU := hid hu
   have HQ := hid hq
   clear hc hc2 hs hu hq hq2
   go_wp2_with fail
   refine CR.out.mono ?_
   rintro e w4 ⟨rfl, h4⟩
   have hb4 := below_then hb3 h4
   have CR3 := hid (CR2.out _ hb4)
   clear CR CR2 h4 hb3
   go_wp2_with fail
   refine CR3.out.mono ?_
   rintro e w5 ⟨rfl, h5⟩
   have hb5 := below_then hb4 h5
   have CS3 := hid (CS.out _ hb5)
   clear CR3 h5 hb4
   go_wp2_with fail
   refine CS3.out.mono ?_
   rintro e w6 ⟨rfl, h6⟩
   have hb6 := below_then hb5 h6
   have CW3 := hid (CW.out _ hb6)
   clear CS3 h6 hb5 CW
   go_wp2_with fail
   refine CW3.out.mono ?_
   rintro e w7 ⟨⟨v7, c7, s7, rfl, hT7, hs7, hc7⟩, h7⟩
   rw [srt_eq hs7 HS.out] at hc7
   have hb7 := below_then hb6 h7
   have CW4 := hid (CW2.out _ hb7)
   have HT7 := hid (fun wx (hx : Below w7.heap.size w7 wx) => hT7.below hx)
   have HC7 := hid hc7
   clear CW3 CW2 h7 hb6 hT7 hs7 hc7
   go_wp2_with fail
   refine CW4.out.mono ?_
   rintro e w8 ⟨⟨v8, c8, s8, rfl, hT8, hs8, hc8⟩, h8⟩
   rw [srt_eq hs8 HU.out] at hc8
   have hb8 := below_then hb7 h8
   have CE := hid (sameH_any v7 v8 c7 c8 w8 (HT7.out _ h8) hT8)
   rw [show sameH c7 c8 = q from by unfold sameH; rw [HC7.out, hc8, HQ.out]] at CE
   clear CW4 h8 hb7 hT8 hs8 hc8 HC7 HT7
   go_wp2_with fail
   refine CE.out.mono ?_
   rintro e w9 ⟨rfl, h9⟩
   have hb9 := below_then hb8 h9
   have CS4 := hid (CS.out _ hb9)
   have hqq : (q == q) = true := by simp
   clear CE CS h9 hb8
   go_wp2_with fail
   refine CS4.out.mono ?_
   rintro e wa ⟨rfl, ha⟩
   have hba := below_then hb9 ha
   have CS5 := hid (CS2.out _ hba)
   clear CS4 CS2 ha hb9
   go_wp2_with fail
   refine CS5.out.mono ?_
   rintro e wb ⟨rfl, hb⟩
   have hbb := below_then hba hb
   clear CS5 hb hba
   go_wp2_with fail
   go_ret
   exact ⟨rfl, hbb⟩
  ·have HN := hid (Or.inr hc2 : checkI h ≠ 0 ∨ checkI g ≠ 0)
   rw [hc] at CR
   obtain ⟨cc, hcc⟩ : ∃ z, checkI g = z := ⟨_, rfl⟩
   have hq : (cc == 0) = false := by rw [← hcc]; simpa using hc2
   rw [hcc] at CR2
   clear hc hc2 hcc
   have CS := hid (fun wx (hx : Below w.heap.size w wx) => cansame_no va vb h g wx (HT.out _ hx) HOK.out HSH.out (HT2.out _ hx) HOK2.out HSH2.out HN.out)
   have CS2 := hid (fun wx (hx : Below w.heap.size w wx) => cansame_no vb va g h wx (HT2.out _ hx) HOK2.out HSH2.out (HT.out _ hx) HOK.out HSH.out HN.out.symm)
   go_wp2_with fail
   refine CR.out.mono ?_
   rintro e w4 ⟨rfl, h4⟩
   have hb4 := below_then hb3 h4
   have CR3 := hid (CR2.out _ hb4)
   clear CR CR2 h4 hb3
   go_wp2_with fail
   refine CR3.out.mono ?_
   rintro e w5 ⟨rfl, h5⟩
   have hb5 := below_then hb4 h5
   have CS3 := hid (CS.out _ hb5)
   clear CR3 h5 hb4
   go_wp2_with fail
   refine CS3.out.mono ?_
   rintro e w6 ⟨rfl, h6⟩
   have hb6 := below_then hb5 h6
   have CS4 := hid (CS.out _ hb6)
   clear CS3 CS h6 hb5
   go_wp2_with fail
   refine CS4.out.mono ?_
   rintro e wa ⟨rfl, ha⟩
   have hba := below_then hb6 ha
   have CS5 := hid (CS2.out _ hba)
   clear CS4 CS2 ha hb6
   go_wp2_with fail
   refine CS5.out.mono ?_
   rintro e wb ⟨rfl, hb⟩
   have hbb := below_then hba hb
   clear CS5 hb hba
   go_wp2_with fail
   go_ret
   exact ⟨rfl, hbb⟩
 ·have HN := hid (Or.inl hc : checkI h ≠ 0 ∨ checkI g ≠ 0)
  obtain ⟨cc, hcc⟩ : ∃ z, checkI h = z := ⟨_, rfl⟩
  have hq : (cc == 0) = false := by rw [← hcc]; simpa using hc
  rw [hcc] at CR
  clear hc hcc CR2
  have CS := hid (fun wx (hx : Below w.heap.size w wx) => cansame_no va vb h g wx (HT.out _ hx) HOK.out HSH.out (HT2.out _ hx) HOK2.out HSH2.out HN.out)
  have CS2 := hid (fun wx (hx : Below w.heap.size w wx) => cansame_no vb va g h wx (HT2.out _ hx) HOK2.out HSH2.out (HT.out _ hx) HOK.out HSH.out HN.out.symm)
  go_wp2_with fail
  refine CR.out.mono ?_
  rintro e w5 ⟨rfl, h5⟩
  have hb5 := below_then hb3 h5
  have CS3 := hid (CS.out _ hb5)
  clear CR h5 hb3
  go_wp2_with fail
  refine CS3.out.mono ?_
  rintro e w6 ⟨rfl, h6⟩
  have hb6 := below_then hb5 h6
  have CS4 := hid (CS.out _ hb6)
  clear CS3 CS h6 hb5
  go_wp2_with fail
  refine CS4.out.mono ?_
  rintro e wa ⟨rfl, ha⟩
  have hba := below_then hb6 ha
  have CS5 := hid (CS2.out _ hba)
  clear CS4 CS2 ha hb6
  go_wp2_with fail
  refine CS5.out.mono ?_
  rintro e wb ⟨rfl, hb⟩
  have hbb := below_then hba hb
  clear CS5 hb hba
  go_wp2_with fail
  go_ret
  exact ⟨rfl, hbb⟩
end

end Go.Proofs.Ytlajeemkoldngaa
