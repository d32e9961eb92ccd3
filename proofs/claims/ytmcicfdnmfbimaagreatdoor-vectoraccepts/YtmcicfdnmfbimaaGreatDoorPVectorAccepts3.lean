/- Walks and plain facts that the proof of the statement VectorAccepts uses, joined: HisJ HisK HisL HisM HisN HisO OpQ TxnI TxnJ TxnK HisP OrdR OrdS OrdX HisQ HisR OrdV OrdZ OrdAC LeaD RelS RelT. Conditions: each theorem's own. -/
import Derived.Laws.StructEq
import Derived.Deep.RegionHeld3
import Derived.Deep.CutRange
import Derived.Deep.AppendLies
import Derived.Test.YtmcicfdnmfbimaaGreatDoorPVectorAccepts0
import Derived.Test.YtmcicfdnmfbimaaGreatDoorPVectorAccepts1
import Derived.Test.YtmcicfdnmfbimaaGreatDoorPVectorAccepts2
namespace Go.Proofs.YtmcicfdnmfbimaaGreatDoor
set_option maxHeartbeats 32000000
set_option maxRecDepth 100000
open Lib (hid)
section
open Go.RowKit
def apartB (a t : TxnV) : Bool := (a.b != t.b && (a.b != t.c && (a.c != t.b && a.c != t.c))) && !(a.s == t.s && decide (t.b < a.c))
def opR (h : List TxnV) (o : OpV) : Bool := if o.wr then tmH o.val h == 1 else o.val == 0 || !decide (wrI o.key o.val h < 0)
def rowR (h : List TxnV) (k : Nat) (t : TxnV) : Bool := mayT t.s t.b t.c t.l && ((h.take k).all (fun a => apartB a t) && t.l.all (opR h))
def mayRef (h : List TxnV) : Bool := (List.range h.length).all fun k => match h[k]? with
 | some t => rowR h k t
 | none => true
theorem mayRef_no {h : List TxnV} {k : Nat} (hk : k < h.length) (hn : rowR h k h[k] = false) : mayRef h = false := by
 unfold mayRef
 rw [List.all_eq_false]
 exact ⟨k, List.mem_range.2 hk, by rw [List.getElem?_eq_getElem hk]; simp [hn]⟩
theorem mayRef_yes {h : List TxnV} (hn : ∀ k, ∀ hk : k < h.length, rowR h k h[k] = true) : mayRef h = true := by
 unfold mayRef
 rw [List.all_eq_true]
 intro k hk
 have := List.mem_range.1 hk
 rw [List.getElem?_eq_getElem this]; exact hn k this
theorem rowR_a {h : List TxnV} {k : Nat} {t : TxnV} (hn : mayT t.s t.b t.c t.l = false) : rowR h k t = false := by unfold rowR; rw [hn]; rfl
theorem rowR_b {h : List TxnV} {k : Nat} {t : TxnV} {j : Nat} (hj : j < k) (hk : k ≤ h.length) (hn : apartB (h[j]'(by omega)) t = false) : rowR h k t = false := by
 unfold rowR
 have : (h.take k).all (fun a => apartB a t) = false := List.all_eq_false.2 ⟨h[j]'(by omega), by rw [List.mem_take_iff_getElem]; exact ⟨j, by omega, rfl⟩, by simp [hn]⟩
 rw [this]; simp
theorem rowR_c {h : List TxnV} {k : Nat} {t : TxnV} {j : Nat} (hj : j < t.l.length) (hn : opR h t.l[j] = false) : rowR h k t = false := by
 unfold rowR
 have : t.l.all (opR h) = false := List.all_eq_false.2 ⟨t.l[j], List.getElem_mem hj, by simp [hn]⟩
 rw [this]; simp
theorem rmay_any (va : Value) (h : List TxnV) (w : World) (hT : Txns w va h) (hn : opsN h ≤ 100000) :
  Calls Tryz.prog 75 #[va] w fun e w' => e = .returned (.bool (mayRef h)) ∧ Below w.heap.size w w' := by
 obtain ⟨ao, cap, rfl, hal⟩ := hT.form
 have HT := hid (fun wx (hx : Below w.heap.size w wx) => hT.below hx)
 have HNO : Hid (∀ k, ∀ hk : k < h.length, rowR h k h[k] = false → false = mayRef h) := hid (fun k hk hh => (mayRef_no hk hh).symm)
 have HTM : Hid (∀ x wx, Below w.heap.size w wx → Calls Tryz.prog 124 #[.slice ao h.length cap, .int .i64 x] wx fun e w' => e = .returned (.int .i64 (tmH x h)) ∧ Below wx.heap.size wx w') := hid (fun x wx hx => times_any _ h x wx (hT.below hx) hn)
 have HWR : Hid (∀ key x wx, Below w.heap.size w wx → Calls Tryz.prog 65 #[.slice ao h.length cap, .int .i64 key, .int .i64 x] wx fun e w' => e = .returned (.int .i64 (wrI key x h)) ∧ Below wx.heap.size wx w') := hid (fun key x wx hx => writer_any _ h key x wx (hT.below hx))
 clear hT
 go_enter Tryz.func75, Tryz.ntmps75
 go_wp2_with fail
 go_loopw [3] (fun i wr => ∃ k : Nat, k ≤ h.length ∧ i = .int .i64 k ∧ (∀ j, ∀ _ : j < k, ∀ hj : j < h.length, rowR h j h[j] = true) ∧ Below w.heap.size w wr) (fun i _ => h.length - (intOf i).toNat)
 case atStart => exact ⟨0, by omega, rfl, by omega, Below.refl _ _⟩
 case round =>
  obtain ⟨k, hk, rfl, hN, hb⟩ := hrel
  have HN := hid hN
  clear hN
  by_cases hlt : k < h.length
  ·have hki : (k : Int) < (h.length : Int) := by omega
   obtain ⟨g, o, hao, c0, c1, c2, c3⟩ := (HT.out _ hb).at hlt
   cases hao
   have HOP := hid (fun wx (hx : Below w.heap.size w wx) => (HT.out wx hx).ops hlt)
   have HAT := hid (fun wx (hx : Below w.heap.size w wx) => (HT.out wx hx).at hlt)
   have HAJ := hid (fun wx (hx : Below w.heap.size w wx) j (hj : j < h.length) => (HT.out wx hx).at hj)
   have HNK := hid (HNO.out k hlt)
   have HLK : Hid (rowR h k h[k] = true → ∀ i, ∀ _ : i < k + 1, ∀ hi2 : i < h.length, rowR h i h[i] = true) := hid (fun hh i hi hi2 => by
    rcases Nat.lt_or_eq_of_le (Nat.le_of_lt_succ hi) with h1 | rfl
    ·exact HN.out i h1 hi2
    ·exact hh)
   have HJV : Hid (∀ wx, Below w.heap.size w wx → ∀ j, ∀ hj : j < h.length, ∃ a' m' c', (h[j]).v = .slice a' m' c') := hid (fun wx hx j hj => by
    obtain ⟨a', c', hv', _⟩ := ((HT.out wx hx).ops hj).form
    exact ⟨a', _, c', hv'⟩)
   generalize ht : h[k] = t at *
   have HTK := hid ht
   clear ht
   obtain ⟨s, b, c, v, l⟩ := t
   simp only at c0 c1 c2 c3 HOP HAT
   obtain ⟨ai, capi, rfl, hli⟩ := (HOP.out _ hb).form
   have CM := hid (maytxn_any s b c _ l wr (HOP.out _ hb))
   clear HN
   cases hm : mayT s b c l
   ·have H := hid (HNK.out (rowR_a hm))
    rw [hm] at CM
    clear hm HNK HLK HNO
    go_wp2_with fail
    refine (CM.out).mono ?_
    rintro e w1 ⟨rfl, hb1⟩
    have hb2 := below_then hb hb1
    go_wp2_with fail
    go_ret
    exact ⟨ret_b H.out, hb2⟩
   rw [hm] at CM
   have HM := hid hm
   clear hm
   go_wp2_with fail
   refine (CM.out).mono ?_
   rintro e w1 ⟨rfl, hb1⟩
   have hb2 := below_then hb hb1
   clear CM hb hb1 c0 c1 c2 c3
   go_wp2_with fail
   go_loopw [4] (fun i wx => ∃ j : Nat, j ≤ k ∧ i = .int .i64 j ∧ ((h.take j).all (fun a => apartB a ⟨s, b, c, .slice ai l.length capi, l⟩) = true) ∧ Below w.heap.size w wx) (fun i _ => k - (intOf i).toNat)
   case atStart => exact ⟨0, by omega, rfl, rfl, hb2⟩
   case round =>
    obtain ⟨j, hj, rfl, hA, hb3⟩ := hrel
    have HA := hid hA
    clear hA hb2
    by_cases hltj : j < k
    ·have hkj : (j : Int) < (k : Int) := by omega
     have hjl : j < h.length := by omega
     have hjl' : (j : Int) < (h.length : Int) := by omega
     obtain ⟨_, _, hao, c0, c1, c2, c3⟩ := HAJ.out _ hb3 j hjl
     cases hao
     have HS : Hid ((h.take (j + 1)).all (fun a => apartB a ⟨s, b, c, .slice ai l.length capi, l⟩) = ((h.take j).all (fun a => apartB a ⟨s, b, c, .slice ai l.length capi, l⟩) && apartB h[j] ⟨s, b, c, .slice ai l.length capi, l⟩)) := hid (by rw [List.take_succ_eq_append_getElem hjl, List.all_append]; simp)
     have HB := hid (fun hh => HNK.out (rowR_b hltj hk hh))
     obtain ⟨a1, m1, cap1, hv1⟩ := HJV.out _ hb3 j hjl
     rw [hv1] at c3
     generalize h[j] = u at *
     obtain ⟨us, ub, uc, uv, ul⟩ := u
     simp only at c0 c1 c2 hv1
     subst hv1
     have hb4 := hb3.alloc hb3.size (.cells #[.int .i64 us, .int .i64 ub, .int .i64 uc, .slice a1 m1 cap1] 30)
     have hb5 := hb4.alloc hb4.size (.cells #[.int .i64 s, .int .i64 b, .int .i64 c, .slice ai l.length capi] 30)
     obtain ⟨_, _, hao, e0, e1, e2, e3⟩ := HAT.out _ hb4
     cases hao
     have HAP : Hid (apartB ⟨us, ub, uc, .slice a1 m1 cap1, ul⟩ ⟨s, b, c, .slice ai l.length capi, l⟩ = ((ub != b && (ub != c && (uc != b && uc != c))) && !(us == s && decide (b < uc)))) := hid rfl
     generalize apartB ⟨us, ub, uc, .slice a1 m1 cap1, ul⟩ ⟨s, b, c, .slice ai l.length capi, l⟩ = q at *
     cases b1 : ub == b
     case true =>
      have H := hid (HB.out (by rw [HAP.out]; simp [bne, b1]))
      clear HLK HNO HNK HB HAP HS
      go_wp2_with fail
      go_ret
      exact ⟨ret_b H.out, hb5⟩
     cases b2 : ub == c
     case true =>
      have H := hid (HB.out (by rw [HAP.out]; simp [bne, b1, b2]))
      clear HLK HNO HNK HB HAP HS
      go_wp2_with fail
      go_ret
      exact ⟨ret_b H.out, hb5⟩
     cases b3 : uc == b
     case true =>
      have H := hid (HB.out (by rw [HAP.out]; simp [bne, b1, b2, b3]))
      clear HLK HNO HNK HB HAP HS
      go_wp2_with fail
      go_ret
      exact ⟨ret_b H.out, hb5⟩
     cases b4 : uc == c
     case true =>
      have H := hid (HB.out (by rw [HAP.out]; simp [bne, b1, b2, b3, b4]))
      clear HLK HNO HNK HB HAP HS
      go_wp2_with fail
      go_ret
      exact ⟨ret_b H.out, hb5⟩
     cases b5 : us == s
     case false =>
      have H : Hid ((h.take (j + 1)).all (fun a => apartB a ⟨s, b, c, .slice ai l.length capi, l⟩) = true) := hid (by rw [HS.out, HA.out, HAP.out]; simp [bne, b1, b2, b3, b4, b5])
      clear HB HAP HS
      go_wp2_with fail
      go_roundw
      case rel => exact ⟨j + 1, by omega, by go_num, H.out, hb5⟩
      case measure => simp [intOf]; omega
     by_cases d6 : b < uc
     ·have H := hid (HB.out (by rw [HAP.out]; simp [bne, b1, b2, b3, b4, b5, d6]))
      clear HLK HNO HNK HB HAP HS
      go_wp2_with fail
      go_ret
      exact ⟨ret_b H.out, hb5⟩
     ·have H : Hid ((h.take (j + 1)).all (fun a => apartB a ⟨s, b, c, .slice ai l.length capi, l⟩) = true) := hid (by rw [HS.out, HA.out, HAP.out]; simp [bne, b1, b2, b3, b4, b5, d6])
      clear HB HAP HS
      go_wp2_with fail
      go_roundw
      case rel => exact ⟨j + 1, by omega, by go_num, H.out, hb5⟩
      case measure => simp [intOf]; omega
    ·have hjk : j = k := by omega
     subst hjk
     have HRO : Hid (rowR h j ⟨s, b, c, .slice ai l.length capi, l⟩ = l.all (opR h)) := hid (by unfold rowR; rw [HM.out, HA.out]; rfl)
     have HOO := hid (fun i hi hh => HNK.out (rowR_c (j := i) hi hh))
     clear HNK HM HA HJV HAJ
     go_wp2_with fail
     go_loopw [7] (fun i wx => ∃ m : Nat, m ≤ l.length ∧ i = .int .i64 m ∧ (l.take m).all (opR h) = true ∧ Below w.heap.size w wx) (fun i _ => l.length - (intOf i).toNat)
     case atStart => exact ⟨0, by omega, rfl, rfl, hb3⟩
     case round =>
      obtain ⟨m, hm, rfl, hA, hb4⟩ := hrel
      have HA := hid hA
      clear hA hb3
      obtain ⟨_, _, hao, c0, c1, c2, c3⟩ := HAT.out _ hb4
      cases hao
      clear c0 c1 c2
      by_cases hltm : m < l.length
      ·have hkm : (m : Int) < (l.length : Int) := by omega
       obtain ⟨g2, o2, hao2, e0, e1, e2⟩ := (HOP.out _ hb4).at hltm
       cases hao2
       have HS : Hid ((l.take (m + 1)).all (opR h) = ((l.take m).all (opR h) && opR h l[m])) := hid (by rw [take_snoc l m hltm, List.all_append]; simp)
       have HB := hid (HOO.out m hltm)
       generalize l[m] = y at *
       obtain ⟨yw, yk, yv⟩ := y
       try simp only at e0 e1 e2
       have hb5 := hb4.alloc hb4.size (.cells #[.bool yw, .int .i64 yk, .int .i64 yv] 26)
       have HOR : Hid (opR h ⟨yw, yk, yv⟩ = if yw then tmH yv h == 1 else yv == 0 || !decide (wrI yk yv h < 0)) := hid rfl
       generalize opR h ⟨yw, yk, yv⟩ = q at *
       cases yw with
       | true =>
        simp only [if_true] at HOR
        have CT := hid (HTM.out yv _ hb5)
        generalize tmH yv h = n at *
        cases hn1 : n == 1
        ·have H := hid (HB.out (by rw [HOR.out, hn1]))
         have hn2 : ((n : Int) != 1) = true := by simp at hn1 ⊢; omega
         clear HLK HNO HOO HB HOR HS hn1
         go_wp2_with fail
         refine (CT.out).mono ?_
         rintro e w6 ⟨rfl, hb6⟩
         have hb7 := below_then hb5 hb6
         go_wp2_with fail
         go_ret
         exact ⟨ret_b H.out, hb7⟩
        ·have H : Hid ((l.take (m + 1)).all (opR h) = true) := hid (by rw [HS.out, HA.out, HOR.out, hn1]; rfl)
         obtain rfl : n = 1 := by simpa using hn1
         change Hid (Calls _ _ _ _ fun e w' => e = .returned (.int .i64 1) ∧ _) at CT
         clear HB HOR HS hn1
         obtain ⟨x0, x1, x2⟩ := opBlock wr (.bool true) (.int .i64 yk) (.int .i64 yv) 26
         go_wp2_with fail
         refine (CT.out).mono ?_
         rintro e w6 ⟨rfl, hb6⟩
         have hb7 := below_then hb5 hb6
         have z0 := (hb6.cell (p := ⟨wr.heap.size, 0, none⟩) (block_lt x0)).trans x0
         have z1 := (hb6.cell (p := ⟨wr.heap.size, 1, none⟩) (block_lt x1)).trans x1
         have z2 := (hb6.cell (p := ⟨wr.heap.size, 2, none⟩) (block_lt x2)).trans x2
         clear x0 x1 x2
         go_wp2_with fail
         go_roundw
         case rel => exact ⟨m + 1, by omega, by go_num, H.out, hb7⟩
         case measure => simp [intOf]; omega
       | false =>
        simp only [Bool.false_eq_true, if_false] at HOR
        cases hz : yv == 0
        ·have hz2 : (yv != 0) = true := by simp [bne, hz]
         have CW := hid (HWR.out yk yv _ hb5)
         generalize wrI yk yv h = n at *
         by_cases hneg : n < 0
         ·have H := hid (HB.out (by rw [HOR.out, hz]; simp [hneg]))
          clear HLK HNO HOO HB HOR HS
          go_wp2_with fail
          refine (CW.out).mono ?_
          rintro e w6 ⟨rfl, hb6⟩
          have hb7 := below_then hb5 hb6
          go_wp2_with fail
          go_ret
          exact ⟨ret_b H.out, hb7⟩
         ·have H : Hid ((l.take (m + 1)).all (opR h) = true) := hid (by rw [HS.out, HA.out, HOR.out, hz]; simp [hneg])
          clear HB HOR HS
          go_wp2_with fail
          refine (CW.out).mono ?_
          rintro e w6 ⟨rfl, hb6⟩
          have hb7 := below_then hb5 hb6
          go_wp2_with fail
          go_roundw
          case rel => exact ⟨m + 1, by omega, by go_num, H.out, hb7⟩
          case measure => simp [intOf]; omega
        ·have hz2 : (yv != 0) = false := by simp [bne, hz]
         have H : Hid ((l.take (m + 1)).all (opR h) = true) := hid (by rw [HS.out, HA.out, HOR.out, hz]; rfl)
         clear HB HOR HS
         go_wp2_with fail
         go_roundw
         case rel => exact ⟨m + 1, by omega, by go_num, H.out, hb5⟩
         case measure => simp [intOf]; omega
      ·have hm2 : m = l.length := by omega
       subst hm2
       have H := hid (HLK.out (by rw [HRO.out]; have := HA.out; rwa [List.take_length] at this))
       go_wp2_with fail
       go_roundw
       case rel => exact ⟨j + 1, by omega, by go_num, H.out, hb4⟩
       case measure => simp [intOf]; omega
  ·have hkl : k = h.length := by omega
   subst hkl
   have H : Hid (true = mayRef h) := hid (mayRef_yes (fun k hk => HN.out k hk hk)).symm
   clear HNO HTM HWR
   go_wp2_with fail
   go_ret
   exact ⟨ret_b H.out, hb⟩
end

section
open Go.RowKit
def wrs (h : List TxnV) : List OpV := h.flatMap fun t => t.l.filter (·.wr)
theorem wvH_map (h : List TxnV) : wvH h = (wrs h).map (·.val) := by unfold wvH wrs wv; rw [List.map_flatMap]
theorem wrs_mem {h : List TxnV} {o : OpV} : o ∈ wrs h ↔ ∃ t ∈ h, o ∈ t.l ∧ o.wr = true := by unfold wrs; simp
theorem inj_val : ∀ {L : List OpV}, (L.map (·.val)).Nodup → ∀ {o p : OpV}, o ∈ L → p ∈ L → o.val = p.val → o = p
 | a :: L, hd, o, p, ho, hp, e => by
  rw [List.map_cons, List.nodup_cons] at hd
  rcases List.mem_cons.1 ho with rfl | ho
  ·rcases List.mem_cons.1 hp with rfl | hp
   ·rfl
   ·exact absurd (List.mem_map.2 ⟨p, hp, e.symm⟩) hd.1
  ·rcases List.mem_cons.1 hp with hpe | hp
   ·exact absurd (List.mem_map.2 ⟨o, ho, by rw [e, hpe]⟩) hd.1
   ·exact inj_val hd.2 ho hp e
theorem okW_inj {h : List TxnV} (hw : okW h = true) {o p : OpV} (ho : o ∈ wrs h) (hp : p ∈ wrs h) (e : o.val = p.val) : o = p := by
 unfold okW at hw
 rw [decide_eq_true_eq, wvH_map] at hw
 exact inj_val hw ho hp e
theorem okW_count {h : List TxnV} : okW h = true ↔ ∀ t ∈ h, ∀ o ∈ t.l, o.wr = true → tmH o.val h = 1 := by
 unfold okW tmH
 rw [decide_eq_true_eq]
 constructor
 ·intro hd t ht o ho hw
  rw [List.Nodup.count hd, if_pos]
  rw [wvH_map]
  exact List.mem_map.2 ⟨o, wrs_mem.2 ⟨t, ht, ho, hw⟩, rfl⟩
 ·intro hc
  rw [List.nodup_iff_count]
  intro x
  by_cases hx : x ∈ wvH h
  ·have hx2 := hx
   rw [wvH_map] at hx2
   obtain ⟨o, ho, rfl⟩ := List.mem_map.1 hx2
   obtain ⟨t, ht, ho2, hw⟩ := wrs_mem.1 ho
   exact Nat.le_of_eq (hc t ht o ho2 hw)
  ·rw [List.count_eq_zero_of_not_mem hx]; omega
def Real (h : List TxnV) (F : Int → Option WV) : Prop := ∀ x u, F x = some u → ∃ o ∈ wrs h, o.val = x ∧ o.key = u.key
theorem real_put {h : List TxnV} {F : Int → Option WV} (hF : Real h F) {o : OpV} (ho : o ∈ wrs h) (i : Int) (b : Bool) : Real h (putF F o.val ⟨i, o.key, b⟩) := by
 intro x u hx
 unfold putF at hx
 split at hx
 ·rename_i e
  cases hx
  exact ⟨o, ho, e.symm, rfl⟩
 ·exact hF x u hx
theorem real_add {h : List TxnV} (i : Int) : ∀ (l : List OpV) (F : Int → Option WV), Real h F → (∀ o ∈ l, o.wr = true → o ∈ wrs h) → Real h (addF i F l)
 | [], F, hF, _ => hF
 | a :: l, F, hF, hl => by
  show Real h (addF i (addOne i F a) l)
  refine real_add i l _ ?_ (fun o ho => hl o (List.mem_cons_of_mem _ ho))
  unfold addOne
  split
  ·rename_i hw
   exact real_put hF (hl a List.mem_cons_self hw) i false
  ·exact hF
theorem real_fin {h : List TxnV} (i : Int) : ∀ (l : List OpV) (F : Int → Option WV), Real h F → (∀ o ∈ l, o ∈ wrs h) → Real h (finF i F l)
 | [], F, hF, _ => hF
 | a :: l, F, hF, hl => by
  show Real h (finF i (putF F a.val ⟨i, a.key, true⟩) l)
  exact real_fin i l _ (real_put hF (hl a List.mem_cons_self) i true) (fun o ho => hl o (List.mem_cons_of_mem _ ho))
theorem refWrites_mem {l : List OpV} {o : OpV} (h : o ∈ refWrites l) : o ∈ l ∧ o.wr = true := by
 unfold refWrites at h
 obtain ⟨k, _, hk⟩ := upTo_mem.1 h
 have := lastW_key (l := l) (x := k) hk
 exact ⟨this.2.2, this.2.1⟩
theorem real_wr (h : List TxnV) : ∀ k, k ≤ h.length → Real h (wrTo h k)
 | 0, _ => fun x u hx => by simp [wrTo] at hx
 | k + 1, hk => by
  have hlt : k < h.length := by omega
  rw [wrTo_succ, opsAt_eq hlt]
  have hm : ∀ o ∈ h[k].l, o.wr = true → o ∈ wrs h := fun o ho hw => wrs_mem.2 ⟨_, List.getElem_mem hlt, ho, hw⟩
  exact real_fin _ _ _ (real_add _ _ _ (real_wr h k (by omega)) hm) (fun o ho => hm o (refWrites_mem ho).1 (refWrites_mem ho).2)
theorem dom_add (i : Int) : ∀ (l : List OpV) (F : Int → Option WV) (x : Int), (addF i F l x).isSome = ((F x).isSome || decide (x ∈ wv l))
 | [], F, x => by simp [addF, wv]
 | a :: l, F, x => by
  show (addF i (addOne i F a) l x).isSome = _
  rw [dom_add i l]
  have hc : wv (a :: l) = (if a.wr then [a.val] else []) ++ wv l := by
   unfold wv
   cases hw : a.wr <;> simp [hw]
  rw [hc]
  unfold addOne putF
  cases hw : a.wr
  ·simp
  ·by_cases e : x = a.val <;> simp [e]
theorem dom_fin (i : Int) : ∀ (l : List OpV) (F : Int → Option WV) (x : Int), (finF i F l x).isSome = ((F x).isSome || decide (x ∈ l.map (·.val)))
 | [], F, x => by simp [finF]
 | a :: l, F, x => by
  show (finF i (putF F a.val ⟨i, a.key, true⟩) l x).isSome = _
  rw [dom_fin i l]
  unfold putF
  by_cases e : x = a.val <;> simp [e]
theorem dom_wr (h : List TxnV) : ∀ k, k ≤ h.length → ∀ x, (wrTo h k x).isSome = decide (x ∈ wvH (h.take k))
 | 0, _ => fun x => by simp [wrTo, wvH]
 | k + 1, hk => fun x => by
  have hlt : k < h.length := by omega
  rw [wrTo_succ, opsAt_eq hlt, dom_fin, dom_add, dom_wr h k (by omega), wvH_succ h k hlt]
  have : x ∈ (refWrites h[k].l).map (·.val) → x ∈ wv h[k].l := fun hx => by
   obtain ⟨o, ho, rfl⟩ := List.mem_map.1 hx
   exact wv_mem.2 ⟨o, (refWrites_mem ho).1, (refWrites_mem ho).2, rfl⟩
  rw [Bool.eq_iff_iff]
  simp only [Bool.or_eq_true, decide_eq_true_eq, List.mem_append]
  constructor
  ·rintro ((h1 | h1) | h1)
   ·exact .inl h1
   ·exact .inr h1
   ·exact .inr (this h1)
  ·rintro (h1 | h1)
   ·exact .inl (.inl h1)
   ·exact .inl (.inr h1)
theorem rd_iff {h : List TxnV} (hw : okW h = true) (o : OpV) : rdOk (wrTo h h.length) o = (o.wr || o.val == 0 || !decide (wrI o.key o.val h < 0)) := by
 unfold rdOk
 cases hv : (o.wr || o.val == 0)
 ·rw [Bool.false_or, Bool.false_or]
  have hd := dom_wr h h.length (Nat.le_refl _) o.val
  rw [List.take_length] at hd
  cases hF : wrTo h h.length o.val with
  | none =>
   rw [hF] at hd
   simp only
   symm
   rw [Bool.not_eq_false', decide_eq_true_eq, wrI_nonneg]
   intro t ht p hp
   unfold isWr
   cases hpw : p.wr
   ·rfl
   ·have hne : ¬ p.val = o.val := fun e => by
     have : o.val ∈ wvH h := by rw [wvH_map]; exact List.mem_map.2 ⟨p, wrs_mem.2 ⟨t, ht, hp, hpw⟩, e⟩
     simp [this] at hd
    simp [hne]
  | some u =>
   obtain ⟨p, hp, e1, e2⟩ := real_wr h h.length (Nat.le_refl _) _ _ hF
   simp only
   rw [Bool.eq_iff_iff, beq_iff_eq, Bool.not_eq_true', decide_eq_false_iff_not, wrI_nonneg]
   constructor
   ·intro e hn
    obtain ⟨t, ht, hp2, hpw⟩ := wrs_mem.1 hp
    have := hn t ht p hp2
    unfold isWr at this
    simp [hpw, e1, e2, e] at this
   ·intro hn
    have : ∃ q ∈ wrs h, q.key = o.key ∧ q.val = o.val := Classical.byContradiction fun hno => hn fun t ht q hq => by
     unfold isWr
     cases hqw : q.wr
     ·rfl
     ·cases hqk : q.key == o.key
      ·rfl
      ·cases hqv : q.val == o.val
       ·rfl
       ·exact absurd ⟨q, wrs_mem.2 ⟨t, ht, hq, hqw⟩, by simpa using hqk, by simpa using hqv⟩ hno
    obtain ⟨q, hq, e3, e4⟩ := this
    have := okW_inj hw hp hq (by rw [e1, e4])
    subst this
    rw [← e2, e3]
 ·rfl
def Apart (a t : TxnV) : Prop := a.b ≠ t.b ∧ a.b ≠ t.c ∧ a.c ≠ t.b ∧ a.c ≠ t.c
theorem apartB_iff (a t : TxnV) : apartB a t = true ↔ Apart a t ∧ ¬ (a.s = t.s ∧ t.b < a.c) := by
 unfold apartB Apart
 simp only [Bool.and_eq_true, bne_iff_ne, Bool.not_eq_true', Bool.and_eq_false_iff, beq_eq_false_iff_ne, decide_eq_false_iff_not, Classical.not_and_iff_not_or_not, ne_eq]
theorem stL_mem {h : List TxnV} {x : Int} : x ∈ stL h ↔ ∃ t ∈ h, x = t.b ∨ x = t.c := by unfold stL; simp
theorem st_take {h : List TxnV} {k : Nat} (hd : (stL (h.take k)).Nodup) : ∀ i j, ∀ hj : j < k, ∀ hk : k ≤ h.length, ∀ hi : i < j, Apart (h[i]'(by omega)) (h[j]'(by omega)) := by
 intro i j hj hk hi
 have e : stL (h.take k) = stL (h.take (j + 1)) ++ stL ((h.take k).drop (j + 1)) := by
  unfold stL
  rw [← List.flatMap_append]
  congr 1
  rw [show h.take (j + 1) = (h.take k).take (j + 1) from by rw [List.take_take]; congr 1; omega]
  exact (List.take_append_drop _ _).symm
 rw [e] at hd
 have h1 := (List.nodup_append.1 hd).1
 rw [stL_succ h j (by omega)] at h1
 have h2 := (List.nodup_append.1 h1).2.2
 have mem : h[i]'(by omega) ∈ h.take j := by rw [List.mem_take_iff_getElem]; exact ⟨i, by omega, rfl⟩
 have mb : (h[i]'(by omega)).b ∈ stL (h.take j) := stL_mem.2 ⟨_, mem, .inl rfl⟩
 have mc : (h[i]'(by omega)).c ∈ stL (h.take j) := stL_mem.2 ⟨_, mem, .inr rfl⟩
 exact ⟨h2 _ mb _ (by simp), h2 _ mb _ (by simp), h2 _ mc _ (by simp), h2 _ mc _ (by simp)⟩
theorem st_nodup {h : List TxnV} (hbc : ∀ t ∈ h, t.b < t.c) (ha : ∀ i j, ∀ hj : j < h.length, ∀ hi : i < j, Apart (h[i]'(by omega)) h[j]) : ∀ k, k ≤ h.length → (stL (h.take k)).Nodup
 | 0, _ => by simp [stL]
 | k + 1, hk => by
  have hlt : k < h.length := by omega
  rw [stL_succ h k hlt, List.nodup_append]
  refine ⟨st_nodup hbc ha k (by omega), ?_, ?_⟩
  ·have := hbc _ (List.getElem_mem hlt)
   simp; omega
  ·intro x hx y hy
   obtain ⟨t, ht, hxt⟩ := stL_mem.1 hx
   rw [List.mem_take_iff_getElem] at ht
   obtain ⟨i, hi, rfl⟩ := ht
   have hA := ha i k hlt (by omega)
   unfold Apart at hA
   simp at hy
   rcases hxt with rfl | rfl <;> rcases hy with rfl | rfl
   ·exact hA.1
   ·exact hA.2.1
   ·exact hA.2.2.1
   ·exact hA.2.2.2
end

section
open Go.RowKit
theorem endF_find (h : List TxnV) (s : Int) : ∀ k, k ≤ h.length → match endF (h.take k) s with
  | none => ∀ j, ∀ hj : j < k, ∀ hk : k ≤ h.length, (h[j]'(by omega)).s ≠ s
  | some e => ∃ m, ∃ hm : m < k, ∃ hk : k ≤ h.length, (h[m]'(by omega)).s = s ∧ (h[m]'(by omega)).c = e ∧ ∀ j, ∀ hj : j < k, m < j → (h[j]'(by omega)).s ≠ s
 | 0, _ => by simp [endF]
 | k + 1, hk => by
  have hlt : k < h.length := by omega
  have ih := endF_find h s k (by omega)
  rw [endF_succ h k hlt]
  unfold putF
  by_cases e : s = h[k].s
  ·rw [if_pos e]
   exact ⟨k, by omega, hk, e.symm, rfl, fun j hj hmj => by omega⟩
  ·rw [if_neg e]
   cases hF : endF (h.take k) s with
   | none =>
    rw [hF] at ih
    intro j hj hk2
    rcases Nat.lt_or_eq_of_le (Nat.le_of_lt_succ hj) with h1 | rfl
    ·exact ih j h1 (by omega)
    ·exact fun e2 => e e2.symm
   | some c =>
    rw [hF] at ih
    obtain ⟨m, hm, hk2, h1, h2, h3⟩ := ih
    refine ⟨m, by omega, hk, h1, h2, fun j hj hmj => ?_⟩
    rcases Nat.lt_or_eq_of_le (Nat.le_of_lt_succ hj) with h4 | rfl
    ·exact h3 j h4 hmj
    ·exact fun e2 => e e2.symm
theorem ses_all {h : List TxnV} (hs : sesB h = true) (hbc : ∀ t ∈ h, t.b < t.c) : ∀ j, ∀ hj : j < h.length, ∀ i, ∀ hi : i < j, (h[i]'(by omega)).s = h[j].s → (h[i]'(by omega)).c < h[j].b := by
 intro j
 induction j using Nat.strongRecOn with
 | ind j ih =>
  intro hj i hi e
  have h1 := List.all_eq_true.1 hs j (List.mem_range.2 hj)
  rw [sesOk_at hj] at h1
  have h2 := endF_find h h[j].s j (by omega)
  cases hF : endF (h.take j) h[j].s with
  | none =>
   rw [hF] at h2
   exact absurd e (h2 i hi (by omega))
  | some c =>
   rw [hF] at h1 h2
   obtain ⟨m, hm, hk2, e1, e2, e3⟩ := h2
   simp only [decide_eq_true_eq] at h1
   rcases Nat.lt_trichotomy i m with h4 | rfl | h4
   ·have h5 := ih m hm (by omega) i h4 (by rw [e1]; exact e)
    have h6 := hbc _ (List.getElem_mem (show m < h.length by omega))
    omega
   ·omega
   ·exact absurd e (e3 i hi h4)
theorem ses_mk {h : List TxnV} (ha : ∀ j, ∀ hj : j < h.length, ∀ i, ∀ hi : i < j, (h[i]'(by omega)).s = h[j].s → (h[i]'(by omega)).c < h[j].b) : sesB h = true := by
 refine sesB_all fun j hj => ?_
 rw [sesOk_at hj]
 have h2 := endF_find h h[j].s j (by omega)
 cases hF : endF (h.take j) h[j].s with
 | none => rfl
 | some c =>
  rw [hF] at h2
  obtain ⟨m, hm, hk2, e1, e2, e3⟩ := h2
  simp only [decide_eq_true_eq]
  rw [← e2]; exact ha j hj m hm e1
theorem mayT_bc {t : TxnV} (h : mayT t.s t.b t.c t.l = true) : t.b < t.c := by
 unfold mayT at h
 simp only [Bool.and_eq_true, decide_eq_true_eq] at h
 exact h.1.2.2.2.1
theorem right_ref (h : List TxnV) : rightB h = mayRef h := by
 rw [Bool.eq_iff_iff]
 constructor
 ·intro hr
  unfold rightB at hr
  simp only [Bool.and_eq_true] at hr
  obtain ⟨hp, hv, hst, hse⟩ := hr
  unfold valuesB at hv
  simp only [Bool.and_eq_true] at hv
  obtain ⟨hw, hro⟩ := hv
  have hP : ∀ t ∈ h, mayT t.s t.b t.c t.l = true := List.all_eq_true.1 hp
  have hbc : ∀ t ∈ h, t.b < t.c := fun t ht => mayT_bc (hP t ht)
  refine mayRef_yes fun k hk => ?_
  unfold rowR
  rw [hP _ (List.getElem_mem hk), Bool.true_and, Bool.and_eq_true]
  constructor
  ·rw [List.all_eq_true]
   intro a ha
   rw [List.mem_take_iff_getElem] at ha
   obtain ⟨i, hi, rfl⟩ := ha
   rw [apartB_iff]
   unfold stampsB at hst
   rw [decide_eq_true_eq, ← List.take_length (l := h)] at hst
   refine ⟨st_take hst i k hk (Nat.le_refl _) (by omega), fun hh => ?_⟩
   have := ses_all hse hbc k hk i (by omega) hh.1
   omega
  ·rw [List.all_eq_true]
   intro o ho
   unfold opR
   cases how : o.wr
   ·have h1 := List.all_eq_true.1 (List.all_eq_true.1 hro _ (List.getElem_mem hk)) o ho
    rw [rd_iff hw o, how] at h1
    simpa using h1
   ·simp only [if_true, beq_iff_eq]
    exact okW_count.1 hw _ (List.getElem_mem hk) o ho how
 ·intro hm
  have hrow : ∀ k, ∀ hk : k < h.length, rowR h k h[k] = true := fun k hk => by
   have := List.all_eq_true.1 hm k (List.mem_range.2 hk)
   rwa [List.getElem?_eq_getElem hk] at this
  have hP : ∀ t ∈ h, mayT t.s t.b t.c t.l = true := fun t ht => by
   obtain ⟨k, hk, rfl⟩ := List.getElem_of_mem ht
   have := hrow k hk
   unfold rowR at this
   simp only [Bool.and_eq_true] at this
   exact this.1
  have hbc : ∀ t ∈ h, t.b < t.c := fun t ht => mayT_bc (hP t ht)
  have hA : ∀ i j, ∀ hj : j < h.length, ∀ hi : i < j, Apart (h[i]'(by omega)) h[j] ∧ ¬ ((h[i]'(by omega)).s = h[j].s ∧ h[j].b < (h[i]'(by omega)).c) := fun i j hj hi => by
   have := hrow j hj
   unfold rowR at this
   simp only [Bool.and_eq_true] at this
   exact (apartB_iff _ _).1 (List.all_eq_true.1 this.2.1 _ (by rw [List.mem_take_iff_getElem]; exact ⟨i, by omega, rfl⟩))
  have hO : ∀ t ∈ h, ∀ o ∈ t.l, opR h o = true := fun t ht => by
   obtain ⟨k, hk, rfl⟩ := List.getElem_of_mem ht
   have := hrow k hk
   unfold rowR at this
   simp only [Bool.and_eq_true] at this
   exact List.all_eq_true.1 this.2.2
  have hw : okW h = true := okW_count.2 fun t ht o ho how => by
   have := hO t ht o ho
   unfold opR at this
   rw [how] at this
   simpa using this
  unfold rightB
  simp only [Bool.and_eq_true]
  refine ⟨List.all_eq_true.2 hP, ?_, ?_, ?_⟩
  ·unfold valuesB
   rw [hw, Bool.true_and, List.all_eq_true]
   intro t ht
   unfold rowOk
   rw [List.all_eq_true]
   intro o ho
   rw [rd_iff hw o]
   have := hO t ht o ho
   unfold opR at this
   cases how : o.wr
   ·rw [how] at this
    simpa using this
   ·rfl
  ·unfold stampsB
   rw [decide_eq_true_eq]
   have := st_nodup hbc (fun i j hj hi => (hA i j hj hi).1) h.length (Nat.le_refl _)
   rwa [List.take_length] at this
  ·refine ses_mk fun j hj i hi e => ?_
   obtain ⟨h1, h2⟩ := hA i j hj hi
   have h3 : ¬ h[j].b < (h[i]'(by omega)).c := fun hh => h2 ⟨e, hh⟩
   have h4 := h1.2.2.1
   omega
def checkR (h : List TxnV) : Int := if 64 < h.length ∨ 1024 < opsN h then 3 else if mayRef h then 0 else 2
theorem check_ref (h : List TxnV) : checkI h = checkR h := by unfold checkI checkR; rw [right_ref]
end

section
open Go.RowKit
theorem rcheck_any (va : Value) (h : List TxnV) (w : World) (hT : Txns w va h) (hsh : Short h) :
  Calls Tryz.prog 22 #[va] w fun e w' => e = .returned (.int .i64 (checkR h)) ∧ Below w.heap.size w w' := by
 obtain ⟨ao, cap, rfl, hal⟩ := hT.form
 by_cases hbig : 64 < h.length
 ·have hbig' : (64 : Int) < (h.length : Int) := by omega
  have H : Hid ((3 : Int) = checkR h) := hid (by unfold checkR; rw [if_pos (.inl hbig)])
  go_enter Tryz.func22, Tryz.ntmps22
  go_wp2_with fail
  go_ret
  exact ⟨ret_int H.out, Below.refl _ _⟩
 have hbf : decide ((64 : Int) < (h.length : Int)) = false := by simp; omega
 have hle := opsN_short h hsh
 have CO := hid (count_any _ h w hT (by omega))
 have HT := hid (fun wx (hx : Below w.heap.size w wx) => hT.below hx)
 clear hT hsh
 go_enter Tryz.func22, Tryz.ntmps22
 go_wp2_with fail
 refine (CO.out).mono ?_
 rintro e w1 ⟨rfl, hb1⟩
 clear CO
 by_cases hov : 1024 < opsN h
 ·have hov' : (1024 : Int) < (opsN h : Int) := by omega
  have H : Hid ((3 : Int) = checkR h) := hid (by unfold checkR; rw [if_pos (.inr hov)])
  go_wp2_with fail
  go_ret
  exact ⟨ret_int H.out, hb1⟩
 have hov' : decide ((1024 : Int) < (opsN h : Int)) = false := by simp; omega
 have HCK : Hid (checkR h = if mayRef h then 0 else 2) := hid (by unfold checkR; rw [if_neg (by omega)])
 have CM := hid (rmay_any _ h w1 (HT.out _ hb1) (by omega))
 generalize mayRef h = q at *
 go_wp2_with fail
 refine (CM.out).mono ?_
 rintro e w2 ⟨rfl, hb2⟩
 have hb3 := below_then hb1 hb2
 clear CM
 cases q
 ·have H : Hid ((2 : Int) = checkR h) := hid (by rw [HCK.out]; rfl)
  go_wp2_with fail
  go_ret
  exact ⟨ret_int H.out, hb3⟩
 ·have H : Hid ((0 : Int) = checkR h) := hid (by rw [HCK.out]; rfl)
  go_wp2_with fail
  go_ret
  exact ⟨ret_int H.out, hb3⟩
end

section
open Go.RowKit
instance : DecidableEq OpV := fun a b => by
 obtain ⟨a1, a2, a3⟩ := a
 obtain ⟨b1, b2, b3⟩ := b
 exact if h : a1 = b1 ∧ a2 = b2 ∧ a3 = b3 then .isTrue (by obtain ⟨rfl, rfl, rfl⟩ := h; rfl) else .isFalse (fun e => by cases e; exact h ⟨rfl, rfl, rfl⟩)
end

section
open Go.RowKit
theorem rdTo_none {l : List OpV} {k j : Nat} (h : lastO (l.take j) k = none) : rdTo l k j = none := by
 have := firstO_none (l := l.take j) (x := (k : Int))
 rw [h] at this
 unfold rdTo rdK
 rw [show firstO (l.take j) k = none from by simpa using this]; rfl
theorem rdTo_all (l : List OpV) (k : Nat) : rdTo l k l.length = rdK l k := by unfold rdTo; rw [List.take_length]
theorem Own.lit0 (w : World) : Own (w.alloc (.cells #[] 26)) w.heap.size (.slice (some ⟨w.heap.size, 0, none⟩) 0 0) [] := World.ownsRow_lit (base := w.heap.size) (size := 3) w #[] 0 (Nat.le_refl _) (by decide) rfl
theorem rreads_any (va : Value) (l : List OpV) (w : World) (ha : Ops w va l) :
  Calls Tryz.prog 64 #[va] w fun e w' => ∃ v, e = .returned v ∧ Own w' w.heap.size v (refReads l) ∧ Below w.heap.size w w' := by
 obtain ⟨i0, hi, hz0, hz1, hz2⟩ := info_parts infoOp
 obtain ⟨ao, cap, rfl, hal⟩ := ha.form
 have hb0 := (Below.refl w.heap.size w).alloc (Nat.le_refl _) (.cells #[] 26)
 have hO0 := Own.lit0 w
 go_enter Tryz.func64, Tryz.ntmps64
 go_wp2_with fail
 go_loopw [3, 4] (fun v i wr => ∃ k : Nat, k ≤ 64 ∧ i = .int .i64 k ∧ Own wr w.heap.size v (upTo (rdK l) k) ∧ Below w.heap.size w wr) (fun _ i _ => 64 - (intOf i).toNat)
 case atStart => exact ⟨0, by omega, rfl, hO0, hb0⟩
 case round =>
  obtain ⟨k, hk, rfl, hO, hb⟩ := hrel
  clear hb0 hO0
  by_cases hlt : k < 64
  ·have hki : (k : Int) < 64 := by omega
   have hlenk := upTo_len (rdK l) k
   go_wp2_with fail
   go_loopw [3, 5] (fun v i wx => ∃ j : Nat, j ≤ l.length ∧ i = .int .i64 j ∧ Own wx w.heap.size v (upTo (rdK l) k ++ (rdTo l k j).toList) ∧ Below w.heap.size w wx) (fun _ i _ => l.length - (intOf i).toNat)
   case atStart => exact ⟨0, by omega, rfl, by simpa [rdTo, rdK, firstO] using hO, hb⟩
   case round =>
    obtain ⟨j, hj, rfl, hO2, hb2⟩ := hrel
    have hszx := hb2.size
    clear hO hb
    by_cases hltj : j < l.length
    ·have hkj : (j : Int) < (l.length : Int) := by omega
     have CB := hid (before_any _ l j (k : Int) wr (ha.below hb2) hj)
     have HS := hid (rdTo_succ (k := k) hltj)
     have HN := hid (fun h => rdTo_none (l := l) (k := k) (j := j) h)
     have HAT := hid (fun (wy : World) (hby : Below w.heap.size w wy) => (ha.below hby).at hltj)
     generalize l[j] = x at *
     obtain ⟨xw, xk, xv⟩ := x
     generalize lastO (l.take j) (k : Int) = q at *
     go_wp2_with fail
     refine (CB.out).mono ?_
     rintro e w1 ⟨rfl, hb3⟩
     have hb4 := below_then hb2 hb3
     have hO3 := hO2.below hb3
     clear CB hO2 hb3 hb2
     have hq : Hid (q = none ↔ q.isSome = false) := hid (by cases q <;> simp)
     generalize q.isSome = qb at *
     simp only [eO]
     generalize q.getD opZ = z at *
     obtain ⟨zw, zk, zv⟩ := z
     simp only [OpV.v]
     have hb5 := hb4.alloc hb4.size (.cells #[.bool zw, .int .i64 zk, .int .i64 zv] 26)
     have hO4 : Own _ _ _ _ := World.ownsRow.alloc hO3 (.cells #[.bool zw, .int .i64 zk, .int .i64 zv] 26)
     obtain ⟨_, _, hao, c0, c1, c2⟩ := HAT.out _ hb5
     cases hao
     try simp only at c0 c1 c2
     have hsz1 := hb4.size
     clear hb4 hO3
     by_cases d1 : xk = k
     ·cases xw
      ·cases qb
       ·have hqn := hid (hq.out.2 rfl)
        have HS2 : Hid (rdTo l k (j + 1) = some ⟨false, xk, xv⟩) := hid (by rw [HS.out, if_pos ⟨d1, rfl, hqn.out⟩])
        have HNN := hid (HN.out hqn.out)
        subst d1
        have hlit := opLit (w1.alloc (.cells #[.bool zw, .int .i64 zk, .int .i64 zv] 26)) 0 ⟨false, (k : Int), xv⟩ (Nat.zero_le _)
        rw [show (w1.alloc (.cells #[.bool zw, .int .i64 zk, .int .i64 zv] 26)).heap.size = w1.heap.size + 1 from by simp] at hlit
        rw [HNN.out] at hO4
        simp only [Option.toList_none, List.append_nil] at hO4
        clear HS HN HNN hq hqn HAT
        go_wp2_with (first | (at_builtin; refine wpList_append_row rfl _ _ 28 rfl w.heap.size 26 i0 (.agg #[.bool false, .int .i64 0, .int .i64 0]) 3 24 Tryz.underlying28 hi hz0 hz1 hz2 rfl (by decide) _ _ _ rfl (World.ownsRow.alloc hO4 _) _ 1 _ rfl (Row.of_owns hlit) ?d1 ?d2 ?d3 ?d4 ?_) | go_in)
        case d1 => exact opV_one _
        case d2 => unfold maxLen; omega
        case d3 => omega
        case d4 => first | omega | (simp; omega)
        intro v6 w6 hown6 hg6
        clear hlit
        have hO5 : Own _ _ _ (upTo (rdK l) k ++ [⟨false, (k : Int), xv⟩]) := ⟨by rw [opV_len], by rw [opV_app]; simpa using hown6.2⟩
        have hb6 := below_own (hb5.alloc hb5.size (.cells #[.bool false, .int .i64 k, .int .i64 xv] 26)) (World.ownsRow.alloc hO4 (.cells #[.bool false, .int .i64 k, .int .i64 xv] 26)) (Nat.le_refl _) hg6
        clear hown6 hg6 hb5 hO4
        go_wp2_with fail
        go_roundw
        case rel => exact ⟨j + 1, by omega, by go_num, by rw [HS2.out]; exact hO5, hb6⟩
        case measure => simp [intOf]; omega
       ·have HS2 : Hid (rdTo l k (j + 1) = rdTo l k j) := hid (by rw [HS.out, if_neg (fun h => by have := hq.out.1 h.2.2; cases this)])
        subst d1
        clear HS HN hq HAT
        go_wp2_with fail
        go_roundw
        case rel => exact ⟨j + 1, by omega, by go_num, by rw [HS2.out]; exact hO4, hb5⟩
        case measure => simp [intOf]; omega
      ·have HS2 : Hid (rdTo l k (j + 1) = rdTo l k j) := hid (by rw [HS.out, if_neg (fun h => by have := h.2.1; cases this)])
       subst d1
       clear HS HN hq HAT
       go_wp2_with fail
       go_roundw
       case rel => exact ⟨j + 1, by omega, by go_num, by rw [HS2.out]; exact hO4, hb5⟩
       case measure => simp [intOf]; omega
     ·have HS2 : Hid (rdTo l k (j + 1) = rdTo l k j) := hid (by rw [HS.out, if_neg (fun h => d1 h.1)])
      have d1' : (xk == (k : Int)) = false := by simpa using d1
      clear HS HN hq HAT d1
      go_wp2_with fail
      go_roundw
      case rel => exact ⟨j + 1, by omega, by go_num, by rw [HS2.out]; exact hO4, hb5⟩
      case measure => simp [intOf]; omega
    ·have hj2 : j = l.length := by omega
     subst hj2
     have HU := hid (upTo_succ (rdK l) k)
     rw [rdTo_all] at hO2
     rw [← HU.out] at hO2
     go_wp2_with fail
     go_roundw
     case rel => exact ⟨k + 1, by omega, by go_num, hO2, hb2⟩
     case measure => simp [intOf]; omega
  ·have hk2 : k = 64 := by omega
   subst hk2
   go_wp2_with fail
   go_ret
   exact ⟨_, rfl, hO, hb⟩
end

section
open Go.RowKit
def LastAt (l : List OpV) (k j : Nat) (i : Int) : Prop := (i = -1 ∧ lastW (l.take j) k = none) ∨ ∃ p : Nat, ∃ h : p < l.length, i = p ∧ lastW (l.take j) k = some l[p]
theorem LastAt.yes {l : List OpV} {k j : Nat} (h : j < l.length) (h1 : l[j].key = k) (h2 : l[j].wr = true) : LastAt l k (j + 1) j :=
 .inr ⟨j, h, rfl, by rw [take_snoc l j h, lastW_snoc, if_pos h2, h1, putF_same]⟩
theorem LastAt.no {l : List OpV} {k j : Nat} {i : Int} (hL : LastAt l k j i) (h : j < l.length) (h1 : ¬ (l[j].key = k ∧ l[j].wr = true)) : LastAt l k (j + 1) i := by
 have e : lastW (l.take (j + 1)) k = lastW (l.take j) k := by
  rw [take_snoc l j h, lastW_snoc]
  cases hw : l[j].wr
  ·rfl
  ·simp only [if_true]; rw [putF_other]; exact fun e => h1 ⟨e.symm, hw⟩
 unfold LastAt at *
 rw [e]; exact hL
theorem rwrites_any (va : Value) (l : List OpV) (w : World) (ha : Ops w va l) :
  Calls Tryz.prog 142 #[va] w fun e w' => ∃ v, e = .returned v ∧ Own w' w.heap.size v (refWrites l) ∧ Below w.heap.size w w' := by
 obtain ⟨i0, hi, hz0, hz1, hz2⟩ := info_parts infoOp
 obtain ⟨ao, cap, rfl, hal⟩ := ha.form
 have hb0 := (Below.refl w.heap.size w).alloc (Nat.le_refl _) (.cells #[] 26)
 have hO0 := Own.lit0 w
 go_enter Tryz.func142, Tryz.ntmps142
 go_wp2_with fail
 go_loopw [3, 4] (fun v i wr => ∃ k : Nat, k ≤ 64 ∧ i = .int .i64 k ∧ Own wr w.heap.size v (upTo (wrK l) k) ∧ Below w.heap.size w wr) (fun _ i _ => 64 - (intOf i).toNat)
 case atStart => exact ⟨0, by omega, rfl, hO0, hb0⟩
 case round =>
  obtain ⟨k, hk, rfl, hO, hb⟩ := hrel
  clear hb0 hO0
  have hszr := hb.size
  by_cases hlt : k < 64
  ·have hki : (k : Int) < 64 := by omega
   have hlenk := upTo_len (wrK l) k
   go_wp2_with fail
   go_loopw [5, 6] (fun v i wx => ∃ (j : Nat) (p : Int), j ≤ l.length ∧ i = .int .i64 j ∧ v = .int .i64 p ∧ LastAt l k j p ∧ wr = wx) (fun _ i _ => l.length - (intOf i).toNat)
   case atStart => exact ⟨0, -1, by omega, rfl, rfl, .inl ⟨rfl, rfl⟩, rfl⟩
   case round =>
    obtain ⟨j, p, hj, rfl, rfl, hL, rfl⟩ := hrel
    by_cases hltj : j < l.length
    ·have hkj : (j : Int) < (l.length : Int) := by omega
     obtain ⟨g, o, hao, c0, c1, c2⟩ := (ha.below hb).at hltj
     cases hao
     have HY := hid (fun h1 h2 => LastAt.yes (k := k) hltj h1 h2)
     have HN := hid (fun h => hL.no hltj h)
     generalize l[j] = x at *
     obtain ⟨xw, xk, xv⟩ := x
     try simp only at c0 c1 c2
     clear hL
     by_cases d1 : xk = k
     ·cases xw
      ·have H := hid (HN.out (fun h => by cases h.2))
       subst d1
       clear HY HN
       go_wp2_with fail
       go_roundw
       case rel => exact ⟨j + 1, p, by omega, by go_num, rfl, H.out, by first | rfl | trivial⟩
       case measure => simp [intOf]; omega
      ·have H := hid (HY.out d1 rfl)
       subst d1
       clear HY HN
       go_wp2_with fail
       go_roundw
       case rel => exact ⟨j + 1, j, by omega, by go_num, rfl, H.out, by first | rfl | trivial⟩
       case measure => simp [intOf]; omega
     ·have H := hid (HN.out (fun h => d1 h.1))
      have d1' : (xk == (k : Int)) = false := by simpa using d1
      clear HY HN d1
      go_wp2_with fail
      go_roundw
      case rel => exact ⟨j + 1, p, by omega, by go_num, rfl, H.out, by first | rfl | trivial⟩
      case measure => simp [intOf]; omega
    ·have hj2 : j = l.length := by omega
     subst hj2
     have HU := hid (upTo_succ (wrK l) k)
     rcases hL with ⟨rfl, hN⟩ | ⟨q, hq, rfl, hS⟩
     ·rw [List.take_length] at hN
      have H : Hid (upTo (wrK l) (k + 1) = upTo (wrK l) k) := hid (by rw [HU.out, show wrK l k = none from hN]; simp)
      clear HU hN
      go_wp2_with fail
      go_roundw
      case rel => exact ⟨k + 1, by omega, by go_num, by rw [H.out]; exact hO, hb⟩
      case measure => simp [intOf]; omega
     ·rw [List.take_length] at hS
      have H : Hid (upTo (wrK l) (k + 1) = upTo (wrK l) k ++ [l[q]]) := hid (by rw [HU.out, show wrK l k = some l[q] from hS]; simp)
      have hqi : (q : Int) < (l.length : Int) := by omega
      obtain ⟨g, o, hao, c0, c1, c2⟩ := (ha.below hb).at hq
      cases hao
      clear HU hS
      generalize l[q] = x at *
      obtain ⟨xw, xk, xv⟩ := x
      try simp only at c0 c1 c2
      have hlit := opLit wr 0 ⟨xw, xk, xv⟩ (Nat.zero_le _)
      go_wp2_with (first | (at_builtin; refine wpList_append_row rfl _ _ 28 rfl w.heap.size 26 i0 (.agg #[.bool false, .int .i64 0, .int .i64 0]) 3 24 Tryz.underlying28 hi hz0 hz1 hz2 rfl (by decide) _ _ _ rfl (World.ownsRow.alloc hO _) _ 1 _ rfl (Row.of_owns hlit) ?d1 ?d2 ?d3 ?d4 ?_) | go_in)
      case d1 => exact opV_one _
      case d2 => unfold maxLen; omega
      case d3 => omega
      case d4 => first | omega | (simp; omega)
      intro v6 w6 hown6 hg6
      clear hlit
      have hO5 : Own _ _ _ (upTo (wrK l) k ++ [⟨xw, xk, xv⟩]) := ⟨by rw [opV_len], by rw [opV_app]; simpa using hown6.2⟩
      have hb6 := below_own (hb.alloc hb.size (.cells #[.bool xw, .int .i64 xk, .int .i64 xv] 26)) (World.ownsRow.alloc hO (.cells #[.bool xw, .int .i64 xk, .int .i64 xv] 26)) (Nat.le_refl _) hg6
      clear hown6 hg6 hb hO
      go_wp2_with fail
      go_roundw
      case rel => exact ⟨k + 1, by omega, by go_num, by rw [H.out]; exact hO5, hb6⟩
      case measure => simp [intOf]; omega
  ·have hk2 : k = 64 := by omega
   subst hk2
   go_wp2_with fail
   go_ret
   exact ⟨_, rfl, hO, hb⟩
end

section
open Go.RowKit
def vOf (l : List OpV) (k : Int) : Int := (((refWrites l).find? fun o => o.key == k).map (·.val)).getD 0
theorem find_no {R : List OpV} {k : Int} {j : Nat} (hn : ∀ o ∈ R.take j, o.key ≠ k) (hj : j < R.length) (hk : R[j].key = k) : R.find? (fun o => o.key == k) = some R[j] := by
 rw [show R.find? (fun o => o.key == k) = (R.take j ++ R.drop j).find? (fun o => o.key == k) from by rw [List.take_append_drop], List.find?_append]
 have h2 : (R.take j).find? (fun o => o.key == k) = none := List.find?_eq_none.2 (fun o ho => by simpa using hn o ho)
 rw [h2, Option.none_or, List.drop_eq_getElem_cons hj, List.find?_cons_of_pos (by simpa using hk)]
theorem rvalue_any (va : Value) (l : List OpV) (k : Int) (w : World) (ha : Ops w va l) :
  Calls Tryz.prog 106 #[va, .int .i64 k] w fun e w' => e = .returned (.int .i64 (vOf l k)) ∧ Below w.heap.size w w' := by
 go_enter Tryz.func106, Tryz.ntmps106
 go_wp2_with fail
 refine (rwrites_any va l w ha).mono ?_
 rintro e w1 ⟨v, rfl, hO, hb⟩
 have hO := hO.base (base' := 0) (Nat.zero_le _)
 have HV : Hid (∀ n, (∃ (j : Nat) (hj : j < (refWrites l).length), (∀ o ∈ (refWrites l).take j, o.key ≠ k) ∧ (refWrites l)[j].key = k ∧ n = (refWrites l)[j].val) → n = vOf l k) := hid (fun n ⟨j, hj, hn, hk, hv⟩ => by
  unfold vOf; rw [find_no hn hj hk, hv]; rfl)
 have HN : Hid ((∀ o ∈ refWrites l, o.key ≠ k) → (0 : Int) = vOf l k) := hid (fun hn => by
  unfold vOf; rw [List.find?_eq_none.2 (fun o ho => by simpa using hn o ho)]; rfl)
 generalize refWrites l = R at *
 obtain ⟨ao, cap, rfl, hl⟩ := hO.ops.form
 have HO := hid hO.ops
 clear hO ha
 go_wp2_with fail
 go_loopw [6] (fun i wr => ∃ j : Nat, j ≤ R.length ∧ i = .int .i64 j ∧ (∀ o ∈ R.take j, o.key ≠ k) ∧ w1 = wr) (fun i _ => R.length - (intOf i).toNat)
 case atStart => exact ⟨0, by omega, rfl, by simp, rfl⟩
 case round =>
  obtain ⟨j, hj, rfl, hnk, rfl⟩ := hrel
  have HNK := hid hnk
  clear hnk
  by_cases hlt : j < R.length
  ·have hki : (j : Int) < (R.length : Int) := by omega
   obtain ⟨g, o, hao, c0, c1, c2⟩ := HO.out.at hlt
   cases hao
   have HTS := hid (List.take_succ_eq_append_getElem hlt)
   have HY : Hid (R[j].key = k → R[j].val = vOf l k) := hid (fun hk => HV.out _ ⟨j, hlt, HNK.out, hk, rfl⟩)
   generalize R[j] = x at *
   obtain ⟨xw, xk, xv⟩ := x
   simp only at c0 c1 c2 HY
   by_cases d : xk = k
   ·have H := hid (HY.out d)
    subst d
    clear HY HV HN
    go_wp2_with fail
    go_ret
    exact ⟨ret_int H.out, hb⟩
   ·have d' : (xk == k) = false := by simpa using d
    have HD := hid d
    clear HY d
    go_wp2_with fail
    go_roundw
    case rel => exact ⟨j + 1, by omega, by go_num, by rw [HTS.out]; intro o ho; rcases List.mem_append.1 ho with h1 | h1; exact HNK.out o h1; simp at h1; subst h1; exact HD.out, by first | rfl | trivial⟩
    case measure => simp [intOf]; omega
  ·have hjl : j = R.length := by omega
   subst hjl
   have H : Hid ((0 : Int) = vOf l k) := hid (HN.out (by have := HNK.out; rw [List.take_length] at this; exact this))
   clear HV HN
   go_wp2_with fail
   go_ret
   exact ⟨ret_int H.out, hb⟩
theorem rlast_any (s b c : Int) (v : Value) (l : List OpV) (k x : Int) (w : World) (ha : Ops w v l) :
  Calls Tryz.prog 66 #[.agg #[.int .i64 s, .int .i64 b, .int .i64 c, v], .int .i64 k, .int .i64 x] w fun e w' => e = .returned (.bool (vOf l k == x)) ∧ Below w.heap.size w w' := by
 obtain ⟨ao, cap, rfl, hl⟩ := ha.form
 have hb1 := box_below w (.cells #[.int .i64 s, .int .i64 b, .int .i64 c, .slice ao l.length cap] 30)
 have ha1 := ha.below hb1
 have CV := hid (rvalue_any _ l k _ ha1)
 clear ha ha1
 generalize vOf l k = n at *
 go_enter Tryz.func66, Tryz.ntmps66
 go_wp2_with fail
 refine (CV.out).mono ?_
 rintro e w2 ⟨rfl, hb2⟩
 have hb2 := below_then hb1 hb2
 go_wp2_with fail
 go_ret
 exact ⟨rfl, hb2⟩
theorem wv_cons (a : OpV) (l : List OpV) : wv (a :: l) = (if a.wr then [a.val] else []) ++ wv l := by
 unfold wv; cases h : a.wr <;> simp [h]
theorem addF_cons (i : Int) (F : Int → Option WV) (a : OpV) (l : List OpV) : addF i F (a :: l) = addF i (addOne i F a) l := rfl
theorem finF_cons (i : Int) (F : Int → Option WV) (a : OpV) (l : List OpV) : finF i F (a :: l) = finF i (putF F a.val ⟨i, a.key, true⟩) l := rfl
theorem addF_out (i : Int) {x : Int} : ∀ (l : List OpV) (F : Int → Option WV), ¬ x ∈ wv l → addF i F l x = F x
 | [], _, _ => rfl
 | a :: l, F, h => by
  rw [wv_cons] at h
  rw [addF_cons, addF_out i l _ (fun hh => h (List.mem_append_right _ hh))]
  unfold addOne
  cases hw : a.wr
  ·rfl
  ·simp only [if_true]
   exact putF_other _ _ (fun e => h (by rw [hw, e]; simp))
theorem addF_in (i : Int) {o : OpV} (ho : o.wr = true) : ∀ (l : List OpV) (F : Int → Option WV), (wv l).Nodup → o ∈ l → addF i F l o.val = some ⟨i, o.key, false⟩
 | a :: l, F, hn, hin => by
  rw [wv_cons] at hn
  rw [addF_cons]
  rcases List.mem_cons.1 hin with rfl | h
  ·rw [ho] at hn
   simp only [if_true, List.singleton_append, List.nodup_cons] at hn
   rw [addF_out i l _ hn.1]
   unfold addOne
   rw [ho]
   simp only [if_true]
   exact putF_same _ _ _
  ·exact addF_in i ho l _ (List.nodup_append.1 hn).2.1 h
theorem finF_out (i : Int) {x : Int} : ∀ (R : List OpV) (F : Int → Option WV), (∀ o ∈ R, o.val ≠ x) → finF i F R x = F x
 | [], _, _ => rfl
 | a :: R, F, h => by
  rw [finF_cons, finF_out i R _ (fun o ho => h o (List.mem_cons_of_mem _ ho))]
  exact putF_other _ _ (fun e => h a List.mem_cons_self e.symm)
theorem finF_in (i : Int) {x k : Int} : ∀ (R : List OpV) (F : Int → Option WV), (∀ o ∈ R, o.val = x → o.key = k) → (∃ o ∈ R, o.val = x) → finF i F R x = some ⟨i, k, true⟩
 | a :: R, F, h, hex => by
  rw [finF_cons]
  by_cases hr : ∃ o ∈ R, o.val = x
  ·exact finF_in i R _ (fun o ho => h o (List.mem_cons_of_mem _ ho)) hr
  ·have hn : ∀ o ∈ R, o.val ≠ x := fun o ho e => hr ⟨o, ho, e⟩
   obtain ⟨o, ho, e⟩ := hex
   rcases List.mem_cons.1 ho with rfl | h1
   ·rw [finF_out i R _ hn, e, putF_same, h _ List.mem_cons_self e]
   ·exact (hn o h1 e).elim
theorem wv_inj {l : List OpV} (hn : (wv l).Nodup) {o p : OpV} (ho : o ∈ l) (hp : p ∈ l) (wo : o.wr = true) (wp : p.wr = true) (e : o.val = p.val) : o.key = p.key := by
 have h1 := addF_in 0 wo l (fun _ => none) hn ho
 have h2 := addF_in 0 wp l (fun _ => none) hn hp
 rw [e, h2] at h1
 have := Option.some.inj h1
 exact (congrArg WV.key this).symm
theorem lastW_some (l : List OpV) {o : OpV} (wo : o.wr = true) : ∀ k, k ≤ l.length → o ∈ l.take k → (lastW (l.take k) o.key).isSome = true
 | 0, _, h => by simp at h
 | k + 1, hk, h => by
  have hlt : k < l.length := by omega
  rw [take_snoc l k hlt] at h ⊢
  rw [lastW_snoc]
  cases hw : l[k].wr with
  | false =>
   simp only [Bool.false_eq_true, if_false]
   rcases List.mem_append.1 h with h1 | h1
   ·exact lastW_some l wo k (by omega) h1
   ·simp at h1; rw [h1, hw] at wo; cases wo
  | true =>
   simp only [if_true]
   by_cases e : o.key = l[k].key
   ·rw [e, putF_same]; rfl
   ·rw [putF_other _ _ e]
    rcases List.mem_append.1 h with h1 | h1
    ·exact lastW_some l wo k (by omega) h1
    ·simp at h1; rw [h1] at e; exact (e rfl).elim
theorem turn_at (i : Int) (F : Int → Option WV) {l : List OpV} (hk : keysIn l) (hn : (wv l).Nodup) {o : OpV} (ho : o ∈ l) (wo : o.wr = true) :
  finF i (addF i F l) (refWrites l) o.val = some ⟨i, o.key, vOf l o.key == o.val⟩ := by
 have hR := refWrites_rise hk
 have hmem : ∀ p ∈ refWrites l, p ∈ l ∧ p.wr = true := fun p hp => refWrites_mem hp
 have huq : ∀ p ∈ refWrites l, ∀ q ∈ refWrites l, p.key = q.key → p = q := fun p hp q hq e => by
  have h1 := ((hR.2 p).1 hp).1
  have h2 := ((hR.2 q).1 hq).1
  rw [e, h2] at h1
  exact (Option.some.inj h1).symm
 have hex : ∃ p ∈ refWrites l, p.key = o.key := by
  have h1 := lastW_some l wo l.length (Nat.le_refl _) (by rw [List.take_length]; exact ho)
  rw [List.take_length] at h1
  obtain ⟨p, hp⟩ := Option.isSome_iff_exists.1 h1
  have h2 := lastW_key hp
  exact ⟨p, (hR.2 p).2 ⟨by rw [h2.1]; exact hp, h2.2.1⟩, h2.1⟩
 obtain ⟨p, hp, hpk⟩ := hex
 have hv : vOf l o.key = p.val := by
  unfold vOf
  cases hf : (refWrites l).find? (fun q => q.key == o.key) with
  | none => have := List.find?_eq_none.1 hf p hp; simp [hpk] at this
  | some q =>
   have h1 := List.find?_some hf
   have h2 := List.mem_of_find?_eq_some hf
   have : q = p := huq q h2 p hp (by simpa [hpk] using h1)
   rw [this]; rfl
 by_cases he : p.val = o.val
 ·rw [finF_in (k := o.key) i _ _ (fun q hq e => wv_inj hn (hmem q hq).1 ho (hmem q hq).2 wo e) ⟨p, hp, he⟩, hv, he]
  simp
 ·rw [finF_out i _ _ (fun q hq e => he ?_), addF_in i wo l F hn ho, hv]
  ·simp [he]
  ·have := wv_inj hn (hmem q hq).1 ho (hmem q hq).2 wo e
   rw [← huq q hq p hp (by rw [this, hpk])]; exact e
theorem wrTo_at {h : List TxnV} (hk : ∀ t ∈ h, keysIn t.l) : ∀ n, n ≤ h.length → (wvH (h.take n)).Nodup → ∀ i, ∀ hi : i < h.length, i < n → ∀ o ∈ h[i].l, o.wr = true → wrTo h n o.val = some ⟨i, o.key, vOf h[i].l o.key == o.val⟩
 | 0, _, _, i, _, hin, _, _, _ => by omega
 | n + 1, hn, hd, i, hi, hin, o, ho, wo => by
  have hlt : n < h.length := by omega
  rw [wvH_succ h n hlt] at hd
  have hd3 := List.nodup_append.1 hd
  rw [wrTo_succ, opsAt_eq hlt]
  by_cases e : i = n
  ·subst e
   exact turn_at _ _ (hk _ (List.getElem_mem _)) hd3.2.1 ho wo
  ·have hin2 : o.val ∈ wvH (h.take n) := by
    unfold wvH
    rw [List.mem_flatMap]
    refine ⟨h[i], ?_, wv_mem.2 ⟨o, ho, wo, rfl⟩⟩
    rw [List.mem_take_iff_getElem]
    exact ⟨i, by omega, rfl⟩
   have hout : ¬ o.val ∈ wv h[n].l := fun hh => hd3.2.2 _ hin2 _ hh rfl
   have hR := refWrites_rise (hk _ (List.getElem_mem hlt))
   rw [finF_out _ _ _ (fun q hq e2 => hout (by rw [← e2]; exact wv_mem.2 ⟨q, (refWrites_mem hq).1, (refWrites_mem hq).2, rfl⟩)), addF_out _ _ _ hout]
   exact wrTo_at hk n (by omega) hd3.1 i hi (by omega) o ho wo
end

section
open Go.RowKit
def fromR (h : List TxnV) (o : OpV) : Int := if o.val = 0 then -1 else wrI o.key o.val h
def rdR (h : List TxnV) (i : Int) (l : List OpV) : List (Int × Int) := (l.filter fun o => fromR h o != i).map fun o => (o.key, fromR h o)
theorem rdR_snoc (h : List TxnV) (i : Int) (l : List OpV) (k : Nat) (hk : k < l.length) : rdR h i (l.take (k + 1)) = rdR h i (l.take k) ++ (if fromR h l[k] = i then [] else [(l[k].key, fromR h l[k])]) := by
 unfold rdR
 rw [List.take_succ_eq_append_getElem hk, List.filter_append, List.map_append]
 by_cases e : fromR h l[k] = i <;> simp [e]
theorem rdR_len (h : List TxnV) (i : Int) (l : List OpV) : (rdR h i l).length ≤ l.length := by
 unfold rdR; rw [List.length_map]; exact List.length_filter_le _ _
theorem refReads_len (l : List OpV) : (refReads l).length ≤ 64 := upTo_len (rdK l) 64
theorem infoRR : (Tryz.prog.info? 244).map (fun i => (i.zero, i.size, i.bytes)) = some (some (.agg #[.int .i64 0, .int .i64 0]), 2, 16) := by kernel_rfl
theorem rreads8_any (va : Value) (h : List TxnV) (i : Nat) (hi : i < h.length) (w : World) (hT : Txns w va h) :
  Calls Tryz.prog 180 #[va, .int .i64 i] w fun e w' => ∃ v, e = .returned v ∧ w'.ownsRow w.heap.size 244 2 v (rdR h i (refReads h[i].l)).length (frV (rdR h i (refReads h[i].l))) ∧ Below w.heap.size w w' := by
 obtain ⟨i0, hi0, hz0, hz1, hz2⟩ := info_parts infoRR
 obtain ⟨ao, cap, rfl, hal⟩ := hT.form
 have hb0 := box_below w (.cells #[] 244)
 have hO0 : World.ownsRow (w.alloc (.cells #[] 244)) w.heap.size 244 2 (.slice (some ⟨w.heap.size, 0, none⟩) 0 0) 0 [] := World.ownsRow_lit (base := w.heap.size) (size := 2) w #[] 0 (Nat.le_refl _) (by decide) rfl
 obtain ⟨g, o, hao, c0, c1, c2, c3⟩ := (hT.below hb0).at hi
 cases hao
 have hii : (i : Int) < (h.length : Int) := by omega
 have CR := hid (rreads_any h[i].v h[i].l _ ((hT.below hb0).ops hi))
 have HT := hid (fun wx (hx : Below w.heap.size w wx) => hT.below hx)
 have HL := hid (refReads_len h[i].l)
 clear hT c0 c1 c2
 generalize h[i].v = vi at *
 generalize refReads h[i].l = L at *
 go_enter Tryz.func180, Tryz.ntmps180
 go_wp2_with fail
 refine (CR.out).mono ?_
 rintro e w1 ⟨v1, rfl, hO1, hb1⟩
 have hb2 := below_then hb0 hb1
 have hO2 := owns_below hO0 hb1
 have hL := hO1.ops
 obtain ⟨a1, cap1, rfl, _⟩ := hL.form
 have hL1 : Own w1 w.heap.size _ L := own_base' hO1 (by simp)
 clear CR hO0 hO1 hb0 hb1 c3
 go_wp2_with fail
 go_loopw [5, 7] (fun v j wr => ∃ k : Nat, k ≤ L.length ∧ j = .int .i64 k ∧ wr.ownsRow w.heap.size 244 2 v (rdR h i (L.take k)).length (frV (rdR h i (L.take k))) ∧ Below w.heap.size w wr ∧ Own wr w.heap.size (.slice a1 L.length cap1) L)
  (fun _ j _ => L.length - (intOf j).toNat)
 case atStart => exact ⟨0, by omega, rfl, hO2, hb2, hL1⟩
 case round =>
  obtain ⟨k, hk, rfl, hown, hb, hLo⟩ := hrel
  by_cases hlt : k < L.length
  ·have hki : (k : Int) < (L.length : Int) := by omega
   obtain ⟨g1, o1, hao, d0, d1, d2⟩ := hLo.ops.at hlt
   cases hao
   have HS := hid (rdR_snoc h i L k hlt)
   have hkl : (rdR h i (L.take k)).length ≤ 64 := Nat.le_trans (rdR_len _ _ _) (by rw [List.length_take]; have := HL.out; omega)
   have HF := hid (show fromR h L[k] = if L[k].val = 0 then -1 else wrI L[k].key L[k].val h from rfl)
   generalize fromR h L[k] = f at *
   generalize hkey : L[k].key = y at *
   generalize L[k].val = z at *
   have hsz := hb.size
   by_cases hz : z = 0
   ·have hf := HF.out
    rw [if_pos hz] at hf
    subst hz
    subst hf
    clear HF
    by_cases hfi : (-1) = (i : Int)
    ·omega
    ·rw [if_neg hfi] at HS
     go_wp2_with (first | (at_builtin; refine wpList_append_own _ rfl _ _ 241 rfl w.heap.size 244 i0 (.agg #[.int .i64 0, .int .i64 0]) 2 16 Tryz.underlying241 hi0 hz0 hz1 hz2 rfl (by decide) _ _ _ rfl (World.ownsRow.alloc hown _) ⟨_, 0, none⟩ 1 1 [.int .i64 y, .int .i64 (-1)] rfl rfl ?c1 ?c2 ?c3 ?c4 ?c5 ?_) | go_in)
     case c1 => exact lit_two _ _ _ _
     case c2 => intro u hu; simp at hu; rcases hu with rfl | rfl <;> rfl
     case c3 => unfold maxLen; omega
     case c4 => omega
     case c5 => simp; omega
     intro v' w5 hown' hgrow _
     have hb' := below_app hb (Nat.le_refl _) hown hgrow
     have hL' : Own w5 w.heap.size (.slice (some ⟨g1, o1, none⟩) L.length cap1) L := World.ownsRow.kept (World.ownsRow.alloc hLo _) hgrow (owns_apart hLo hown (by decide))
     clear hgrow
     go_wp2_with fail
     go_roundw
     case rel =>
      refine ⟨k + 1, by omega, by go_num, ?_, hb', hL'⟩
      rw [HS.out, frV_app, List.length_append]
      exact hown'
     case measure => simp [intOf]; omega
   ·have hf := HF.out
    rw [if_neg hz] at hf
    clear HF
    have CW := hid (fun wx (hx : Below w.heap.size w wx) => writer_any _ h y z wx (HT.out _ hx))
    rw [← hf] at CW
    clear hf
    have hlo := block_lt d1
    simp only at hlo
    go_wp2_with fail
    have kk := Below.refl wr.heap.size wr
    go_region_held3 (fun w' => w'.cell? ⟨g1, o1 + k * 3 + 1, none⟩ = some (.int .i64 y) ∧ w'.cell? ⟨g1, o1 + k * 3 + 2, none⟩ = some (.int .i64 z))
     (go_keep)
     (first
      | (go_at_call 65; refine (CW.out _ (below_then hb (by first | exact kk | exact kk.drew | exact below_drewN kk _))).mono ?_; rintro e wx ⟨rfl, hbx⟩; have kk : Below wr.heap.size wr wx := (by first | exact below_then kk hbx | exact below_then kk ⟨hbx.os, hbx.tape, hbx.output, hbx.size, hbx.block⟩); have d1 := (kk.cell (p := ⟨g1, o1 + k * 3 + 1, none⟩) hlo).trans d1; have d2 := (kk.cell (p := ⟨g1, o1 + k * 3 + 2, none⟩) hlo).trans d2))
    have hb4 := below_then hb kk
    have hown4 := owns_below hown kk
    have hL4 := Own.below hLo kk
    have hsz4 := hb4.size
    clear CW hbx hb hown hLo
    by_cases hfi : f = (i : Int)
    ·rw [if_pos hfi, List.append_nil] at HS
     subst hfi
     go_wp2_with fail
     go_roundw
     case rel => exact ⟨k + 1, by omega, by go_num, by rw [HS.out]; exact hown4, hb4, hL4⟩
     case measure => simp [intOf]; omega
    ·rw [if_neg hfi] at HS
     go_wp2_with (first | (at_builtin; refine wpList_append_own _ rfl _ _ 241 rfl w.heap.size 244 i0 (.agg #[.int .i64 0, .int .i64 0]) 2 16 Tryz.underlying241 hi0 hz0 hz1 hz2 rfl (by decide) _ _ _ rfl (World.ownsRow.alloc hown4 _) ⟨_, 0, none⟩ 1 1 [.int .i64 y, .int .i64 f] rfl rfl ?c1 ?c2 ?c3 ?c4 ?c5 ?_) | go_in)
     case c1 => exact lit_two _ _ _ _
     case c2 => intro u hu; simp at hu; rcases hu with rfl | rfl <;> rfl
     case c3 => unfold maxLen; omega
     case c4 => omega
     case c5 => simp; omega
     intro v' w5 hown' hgrow _
     have hb' := below_app hb4 (Nat.le_refl _) hown4 hgrow
     have hL' : Own w5 w.heap.size (.slice (some ⟨g1, o1, none⟩) L.length cap1) L := World.ownsRow.kept (World.ownsRow.alloc hL4 _) hgrow (owns_apart hL4 hown4 (by decide))
     clear hgrow
     go_wp2_with fail
     go_roundw
     case rel =>
      refine ⟨k + 1, by omega, by go_num, ?_, hb', hL'⟩
      rw [HS.out, frV_app, List.length_append]
      exact hown'
     case measure => simp [intOf]; omega
  ·have hk2 : k = L.length := by omega
   subst hk2
   rw [List.take_length] at hown
   go_wp2_with fail
   go_ret
   exact ⟨_, rfl, hown, hb⟩
end

section
open Go.RowKit
def froR (h : List TxnV) (i k : Nat) : Bool := (rdR h k (refReads (opsAt h k))).any fun r => decide (r.2 = (i : Int))
theorem rfrom8_any (va : Value) (h : List TxnV) (i k : Nat) (hk : k < h.length) (w : World) (hT : Txns w va h) :
  Calls Tryz.prog 191 #[va, .int .i64 i, .int .i64 k] w fun e w' => e = .returned (.bool (froR h i k)) ∧ Below w.heap.size w w' := by
 have CR := hid (rreads8_any va h k hk w hT)
 have HF : Hid (froR h i k = (rdR h k (refReads h[k].l)).any fun r => decide (r.2 = (i : Int))) := hid (by
  unfold froR opsAt
  rw [List.getElem?_eq_getElem hk]; rfl)
 obtain ⟨ao, cap, rfl, hal⟩ := hT.form
 clear hT
 generalize rdR h k (refReads h[k].l) = L at *
 generalize froR h i k = q at *
 go_enter Tryz.func191, Tryz.ntmps191
 go_wp2_with fail
 refine (CR.out).mono ?_
 rintro e w1 ⟨v, rfl, hO, hb⟩
 have hL : Frs w1 v L := Row.of_owns hO
 obtain ⟨a1, cap1, rfl, hll⟩ := hL.form
 clear CR hO
 go_wp2_with fail
 go_loopw [8] (fun j wr => ∃ n : Nat, n ≤ L.length ∧ j = .int .i64 n ∧ (L.take n).any (fun r => decide (r.2 = (i : Int))) = false ∧ Below w.heap.size w wr ∧ Below w1.heap.size w1 wr)
  (fun j _ => L.length - (intOf j).toNat)
 case atStart => exact ⟨0, by omega, rfl, rfl, hb, Below.refl _ _⟩
 case round =>
  obtain ⟨n, hn, rfl, hno, hbw, hb1⟩ := hrel
  by_cases hlt : n < L.length
  ·have hni : (n : Int) < (L.length : Int) := by omega
   obtain ⟨g1, o1, hao, d0, d1⟩ := (hL.below hb1).at hlt
   cases hao
   have HN := hid (show (L.take (n + 1)).any (fun r => decide (r.2 = (i : Int))) = decide (L[n].2 = (i : Int)) by
    rw [List.take_succ_eq_append_getElem hlt, List.any_append, hno]; simp)
   have HH := hid (show decide (L[n].2 = (i : Int)) = true → (L.any fun r => decide (r.2 = (i : Int))) = true from fun h => List.any_eq_true.2 ⟨_, List.getElem_mem hlt, h⟩)
   generalize L[n].2 = f at *
   by_cases hf : f = (i : Int)
   ·have HQ : Hid (true = q) := hid (by rw [HF.out]; exact (HH.out (decide_eq_true hf)).symm)
    subst hf
    clear HN HH HF
    go_wp2_with fail
    go_ret
    exact ⟨ret_b HQ.out, hbw⟩
   ·have hno2 : Hid ((L.take (n + 1)).any (fun r => decide (r.2 = (i : Int))) = false) := hid (by rw [HN.out]; exact decide_eq_false hf)
    clear HN HH
    go_wp2_with fail
    go_roundw
    case rel => exact ⟨n + 1, by omega, by go_num, hno2.out, hbw, hb1⟩
    case measure => simp [intOf]; omega
  ·have hn2 : n = L.length := by omega
   subst hn2
   rw [List.take_length] at hno
   have HQ : Hid (false = q) := hid (by rw [HF.out]; exact hno.symm)
   clear HF
   go_wp2_with fail
   go_ret
   exact ⟨ret_b HQ.out, hbw⟩
end

section
open Go.RowKit
def wrsR (h : List TxnV) (i : Nat) (key : Int) : Bool := vOf (opsAt h i) key != 0
def rivR (h : List TxnV) (i k : Nat) : Bool := (List.range 64).any fun n => wrsR h i (n : Int) && wrsR h k (n : Int)
theorem rwrts8_any (va : Value) (h : List TxnV) (i : Nat) (key : Int) (hi : i < h.length) (w : World) (hT : Txns w va h) :
  Calls Tryz.prog 196 #[va, .int .i64 i, .int .i64 key] w fun e w' => e = .returned (.bool (wrsR h i key)) ∧ Below w.heap.size w w' := by
 have CV := hid (rvalue_any h[i].v h[i].l key w (hT.ops hi))
 have HV : Hid (wrsR h i key = (vOf h[i].l key != 0)) := hid (by unfold wrsR; rw [opsAt_eq hi])
 obtain ⟨ao, cap, rfl, hal⟩ := hT.form
 obtain ⟨g, o, hao, c0, c1, c2, c3⟩ := hT.at hi
 cases hao
 have hii : (i : Int) < (h.length : Int) := by omega
 rw [HV.out]
 generalize vOf h[i].l key = x at *
 generalize h[i].v = vi at *
 clear c0 c1 c2 hT HV
 go_enter Tryz.func196, Tryz.ntmps196
 go_wp2_with fail
 refine (CV.out).mono ?_
 rintro e w1 ⟨rfl, hb⟩
 go_wp2_with fail
 go_ret
 exact ⟨rfl, hb⟩
theorem rrivals_any (va : Value) (h : List TxnV) (i k : Nat) (hi : i < h.length) (hk : k < h.length) (hne : i ≠ k) (w : World) (hT : Txns w va h) :
  Calls Tryz.prog 195 #[va, .int .i64 i, .int .i64 k] w fun e w' => e = .returned (.bool (rivR h i k)) ∧ Below w.heap.size w w' := by
 have C1 := hid (fun (n : Int) wx (hx : Below w.heap.size w wx) => rwrts8_any va h i n hi wx (hT.below hx))
 have C2 := hid (fun (n : Int) wx (hx : Below w.heap.size w wx) => rwrts8_any va h k n hk wx (hT.below hx))
 have HQ : Hid (rivR h i k = (List.range 64).any fun n => wrsR h i (n : Int) && wrsR h k (n : Int)) := hid rfl
 have hnei : ¬ (i : Int) = (k : Int) := by omega
 generalize rivR h i k = q at *
 generalize wrsR h i = f1 at *
 generalize wrsR h k = f2 at *
 obtain ⟨ao, cap, rfl, hal⟩ := hT.form
 clear hT
 go_enter Tryz.func195, Tryz.ntmps195
 go_wp2_with fail
 have hb0 : ((i : Int) == (k : Int)) = false := by simpa using hnei
 simp only [hb0]
 clear hnei
 go_loopw [7] (fun j wr => ∃ n : Nat, n ≤ 64 ∧ j = .int .i64 n ∧ ((List.range n).any fun n => f1 (n : Int) && f2 (n : Int)) = false ∧ Below w.heap.size w wr) (fun j _ => 64 - (intOf j).toNat)
 case atStart => exact ⟨0, by omega, rfl, rfl, Below.refl _ _⟩
 case round =>
  obtain ⟨n, hn, rfl, hno, hb⟩ := hrel
  by_cases hlt : n < 64
  ·have hni : (n : Int) < 64 := by omega
   have HN := hid (show ((List.range (n + 1)).any fun n => f1 (n : Int) && f2 (n : Int)) = (f1 (n : Int) && f2 (n : Int)) by
    rw [List.range_succ, List.any_append, hno]; simp)
   have HH := hid (show (f1 (n : Int) && f2 (n : Int)) = true → ((List.range 64).any fun n => f1 (n : Int) && f2 (n : Int)) = true from fun h => List.any_eq_true.2 ⟨n, List.mem_range.2 hlt, h⟩)
   have D1 := hid (C1.out (n : Int))
   have D2 := hid (C2.out (n : Int))
   generalize f1 (n : Int) = p1 at *
   generalize f2 (n : Int) = p2 at *
   go_wp2_with fail
   refine (D1.out _ hb).mono ?_
   rintro e w1 ⟨rfl, hb1⟩
   have hb2 := below_then hb hb1
   cases p1
   ·have hno2 : Hid (((List.range (n + 1)).any fun n => f1 (n : Int) && f2 (n : Int)) = false) := hid (by rw [HN.out]; rfl)
    clear HN HH D1 D2 C1 C2 HQ
    go_wp2_with fail
    go_roundw
    case rel => exact ⟨n + 1, by omega, by go_num, hno2.out, hb2⟩
    case measure => simp [intOf]; omega
   ·go_wp2_with fail
    refine (D2.out _ hb2).mono ?_
    rintro e w2 ⟨rfl, hb3⟩
    have hb4 := below_then hb2 hb3
    cases p2
    ·have hno2 : Hid (((List.range (n + 1)).any fun n => f1 (n : Int) && f2 (n : Int)) = false) := hid (by rw [HN.out]; rfl)
     clear HN HH D1 D2 C1 C2 HQ
     go_wp2_with fail
     go_roundw
     case rel => exact ⟨n + 1, by omega, by go_num, hno2.out, hb4⟩
     case measure => simp [intOf]; omega
    ·have HR : Hid (true = q) := hid (by rw [HQ.out]; exact (HH.out rfl).symm)
     clear HN HH D1 D2 C1 C2 HQ
     go_wp2_with fail
     go_ret
     exact ⟨ret_b HR.out, hb4⟩
  ·have hn2 : n = 64 := by omega
   subst hn2
   have HR : Hid (false = q) := hid (by rw [HQ.out]; exact hno.symm)
   clear HQ C1 C2
   go_wp2_with fail
   go_ret
   exact ⟨ret_b HR.out, hb⟩
end

section
open Go.RowKit
theorem may_parts {h : List TxnV} (hm : mayRef h = true) : okW h = true ∧ ∀ t ∈ h, keysIn t.l := by
 rw [← right_ref] at hm
 unfold rightB valuesB at hm
 simp only [Bool.and_eq_true] at hm
 exact ⟨hm.2.1.1, parts_keys hm.1⟩
end

section
open Go.RowKit
theorem wrI_at {key x : Int} {h : List TxnV} (hn : ¬ wrI key x h < 0) : ∃ i, ∃ hi : i < h.length, wrI key x h = i ∧ ∃ o ∈ h[i].l, isWr key x o = true := by
 unfold wrI at hn ⊢
 cases hf : h.findIdx? (fun t => t.l.any (isWr key x)) with
 | none => rw [hf] at hn; exact absurd (by decide) hn
 | some i =>
  rw [List.findIdx?_eq_some_iff_getElem] at hf
  obtain ⟨hi, h1, _⟩ := hf
  obtain ⟨o, ho, hw⟩ := List.any_eq_true.1 h1
  exact ⟨i, hi, rfl, o, ho, hw⟩
theorem isWr_iff {key x : Int} {o : OpV} : isWr key x o = true ↔ o.wr = true ∧ o.key = key ∧ o.val = x := by unfold isWr; simp
theorem may_rows {h : List TxnV} (hm : mayRef h = true) : ∀ k, ∀ hk : k < h.length, rowR h k h[k] = true := fun k hk => by
 have := List.all_eq_true.1 hm k (List.mem_range.2 hk)
 rwa [List.getElem?_eq_getElem hk] at this
theorem rowR_iff {h : List TxnV} {k : Nat} {t : TxnV} : rowR h k t = true ↔ mayT t.s t.b t.c t.l = true ∧ (h.take k).all (fun a => apartB a t) = true ∧ ∀ o ∈ t.l, opR h o = true := by
 unfold rowR
 rw [Bool.and_eq_true, Bool.and_eq_true, List.all_eq_true (p := opR h)]
theorem may_wr {h : List TxnV} (hm : mayRef h = true) {i : Nat} (hi : i < h.length) {o : OpV} (ho : o ∈ h[i].l) (wo : o.wr = true) : wrTo h h.length o.val = some ⟨i, o.key, vOf h[i].l o.key == o.val⟩ := by
 obtain ⟨hw, hk⟩ := may_parts hm
 exact wrTo_at hk h.length (Nat.le_refl _) (by rw [List.take_length]; unfold okW at hw; simpa using hw) i hi hi o ho wo
theorem reads_F {h : List TxnV} (hm : mayRef h = true) {k : Nat} (hk : k < h.length) {o : OpV} (ho : o ∈ h[k].l) (wo : o.wr = false) :
  (o.val = 0 ∧ wrTo h h.length 0 = none) ∨ (o.val ≠ 0 ∧ ∃ u, wrTo h h.length o.val = some u ∧ u.key = o.key ∧ wrI o.key o.val h = u.i) := by
 by_cases h0 : o.val = 0
 ·refine .inl ⟨h0, ?_⟩
  cases hF : wrTo h h.length 0 with
  | none => rfl
  | some u =>
   obtain ⟨p, hp, hpv, _⟩ := real_wr h h.length (Nat.le_refl _) 0 u hF
   obtain ⟨t, ht, hpt, hpw⟩ := wrs_mem.1 hp
   obtain ⟨i, hi, rfl⟩ := List.getElem_of_mem ht
   have h1 := (rowR_iff.1 (may_rows hm i hi)).1
   unfold mayT at h1
   simp only [Bool.and_eq_true] at h1
   have h2 := (mayO_iff p).1 (List.all_eq_true.1 h1.2 p hpt)
   exact absurd hpv (h2.2.2 hpw)
 ·refine .inr ⟨h0, ?_⟩
  have h1 := (rowR_iff.1 (may_rows hm k hk)).2.2 o ho
  unfold opR at h1
  rw [wo] at h1
  have h2 : ¬ wrI o.key o.val h < 0 := by simpa [h0] using h1
  obtain ⟨i, hi, he, p, hp, hpw⟩ := wrI_at h2
  obtain ⟨q1, q2, q3⟩ := isWr_iff.1 hpw
  have h3 := may_wr hm hi hp q1
  rw [q3, q2] at h3
  exact ⟨_, h3, rfl, he⟩
end

section
open Go.RowKit
theorem may_of {h : List TxnV} (hc : checkI h = 0) : mayRef h = true := by
 rw [← right_ref]
 unfold checkI at hc
 split at hc
 ·cases hc
 ·cases hr : rightB h with
  | true => rfl
  | false => rw [hr] at hc; cases hc
theorem from_same {h : List TxnV} (hc : checkI h = 0) {k : Nat} (hk : k < h.length) {o : OpV} (ho : o ∈ h[k].l) (wo : o.wr = false) : fromO (wrTo h h.length) o.val = fromR h o := by
 unfold fromO fromR
 rcases reads_F (may_of hc) hk ho wo with ⟨h0, hn⟩ | ⟨h0, u, hu, _, hw⟩
 ·rw [if_pos h0, h0, hn]; rfl
 ·rw [if_neg h0, hu, hw]; rfl
theorem rd_congr {h : List TxnV} {F : Int → Option WV} {i : Int} : ∀ (l : List OpV), (∀ o ∈ l, fromO F o.val = fromR h o) → rdFr F i l = rdR h i l
 | [], _ => rfl
 | a :: l, hl => by
  have ih := rd_congr (i := i) l (fun o ho => hl o (List.mem_cons_of_mem _ ho))
  have ha := hl a List.mem_cons_self
  unfold rdFr rdR at *
  rw [List.filter_cons, List.filter_cons, ha]
  split
  ·rw [List.map_cons, List.map_cons, ih, ha]
  ·exact ih
theorem refReads_in {l : List OpV} {o : OpV} (ho : o ∈ refReads l) : o ∈ l ∧ o.wr = false := by
 obtain ⟨k, _, hk⟩ := upTo_mem.1 ho
 obtain ⟨h1, h2⟩ := rdK_some.1 hk
 exact ⟨(firstO_key h1).2, h2⟩
theorem reads_same {h : List TxnV} (hc : checkI h = 0) {k : Nat} (hk : k < h.length) : readsOf h k = rdR h k (refReads h[k].l) := by
 unfold readsOf
 rw [opsAt_eq hk]
 refine rd_congr _ fun o ho => ?_
 obtain ⟨h1, h2⟩ := refReads_in ho
 exact from_same hc hk h1 h2
theorem fro_same {h : List TxnV} (hc : checkI h = 0) (i : Nat) {k : Nat} (hk : k < h.length) : froP h i k = froR h i k := by
 unfold froP froR
 rw [reads_same hc hk, opsAt_eq hk]
end

section
open Go.RowKit
theorem rivS_bit (F : Int → Option Nat) (j : Nat) : ∀ (xs : List Int) (s : Nat), (xs.foldl (fun s x => s ||| (F x).getD 0) s).testBit j = (s.testBit j || xs.any fun x => ((F x).getD 0).testBit j)
 | [], s => by simp
 | x :: xs, s => by
  rw [List.foldl_cons, rivS_bit F j xs, Nat.testBit_or, List.any_cons, Bool.or_assoc]
theorem wrsRow_bit (i : Nat) (hi : i < 64) (j : Nat) (y : Int) : ∀ (xs : List Int) (F : Int → Option Nat), ((wrsRow i F xs y).getD 0).testBit j = (((F y).getD 0).testBit j || (decide (y ∈ xs) && decide (i = j)))
 | [], F => by simp [wrsRow]
 | x :: xs, F => by
  have ih := wrsRow_bit i hi j y xs (putF F x (withS ((F x).getD 0) i))
  show ((wrsRow i (putF F x (withS ((F x).getD 0) i)) xs y).getD 0).testBit j = _
  rw [ih]
  by_cases e : y = x
  ·subst e
   rw [putF_same, Option.getD_some, testBit_withS, Int.toNat_natCast]
   have : decide (0 ≤ (i : Int) ∧ (i : Int) < 64) = true := by simp; omega
   rw [this]
   cases ((F y).getD 0).testBit j <;> by_cases h : i = j <;> simp [h]
  ·rw [putF_other F _ e]
   simp [e]
theorem wrsTo_bit (K : List KRow) (j : Nat) (y : Int) : ∀ m, m ≤ 64 → m ≤ K.length → ((wrsTo K m y).getD 0).testBit j = (decide (j < m) && decide (y ∈ ((K[j]?).map (·.2)).getD []))
 | 0, _, _ => by simp [wrsTo]
 | m + 1, h64, hm => by
  have ih := wrsTo_bit K j y m (by omega) (by omega)
  have hlt : m < K.length := by omega
  rw [wrsTo_succ hlt, wrsRow_bit m (by omega) j y, ih]
  by_cases e : m = j
  ·subst e
   simp [List.getElem?_eq_getElem hlt]
  ·by_cases h : j < m
   ·have h2 : j < m + 1 := by omega
    simp [h, h2, e]
   ·have h2 : ¬ j < m + 1 := by omega
    simp [h, h2, e]
theorem keysOf_iff {h : List TxnV} (hc : checkI h = 0) {i : Nat} (hi : i < h.length) (y : Int) : y ∈ keysOf (opsAt h i) ↔ wrsR h i y = true := by
 unfold keysOf wrsR vOf
 generalize hl : opsAt h i = l
 rw [opsAt_eq hi] at hl
 constructor
 ·intro hy
  obtain ⟨o, ho, rfl⟩ := List.mem_map.1 hy
  cases hf : (refWrites l).find? (fun p => p.key == o.key) with
  | none => have := List.find?_eq_none.1 hf o ho; simp at this
  | some p =>
   have hp := List.mem_of_find?_eq_some hf
   obtain ⟨h1, h2⟩ := refWrites_mem hp
   have h3 := (rowR_iff.1 (may_rows (may_of hc) i hi)).1
   unfold mayT at h3
   simp only [Bool.and_eq_true] at h3
   have h4 := (mayO_iff p).1 (List.all_eq_true.1 h3.2 p (by rw [hl]; exact h1))
   simpa using h4.2.2 h2
 ·intro hy
  cases hf : (refWrites l).find? (fun p => p.key == y) with
  | none => rw [hf] at hy; simp at hy
  | some p =>
   have hp := List.mem_of_find?_eq_some hf
   have hk := List.find?_some hf
   exact List.mem_map.2 ⟨p, hp, by simpa using hk⟩
theorem keys_at {h : List TxnV} {K : List KRow} (hK : K.map (·.2) = keysTo h h.length) {k : Nat} (hk : k < h.length) : ((K[k]?).map (·.2)).getD [] = keysOf (opsAt h k) := by
 rw [← List.getElem?_map, hK]
 unfold keysTo
 simp [hk]
theorem keys_len {h : List TxnV} {K : List KRow} (hK : K.map (·.2) = keysTo h h.length) : K.length = h.length := by
 have := congrArg List.length hK
 simpa [keysTo] using this
theorem riv_same {h : List TxnV} {K : List KRow} (hc : checkI h = 0) (hK : K.map (·.2) = keysTo h h.length) {i k : Nat} (hi : i < h.length) (hk : k < h.length) (hne : i ≠ k) :
  hasB (woS (rivS (wrsTo K K.length) (((K[i]?).map (·.2)).getD [])) (i : Int)) (k : Int) = rivR h i k := by
 obtain ⟨h64, _, _, hks⟩ := check_zero hc
 have hl := keys_len hK
 unfold hasB
 rw [Int.toNat_natCast, testBit_woS, Int.toNat_natCast]
 have e1 : decide (0 ≤ (k : Int) ∧ (k : Int) < 64) = true := by simp; omega
 rw [e1, Bool.true_and]
 have e2 : decide (i = k) = false := decide_eq_false hne
 rw [e2, Bool.and_false, Bool.not_false, Bool.and_true]
 unfold rivS
 rw [rivS_bit, Nat.zero_testBit, Bool.false_or, keys_at hK hi, Bool.eq_iff_iff, List.any_eq_true]
 unfold rivR
 rw [List.any_eq_true]
 have hb : ∀ y, ((wrsTo K K.length y).getD 0).testBit k = true ↔ wrsR h k y = true := fun y => by
  rw [wrsTo_bit K k y K.length (by omega) (Nat.le_refl _), keys_at hK hk]
  have : k < K.length := by omega
  simp only [this, decide_true, Bool.true_and, decide_eq_true_eq]
  exact keysOf_iff hc hk y
 constructor
 ·rintro ⟨y, hy, hbt⟩
  have h1 := (keysOf_iff hc hi y).1 hy
  have h2 := (hb y).1 hbt
  obtain ⟨o, ho, rfl⟩ := List.mem_map.1 hy
  have h3 := (refWrites_mem ho).1
  rw [opsAt_eq hi] at h3
  obtain ⟨h4, h5⟩ := hks _ (List.getElem_mem hi) o h3
  refine ⟨o.key.toNat, List.mem_range.2 (by omega), ?_⟩
  rw [Int.toNat_of_nonneg h4, h1, h2]; rfl
 ·rintro ⟨n, _, hn⟩
  rw [Bool.and_eq_true] at hn
  exact ⟨(n : Int), (keysOf_iff hc hi _).2 hn.1, (hb _).2 hn.2⟩
end

section
open Go.RowKit
def rivB (h : List TxnV) (i k : Nat) : Bool := decide (i < h.length) && (decide (k < h.length) && (decide (i ≠ k) && rivR h i k))
def rivN (h : List TxnV) (i : Nat) : Nat := mkS (rivB h i)
theorem rivN_set (h : List TxnV) (i : Nat) : IsSet (rivN h i) := isSet_mkS _
theorem rivN_none {h : List TxnV} {i : Nat} (hi : h.length ≤ i) : rivN h i = 0 := by
 unfold rivN
 have : rivB h i = fun _ => false := by
  funext k
  unfold rivB
  rw [decide_eq_false (by omega)]; rfl
 rw [this]; exact mkS_false
theorem keys_int {h : List TxnV} {K : List KRow} (hc : checkI h = 0) (hK : K.map (·.2) = keysTo h h.length) : ∀ p ∈ K, ∀ x ∈ p.2, InI x := by
 obtain ⟨_, _, _, hks⟩ := check_zero hc
 intro p hp x hx
 have h1 : p.2 ∈ keysTo h h.length := by rw [← hK]; exact List.mem_map.2 ⟨p, hp, rfl⟩
 unfold keysTo at h1
 obtain ⟨i, hi, e⟩ := List.mem_map.1 h1
 have hi := List.mem_range.1 hi
 rw [← e] at hx
 unfold keysOf at hx
 obtain ⟨o, ho, rfl⟩ := List.mem_map.1 hx
 have h2 := (refWrites_mem ho).1
 rw [opsAt_eq hi] at h2
 obtain ⟨h3, h4⟩ := hks _ (List.getElem_mem hi) o h2
 refine inI_of ?_
 unfold IntOk
 omega
theorem riv_eq {h : List TxnV} {K : List KRow} (hc : checkI h = 0) (hK : K.map (·.2) = keysTo h h.length) {i : Nat} (hi : i < h.length) (hA : AllSet (wrsTo K K.length)) :
  woS (rivS (wrsTo K K.length) (((K[i]?).map (·.2)).getD [])) (i : Int) = rivN h i := by
 have hl := keys_len hK
 have h64 := (check_zero hc).1
 refine mkS_eq ?_ (fun k hk => ?_)
 ·have h1 : IsSet (rivS (wrsTo K K.length) (((K[i]?).map (·.2)).getD [])) := by
   have := rivS_set hA (((K[i]?).map (·.2)).getD []) (((K[i]?).map (·.2)).getD []).length (Nat.le_refl _)
   rwa [List.take_length] at this
  exact isSet_woS h1
 ·by_cases hkn : k < h.length
  ·by_cases e : i = k
   ·subst e
    unfold rivB
    rw [testBit_woS, Int.toNat_natCast]
    simp; intros; omega
   ·have h2 := riv_same hc hK hi hkn e
    unfold hasB at h2
    rw [Int.toNat_natCast] at h2
    have e1 : decide (0 ≤ (k : Int) ∧ (k : Int) < 64) = true := by simp; omega
    rw [e1, Bool.true_and] at h2
    rw [h2]
    unfold rivB
    simp [hi, hkn, e]
  ·rw [testBit_woS]
   have h3 : (rivS (wrsTo K K.length) (((K[i]?).map (·.2)).getD [])).testBit k = false := by
    unfold rivS
    rw [rivS_bit, Nat.zero_testBit, Bool.false_or]
    refine List.any_eq_false.2 (fun y _ => ?_)
    rw [wrsTo_bit K k y K.length (by omega) (Nat.le_refl _)]
    have : ¬ k < K.length := by omega
    simp [this]
   rw [h3]
   unfold rivB
   simp [hkn]
theorem ordis_rivals {w : World} {B b : Nat} {h : List TxnV} (hO : OrdIs w B b h) (hc : checkI h = 0) (i : Nat) :
  Calls Tryz.prog 174 #[.pointer (some ⟨B, 0, none⟩), .int .i64 i] w fun e w' => e = .returned (.int .u64 ((rivN h i : Nat) : Int)) ∧ Below w.heap.size w w' := by
 obtain ⟨bm, m, c, vk, vr, K, R, h1, h2, h3, h4, h5, h6⟩ := hO
 have hl := keys_len h5
 by_cases hi : i < h.length
 ·have hiK : i < K.length := by omega
  have hh := orivals_any i h1 h2 h3 h4.rws (keys_int hc h5) hiK
  have e := riv_eq hc h5 hi h3
  rw [List.getElem?_eq_getElem hiK] at e
  simp only [Option.map_some, Option.getD_some] at e
  rw [e] at hh
  exact hh
 ·rw [rivN_none (by omega)]
  exact orivals_none (i : Int) h1 h4.rws (.inr (by omega))
theorem froR_irr (h : List TxnV) (i : Nat) : froR h i i = false := by
 unfold froR
 refine List.any_eq_false.2 (fun r hr => ?_)
 unfold rdR at hr
 obtain ⟨o, ho, rfl⟩ := List.mem_map.1 hr
 have := (List.mem_filter.1 ho).2
 simpa using this
end

section
open Go.RowKit
theorem yields_rel {ops : Array Oper} {S : World → Prop} {o : Oper} {a : Act} {g : Nat} {R : Mat} (hw : Region.wanted o (yielded ops a.tmps) = true) (x : Operand) (ho : o.op = .load 98 x)
  (hx : a.eval x = .pointer (some ⟨g, 0, none⟩)) (hS : ∀ w, S w → RelAt w g 98 R) : YieldsIf Tryz.prog ops S o (.agg (rowsA R)) a :=
 .inl ⟨hw, fun w hw' => by
  unfold execOp
  simp only [ho, hx, Instr.loadAt, Instr.sureAddr, Sem.run_bind, Sem.run_pure, Result.andThen_ok, run_loadVar_row w g _ _ _ _ _ (hS w hw') Tryz.underlying98 rfl (infoRel' _)]⟩
def rivM (h : List TxnV) (A : Mat) : Mat := fun i j => A i j && rivB h i j
def rivTo (h : List TxnV) (A : Mat) (k : Nat) : Mat := fun i j => if i < k then A i j && rivB h i j else A i j
theorem rivTo_step (h : List TxnV) (A : Mat) (k : Nat) : rowSet (rivTo h A k) k (fun j => A k j && rivB h k j) = rivTo h A (k + 1) := by
 funext i j
 unfold rowSet rivTo
 by_cases e : i = k
 ·subst e; rw [if_pos rfl, if_pos (by omega)]
 ·rw [if_neg e]
  by_cases e2 : i < k
  ·rw [if_pos e2, if_pos (by omega)]
  ·rw [if_neg e2, if_neg (by omega)]
theorem rivTo_at (h : List TxnV) (A : Mat) (k : Nat) : rivTo h A k k = A k := by funext j; unfold rivTo; rw [if_neg (by omega)]
theorem rivTo_end (h : List TxnV) (A : Mat) : rowsA (rivTo h A 64) = rowsA (rivM h A) := rowsA_congr fun i j hi _ => by unfold rivTo rivM; rw [if_pos hi]
theorem u64_and (p q : Nat → Bool) : Go.bits .and .u64 ((mkS p : Nat) : Int) ((mkS q : Nat) : Int) = ((mkS (fun j => p j && q j) : Nat) : Int) := by
 rw [Go.bits_and_u64_nat _ _ (isSet_mkS p) (isSet_mkS q)]
 congr 1
 refine mkS_eq (isSet_and (isSet_mkS p)) fun i hi => ?_
 rw [Nat.testBit_and, testBit_mkS, testBit_mkS, decide_eq_true hi]; rfl
theorem lrivals_any (A : Mat) (h : List TxnV) (B b : Nat) (w : World) (hO : OrdIs w B b h) (hc : checkI h = 0) :
  Calls Tryz.prog 163 #[.pointer (some ⟨B, 0, none⟩), .agg (rowsA A)] w fun e w' => e = .returned (.agg (rowsA (rivM h A))) ∧ Below w.heap.size w w' := by
 have CRH := hid (fun (i : Nat) wx (hx : Below w.heap.size w wx) => ordis_rivals (hO.below hx) hc i)
 have e0 : rowsA A = rowsA (rivTo h A 0) := rowsA_congr fun i j _ _ => by unfold rivTo; rw [if_neg (by omega)]
 have r0 : RelAt (w.alloc (.cells (rowsA A) 98)) w.heap.size 98 (rivTo h A 0) := RelAt.made w _ _ rfl e0
 have z0 := zero_block (w.alloc (.cells (rowsA A) 98))
 rw [show (w.alloc (.cells (rowsA A) 98)).heap.size = w.heap.size + 1 from by simp] at z0
 have r0 := r0.alloc (.cells Z64 98)
 have hb0 := (box_below w (.cells (rowsA A) 98)).alloc (by simp) (.cells Z64 98)
 clear hO hc e0
 go_enter Tryz.func163, Tryz.ntmps163
 go_wp2_with fail
 go_loopw [6] (fun i wr => ∃ k : Nat, k ≤ 64 ∧ i = .int .i64 k ∧ RelAt wr w.heap.size 98 (rivTo h A k) ∧ RelAt wr (w.heap.size + 1) 98 noR ∧ Below w.heap.size w wr) (fun i _ => 64 - (intOf i).toNat)
 case atStart => exact ⟨0, by omega, rfl, r0, z0, hb0⟩
 case round =>
  obtain ⟨k, hk, rfl, hR, hz, hb⟩ := hrel
  clear r0 z0 hb0
  by_cases hlt : k < 64
  ·have hki : (k : Int) < 64 := by omega
   have hda : decide ((k : Int) < 64) = true := decide_eq_true hki
   have kd := (Below.refl wr.heap.size wr).drew
   have HAND : Go.bits .and .u64 ((mkS (rivTo h A k k) : Nat) : Int) ((rivN h k : Nat) : Int) = ((mkS (fun j => A k j && rivB h k j) : Nat) : Int) := by rw [rivTo_at]; exact u64_and _ _
   have HR : Hid (∀ wx, Below wr.heap.size wr wx → RelAt wx w.heap.size 98 (rivTo h A k)) := hid (fun wx hx => hR.below hx hR.lt)
   have CR := hid (fun wx (hx : Below wr.heap.size wr wx) => CRH.out k wx (hb.trans (hx.mono hb.size)))
   have HS : Hid (∀ wx, Below wr.heap.size wr wx → True) := hid (fun _ _ => trivial)
   have HN : Hid (∀ wx, Below wr.heap.size wr wx → RelAt (wx.setCell ⟨w.heap.size, k, none⟩ (.int .u64 ((mkS (fun j => A k j && rivB h k j) : Nat) : Int))) w.heap.size 98 (rivTo h A (k + 1))) := hid (fun wx hx => by
    have := (hR.below hx hR.lt).store k _ (fun j => A k j && rivB h k j) rfl
    rwa [rivTo_step] at this)
   have HBS : Hid (∀ wx, Below wr.heap.size wr wx → Below w.heap.size w (wx.setCell ⟨w.heap.size, k, none⟩ (.int .u64 ((mkS (fun j => A k j && rivB h k j) : Nat) : Int)))) := hid (fun wx hx => (hb.trans (hx.mono hb.size)).setCell (p := ⟨w.heap.size, k, none⟩) (Nat.le_refl _) _)
   have HZS : Hid (∀ wx, Below wr.heap.size wr wx → RelAt (wx.setCell ⟨w.heap.size, k, none⟩ (.int .u64 ((mkS (fun j => A k j && rivB h k j) : Nat) : Int))) (w.heap.size + 1) 98 noR) := hid (fun wx hx => (hz.below hx hz.lt).other (k := ⟨w.heap.size, k, none⟩) (by simp) _)
   clear hR hz hb CRH
   generalize mkS (fun j => A k j && rivB h k j) = z at *
   generalize rivN h k = y at *
   go_wp2_with fail
   refine wp_region_held_drew (S := fun _ => True) (by kernel_rfl) trivial (fun hS0 => ?_)
   refine tG (some 9) 0 ?v0 rfl rfl (Or.inl ⟨by rfl, ?h0⟩) hS0 ?r0
   case h0 => (intro w hw; go_simp; try (with_reducible rfl))
   try simp only [Act.put, zA, zB, zC]
   refine tG (some 10) 1 ?v1 rfl rfl (Or.inl ⟨by rfl, ?h1⟩) hS0 ?r1
   case h1 => (intro w hw; go_simp; try (with_reducible rfl))
   try simp only [Act.put, zA, zB, zC]
   refine tG (some 12) 3 ?v3 rfl rfl (Or.inl ⟨by rfl, ?h3⟩) hS0 ?r3
   case h3 => (intro w hw; go_simp; try (with_reducible rfl))
   try simp only [Act.put, zA, zB, zC]
   refine tG (some 13) 4 ?v4 rfl rfl (Or.inl ⟨by rfl, ?h4⟩) hS0 ?r4
   case h4 => (intro w hw; go_simp; try (with_reducible rfl))
   try simp only [Act.put, zA, zB, zC]
   refine wpAnyH_ready (rs := [2, 5]) (by kernel_rfl) (by simp) ?_
   refine AllReadyH.cons rfl (fun K hK => ?_) (AllReadyH.cons rfl (fun K hK => ?_) AllReadyH.nil)
   ·
    have hc2 := (HR.out _ kd).cell hlt
    go_simp
    refine hK.out _ _ hS0 (fun _ => ?_)
    clear hK K hc2
    refine rD 5 rfl (fun K hK => ?_)
    go_simp
    refine (CR.out _ kd).mono ?_
    rintro e q1 ⟨rfl, hq1⟩
    show K _ _
    have k1 := below_then kd hq1
    have s1 := HS.out _ k1
    refine hK.out _ _ s1 (fun _ => ?_)
    clear hK K
    refine rD 6 rfl (fun K hK => ?_)
    go_simp
    refine hK.out _ _ s1 (fun _ => ?_)
    clear hK K
    refine rD 7 rfl (fun K hK => ?_)
    go_simp
    refine hK.out _ _ s1 (fun _ => ?_)
    clear hK K
    refine rD 8 rfl (fun K hK => ?_)
    have hc8 := (HR.out _ k1).cell hlt
    have hf8 := (HR.out _ k1).free k
    go_simp
    refine hK.out _ _ trivial (fun _ => ?_)
    clear hK K hc8 hf8
    refine wpAnyH_done (by kernel_rfl) ?_ _
    have hR9 := HN.out _ k1
    have hb9 := HBS.out _ k1
    have hz9 := HZS.out _ k1
    clear HR CR HN HBS HZS HS kd
    go_wp2_with fail
    go_roundw
    case rel => exact ⟨k + 1, by omega, by go_num, hR9, hz9, hb9⟩
    case measure => simp [intOf]; omega
   ·
    go_simp
    refine (CR.out _ kd).mono ?_
    rintro e q2 ⟨rfl, hq2⟩
    show K _ _
    have k2 := below_then kd hq2
    have s2 := HS.out _ k2
    refine hK.out _ _ s2 (fun _ => ?_)
    clear hK K
    refine rD 2 rfl (fun K hK => ?_)
    have hc2 := (HR.out _ k2).cell hlt
    go_simp
    refine hK.out _ _ s2 (fun _ => ?_)
    clear hK K hc2
    refine rD 6 rfl (fun K hK => ?_)
    go_simp
    refine hK.out _ _ s2 (fun _ => ?_)
    clear hK K
    refine rD 7 rfl (fun K hK => ?_)
    go_simp
    refine hK.out _ _ s2 (fun _ => ?_)
    clear hK K
    refine rD 8 rfl (fun K hK => ?_)
    have hc8 := (HR.out _ k2).cell hlt
    have hf8 := (HR.out _ k2).free k
    go_simp
    refine hK.out _ _ trivial (fun _ => ?_)
    clear hK K hc8 hf8
    refine wpAnyH_done (by kernel_rfl) ?_ _
    have hR9 := HN.out _ k2
    have hb9 := HBS.out _ k2
    have hz9 := HZS.out _ k2
    clear HR CR HN HBS HZS HS kd
    go_wp2_with fail
    go_roundw
    case rel => exact ⟨k + 1, by omega, by go_num, hR9, hz9, hb9⟩
    case measure => simp [intOf]; omega
  ·have hk64 : k = 64 := by omega
   subst hk64
   go_wp2_with (first
    | (with_reducible refine wpList_load_rel hR rfl _ rfl rfl ?_)
    | (with_reducible refine wpList_store_rel hz (rivTo h A 64) rfl _ _ rfl rfl rfl ?_))
   have h3 := hz.setRow (rivTo h A 64)
   rw [rivTo_end] at h3
   exact bodyPost_ret (results_rel rfl _ _ _ _ rfl h3) rfl ⟨rfl, below_setRow hb (by omega) _⟩
def trB (x : Int) : Bool := decide (¬ bits .and .i64 x 2 = 0)
def pfB (x : Int) : Bool := decide (¬ bits .and .i64 x 4 = 0)
theorem lmore_any (x : Int) (V A : Mat) (w : World) (ht : Tab w) :
  Calls Tryz.prog 164 #[.agg (rowsA V), .agg (rowsA A), .int .i64 x] w fun e w' => e = .returned (.agg (rowsA (moreM V A (trB x) (pfB x)))) ∧ Below w.heap.size w w' := by
 have hg := ht.pos
 have HT : Hid (∀ wx, Below w.heap.size w wx → Tab wx) := hid (fun wx hb => ht.below hb hg)
 obtain ⟨q2, h2⟩ : ∃ q, bits .and .i64 x 2 = q := ⟨_, rfl⟩
 obtain ⟨q4, h4⟩ : ∃ q, bits .and .i64 x 4 = q := ⟨_, rfl⟩
 have HP2 : Hid (trB x = decide (¬ q2 = 0)) := hid (by unfold trB; rw [h2])
 have HP : Hid (pfB x = decide (¬ q4 = 0)) := hid (by unfold pfB; rw [h4])
 have z0 := (RelAt.made w 98 V rfl rfl)
 have z0 := (z0.alloc (.cells (rowsA A) 98)).alloc (.cells Z64 98)
 have z1 := (RelAt.made (w.alloc (.cells (rowsA V) 98)) 98 A (g := w.heap.size + 1) (by simp) rfl).alloc (.cells Z64 98)
 have z2 := zero_block ((w.alloc (.cells (rowsA V) 98)).alloc (.cells (rowsA A) 98))
 rw [show ((w.alloc (.cells (rowsA V) 98)).alloc (.cells (rowsA A) 98)).heap.size = w.heap.size + 2 from by simp] at z2
 have hb := ((box_below w (.cells (rowsA V) 98)).alloc (by simp) (.cells (rowsA A) 98)).alloc (by simp; omega) (.cells Z64 98)
 clear ht
 go_enter Tryz.func164, Tryz.ntmps164
 go_upto_region 1 with fail
 generalize ((w.alloc (.cells (rowsA V) 98)).alloc (.cells (rowsA A) 98)).alloc (.cells Z64 98) = w2 at *
 by_cases e2 : q2 = 0
 ·have HU : Hid (V = moreT V (trB x)) := hid (by rw [HP2.out]; unfold moreT; simp [e2])
  subst e2
  go_upto_region 3 with fail
  obtain ⟨w4, hw4⟩ : ∃ w4, w4 = w2 := ⟨_, rfl⟩
  rw [← hw4] at z0 z1 z2 hb ⊢
  clear hw4
  obtain ⟨U, hU⟩ : ∃ U, U = V := ⟨_, rfl⟩
  have HU : Hid (U = moreT V (trB x)) := hid (by rw [hU]; exact HU.out)
  rw [← hU] at z0
  clear hU
  by_cases e4 : q4 = 0
  ·have HE : Hid (U = moreM V A (trB x) (pfB x)) := hid (by rw [HU.out, HP.out]; unfold moreM; simp [e4])
   subst e4
   go_upto_region 5 with fail
   go_wp2_with (first | (with_reducible refine wpList_load_rel z0 rfl _ rfl rfl ?_) | (with_reducible refine wpList_store_rel z2 (U) rfl _ _ rfl rfl rfl ?_))
   have h3 := z2.setRow (U)
   exact bodyPost_ret (results_rel rfl _ _ _ _ rfl h3) rfl ⟨ret_rel HE.out, below_setRow hb (by omega) _⟩
  ·have HE : Hid (orR U (thenR A U) = moreM V A (trB x) (pfB x)) := hid (by rw [HU.out, HP.out]; unfold moreM; simp [e4])
   go_upto_region 4 with fail
   have kd := (Below.refl w4.heap.size w4).drew
   have HV : Hid (∀ wx, Below w4.heap.size w4 wx → RelAt wx w.heap.size 98 U) := hid (fun wx hx => z0.below hx z0.lt)
   have HA : Hid (∀ wx, Below w4.heap.size w4 wx → RelAt wx (w.heap.size + 1) 98 A) := hid (fun wx hx => z1.below hx z1.lt)
   have HZ : Hid (∀ wx, Below w4.heap.size w4 wx → RelAt wx (w.heap.size + 2) 98 noR) := hid (fun wx hx => z2.below hx z2.lt)
   have HB := hid (fun wx (hx : Below w4.heap.size w4 wx) => hb.trans (hx.mono hb.size))
   have CT := hid (fun wx (hx : Below w4.heap.size w4 wx) => then_any A U wx (HT.out _ (hb.trans (hx.mono hb.size))))
   clear z0 z1 z2 hb
   refine wp_region_held_drew (S := fun wx => RelAt wx (w.heap.size + 1) 98 A) (by kernel_rfl) (HA.out _ kd) (fun hS0 => ?_)
   refine tG (some 16) 1 _ rfl rfl (yields_rel (by rfl) _ rfl rfl (fun wx hx => hx)) hS0 ?_
   try simp only [Act.put, zA, zB, zC]
   refine wpAnyH_ready (rs := [0, 2]) (by kernel_rfl) (by simp) ?_
   refine AllReadyH.cons rfl (fun K hK => ?_) (AllReadyH.cons rfl (fun K hK => ?_) AllReadyH.nil)
   ·
    rw [if_pos (by rfl)]
    refine wp_load_rel (HV.out _ kd) _ rfl rfl ?_
    refine hK.out _ _ hS0 (fun _ => ?_)
    clear hK K
    refine rD 2 rfl (fun K hK => ?_)
    rw [if_pos (by rfl)]
    refine wp_load_rel (HV.out _ kd) _ rfl rfl ?_
    refine hK.out _ _ hS0 (fun _ => ?_)
    clear hK K
    refine rD 3 rfl (fun K hK => ?_)
    go_simp
    refine (CT.out _ kd).mono ?_
    rintro e q1 ⟨rfl, hq1⟩
    show K _ _
    have k1 := below_then kd hq1
    have s1 := HA.out _ k1
    refine hK.out _ _ s1 (fun _ => ?_)
    clear hK K
    refine rD 4 rfl (fun K hK => ?_)
    go_simp
    refine (union_any U (thenR A U) _).mono ?_
    rintro e q2 ⟨rfl, hq2⟩
    show K _ _
    have k2 := below_then k1 hq2
    have s2 := HA.out _ k2
    refine hK.out _ _ s2 (fun _ => ?_)
    clear hK K
    refine rD 5 rfl (fun K hK => ?_)
    rw [if_pos (by rfl)]
    refine wp_store_rel (HV.out _ k2) (orR U (thenR A U)) _ _ rfl rfl rfl ?_
    refine hK.out _ _ ((HA.out _ k2).far (by omega) _) (fun _ => ?_)
    clear hK K
    refine wpAnyH_done (by kernel_rfl) ?_ _
    have z0 := (HV.out _ k2).setRow (orR U (thenR A U))
    have z2 := (HZ.out _ k2).far (g' := w.heap.size) (by omega) (rowsA (orR U (thenR A U)))
    have hb := below_setRow (HB.out _ k2) (g := w.heap.size) (by omega) (rowsA (orR U (thenR A U)))
    generalize World.setRow _ _ _ = w5 at *
    clear HV HZ HB HA CT kd
    go_wp2_with (first | (with_reducible refine wpList_load_rel z0 rfl _ rfl rfl ?_) | (with_reducible refine wpList_store_rel z2 (orR U (thenR A U)) rfl _ _ rfl rfl rfl ?_))
    have h3 := z2.setRow (orR U (thenR A U))
    exact bodyPost_ret (results_rel rfl _ _ _ _ rfl h3) rfl ⟨ret_rel HE.out, below_setRow hb (by omega) _⟩
   ·
    rw [if_pos (by rfl)]
    refine wp_load_rel (HV.out _ kd) _ rfl rfl ?_
    refine hK.out _ _ hS0 (fun _ => ?_)
    clear hK K
    refine wpAnyH_ready (rs := [0, 3]) (by kernel_rfl) (by simp) ?_
    refine AllReadyH.cons rfl (fun K hK => ?_) (AllReadyH.cons rfl (fun K hK => ?_) AllReadyH.nil)
    ·
     rw [if_pos (by rfl)]
     refine wp_load_rel (HV.out _ kd) _ rfl rfl ?_
     refine hK.out _ _ hS0 (fun _ => ?_)
     clear hK K
     refine rD 3 rfl (fun K hK => ?_)
     go_simp
     refine (CT.out _ kd).mono ?_
     rintro e q3 ⟨rfl, hq3⟩
     show K _ _
     have k3 := below_then kd hq3
     have s3 := HA.out _ k3
     refine hK.out _ _ s3 (fun _ => ?_)
     clear hK K
     refine rD 4 rfl (fun K hK => ?_)
     go_simp
     refine (union_any U (thenR A U) _).mono ?_
     rintro e q4 ⟨rfl, hq4⟩
     show K _ _
     have k4 := below_then k3 hq4
     have s4 := HA.out _ k4
     refine hK.out _ _ s4 (fun _ => ?_)
     clear hK K
     refine rD 5 rfl (fun K hK => ?_)
     rw [if_pos (by rfl)]
     refine wp_store_rel (HV.out _ k4) (orR U (thenR A U)) _ _ rfl rfl rfl ?_
     refine hK.out _ _ ((HA.out _ k4).far (by omega) _) (fun _ => ?_)
     clear hK K
     refine wpAnyH_done (by kernel_rfl) ?_ _
     have z0 := (HV.out _ k4).setRow (orR U (thenR A U))
     have z2 := (HZ.out _ k4).far (g' := w.heap.size) (by omega) (rowsA (orR U (thenR A U)))
     have hb := below_setRow (HB.out _ k4) (g := w.heap.size) (by omega) (rowsA (orR U (thenR A U)))
     generalize World.setRow _ _ _ = w5 at *
     clear HV HZ HB HA CT kd
     go_wp2_with (first | (with_reducible refine wpList_load_rel z0 rfl _ rfl rfl ?_) | (with_reducible refine wpList_store_rel z2 (orR U (thenR A U)) rfl _ _ rfl rfl rfl ?_))
     have h3 := z2.setRow (orR U (thenR A U))
     exact bodyPost_ret (results_rel rfl _ _ _ _ rfl h3) rfl ⟨ret_rel HE.out, below_setRow hb (by omega) _⟩
    ·
     go_simp
     refine (CT.out _ kd).mono ?_
     rintro e q5 ⟨rfl, hq5⟩
     show K _ _
     have k5 := below_then kd hq5
     have s5 := HA.out _ k5
     refine hK.out _ _ s5 (fun _ => ?_)
     clear hK K
     refine rD 0 rfl (fun K hK => ?_)
     rw [if_pos (by rfl)]
     refine wp_load_rel (HV.out _ k5) _ rfl rfl ?_
     refine hK.out _ _ s5 (fun _ => ?_)
     clear hK K
     refine rD 4 rfl (fun K hK => ?_)
     go_simp
     refine (union_any U (thenR A U) _).mono ?_
     rintro e q6 ⟨rfl, hq6⟩
     show K _ _
     have k6 := below_then k5 hq6
     have s6 := HA.out _ k6
     refine hK.out _ _ s6 (fun _ => ?_)
     clear hK K
     refine rD 5 rfl (fun K hK => ?_)
     rw [if_pos (by rfl)]
     refine wp_store_rel (HV.out _ k6) (orR U (thenR A U)) _ _ rfl rfl rfl ?_
     refine hK.out _ _ ((HA.out _ k6).far (by omega) _) (fun _ => ?_)
     clear hK K
     refine wpAnyH_done (by kernel_rfl) ?_ _
     have z0 := (HV.out _ k6).setRow (orR U (thenR A U))
     have z2 := (HZ.out _ k6).far (g' := w.heap.size) (by omega) (rowsA (orR U (thenR A U)))
     have hb := below_setRow (HB.out _ k6) (g := w.heap.size) (by omega) (rowsA (orR U (thenR A U)))
     generalize World.setRow _ _ _ = w5 at *
     clear HV HZ HB HA CT kd
     go_wp2_with (first | (with_reducible refine wpList_load_rel z0 rfl _ rfl rfl ?_) | (with_reducible refine wpList_store_rel z2 (orR U (thenR A U)) rfl _ _ rfl rfl rfl ?_))
     have h3 := z2.setRow (orR U (thenR A U))
     exact bodyPost_ret (results_rel rfl _ _ _ _ rfl h3) rfl ⟨ret_rel HE.out, below_setRow hb (by omega) _⟩
 ·have HU : Hid (clo V = moreT V (trB x)) := hid (by rw [HP2.out]; unfold moreT; simp [e2])
  go_wp2_with (with_reducible refine wpList_load_rel z0 rfl _ rfl rfl ?_)
  refine (rclos_any V _).mono ?_
  rintro e w3 ⟨rfl, hb3⟩
  have z0 := z0.below hb3 z0.lt
  have z1 := (z1.below hb3 z1.lt).far (g' := w.heap.size) (by omega) (rowsA (clo V))
  have z2 := (z2.below hb3 z2.lt).far (g' := w.heap.size) (by omega) (rowsA (clo V))
  have hb := below_setRow (hb.trans (hb3.mono hb.size)) (g := w.heap.size) (by omega) (rowsA (clo V))
  clear hb3
  go_upto_region 3 with (with_reducible refine wpList_store_rel z0 (clo V) rfl _ _ rfl rfl rfl ?_)
  have z0 := z0.setRow (clo V)
  generalize World.setRow _ _ _ = w4 at *
  generalize clo V = U at *
  by_cases e4 : q4 = 0
  ·have HE : Hid (U = moreM V A (trB x) (pfB x)) := hid (by rw [HU.out, HP.out]; unfold moreM; simp [e4])
   subst e4
   go_upto_region 5 with fail
   go_wp2_with (first | (with_reducible refine wpList_load_rel z0 rfl _ rfl rfl ?_) | (with_reducible refine wpList_store_rel z2 (U) rfl _ _ rfl rfl rfl ?_))
   have h3 := z2.setRow (U)
   exact bodyPost_ret (results_rel rfl _ _ _ _ rfl h3) rfl ⟨ret_rel HE.out, below_setRow hb (by omega) _⟩
  ·have HE : Hid (orR U (thenR A U) = moreM V A (trB x) (pfB x)) := hid (by rw [HU.out, HP.out]; unfold moreM; simp [e4])
   go_upto_region 4 with fail
   have kd := (Below.refl w4.heap.size w4).drew
   have HV : Hid (∀ wx, Below w4.heap.size w4 wx → RelAt wx w.heap.size 98 U) := hid (fun wx hx => z0.below hx z0.lt)
   have HA : Hid (∀ wx, Below w4.heap.size w4 wx → RelAt wx (w.heap.size + 1) 98 A) := hid (fun wx hx => z1.below hx z1.lt)
   have HZ : Hid (∀ wx, Below w4.heap.size w4 wx → RelAt wx (w.heap.size + 2) 98 noR) := hid (fun wx hx => z2.below hx z2.lt)
   have HB := hid (fun wx (hx : Below w4.heap.size w4 wx) => hb.trans (hx.mono hb.size))
   have CT := hid (fun wx (hx : Below w4.heap.size w4 wx) => then_any A U wx (HT.out _ (hb.trans (hx.mono hb.size))))
   clear z0 z1 z2 hb
   refine wp_region_held_drew (S := fun wx => RelAt wx (w.heap.size + 1) 98 A) (by kernel_rfl) (HA.out _ kd) (fun hS0 => ?_)
   refine tG (some 16) 1 _ rfl rfl (yields_rel (by rfl) _ rfl rfl (fun wx hx => hx)) hS0 ?_
   try simp only [Act.put, zA, zB, zC]
   refine wpAnyH_ready (rs := [0, 2]) (by kernel_rfl) (by simp) ?_
   refine AllReadyH.cons rfl (fun K hK => ?_) (AllReadyH.cons rfl (fun K hK => ?_) AllReadyH.nil)
   ·
    rw [if_pos (by rfl)]
    refine wp_load_rel (HV.out _ kd) _ rfl rfl ?_
    refine hK.out _ _ hS0 (fun _ => ?_)
    clear hK K
    refine rD 2 rfl (fun K hK => ?_)
    rw [if_pos (by rfl)]
    refine wp_load_rel (HV.out _ kd) _ rfl rfl ?_
    refine hK.out _ _ hS0 (fun _ => ?_)
    clear hK K
    refine rD 3 rfl (fun K hK => ?_)
    go_simp
    refine (CT.out _ kd).mono ?_
    rintro e q1 ⟨rfl, hq1⟩
    show K _ _
    have k1 := below_then kd hq1
    have s1 := HA.out _ k1
    refine hK.out _ _ s1 (fun _ => ?_)
    clear hK K
    refine rD 4 rfl (fun K hK => ?_)
    go_simp
    refine (union_any U (thenR A U) _).mono ?_
    rintro e q2 ⟨rfl, hq2⟩
    show K _ _
    have k2 := below_then k1 hq2
    have s2 := HA.out _ k2
    refine hK.out _ _ s2 (fun _ => ?_)
    clear hK K
    refine rD 5 rfl (fun K hK => ?_)
    rw [if_pos (by rfl)]
    refine wp_store_rel (HV.out _ k2) (orR U (thenR A U)) _ _ rfl rfl rfl ?_
    refine hK.out _ _ ((HA.out _ k2).far (by omega) _) (fun _ => ?_)
    clear hK K
    refine wpAnyH_done (by kernel_rfl) ?_ _
    have z0 := (HV.out _ k2).setRow (orR U (thenR A U))
    have z2 := (HZ.out _ k2).far (g' := w.heap.size) (by omega) (rowsA (orR U (thenR A U)))
    have hb := below_setRow (HB.out _ k2) (g := w.heap.size) (by omega) (rowsA (orR U (thenR A U)))
    generalize World.setRow _ _ _ = w5 at *
    clear HV HZ HB HA CT kd
    go_wp2_with (first | (with_reducible refine wpList_load_rel z0 rfl _ rfl rfl ?_) | (with_reducible refine wpList_store_rel z2 (orR U (thenR A U)) rfl _ _ rfl rfl rfl ?_))
    have h3 := z2.setRow (orR U (thenR A U))
    exact bodyPost_ret (results_rel rfl _ _ _ _ rfl h3) rfl ⟨ret_rel HE.out, below_setRow hb (by omega) _⟩
   ·
    rw [if_pos (by rfl)]
    refine wp_load_rel (HV.out _ kd) _ rfl rfl ?_
    refine hK.out _ _ hS0 (fun _ => ?_)
    clear hK K
    refine wpAnyH_ready (rs := [0, 3]) (by kernel_rfl) (by simp) ?_
    refine AllReadyH.cons rfl (fun K hK => ?_) (AllReadyH.cons rfl (fun K hK => ?_) AllReadyH.nil)
    ·
     rw [if_pos (by rfl)]
     refine wp_load_rel (HV.out _ kd) _ rfl rfl ?_
     refine hK.out _ _ hS0 (fun _ => ?_)
     clear hK K
     refine rD 3 rfl (fun K hK => ?_)
     go_simp
     refine (CT.out _ kd).mono ?_
     rintro e q3 ⟨rfl, hq3⟩
     show K _ _
     have k3 := below_then kd hq3
     have s3 := HA.out _ k3
     refine hK.out _ _ s3 (fun _ => ?_)
     clear hK K
     refine rD 4 rfl (fun K hK => ?_)
     go_simp
     refine (union_any U (thenR A U) _).mono ?_
     rintro e q4 ⟨rfl, hq4⟩
     show K _ _
     have k4 := below_then k3 hq4
     have s4 := HA.out _ k4
     refine hK.out _ _ s4 (fun _ => ?_)
     clear hK K
     refine rD 5 rfl (fun K hK => ?_)
     rw [if_pos (by rfl)]
     refine wp_store_rel (HV.out _ k4) (orR U (thenR A U)) _ _ rfl rfl rfl ?_
     refine hK.out _ _ ((HA.out _ k4).far (by omega) _) (fun _ => ?_)
     clear hK K
     refine wpAnyH_done (by kernel_rfl) ?_ _
     have z0 := (HV.out _ k4).setRow (orR U (thenR A U))
     have z2 := (HZ.out _ k4).far (g' := w.heap.size) (by omega) (rowsA (orR U (thenR A U)))
     have hb := below_setRow (HB.out _ k4) (g := w.heap.size) (by omega) (rowsA (orR U (thenR A U)))
     generalize World.setRow _ _ _ = w5 at *
     clear HV HZ HB HA CT kd
     go_wp2_with (first | (with_reducible refine wpList_load_rel z0 rfl _ rfl rfl ?_) | (with_reducible refine wpList_store_rel z2 (orR U (thenR A U)) rfl _ _ rfl rfl rfl ?_))
     have h3 := z2.setRow (orR U (thenR A U))
     exact bodyPost_ret (results_rel rfl _ _ _ _ rfl h3) rfl ⟨ret_rel HE.out, below_setRow hb (by omega) _⟩
    ·
     go_simp
     refine (CT.out _ kd).mono ?_
     rintro e q5 ⟨rfl, hq5⟩
     show K _ _
     have k5 := below_then kd hq5
     have s5 := HA.out _ k5
     refine hK.out _ _ s5 (fun _ => ?_)
     clear hK K
     refine rD 0 rfl (fun K hK => ?_)
     rw [if_pos (by rfl)]
     refine wp_load_rel (HV.out _ k5) _ rfl rfl ?_
     refine hK.out _ _ s5 (fun _ => ?_)
     clear hK K
     refine rD 4 rfl (fun K hK => ?_)
     go_simp
     refine (union_any U (thenR A U) _).mono ?_
     rintro e q6 ⟨rfl, hq6⟩
     show K _ _
     have k6 := below_then k5 hq6
     have s6 := HA.out _ k6
     refine hK.out _ _ s6 (fun _ => ?_)
     clear hK K
     refine rD 5 rfl (fun K hK => ?_)
     rw [if_pos (by rfl)]
     refine wp_store_rel (HV.out _ k6) (orR U (thenR A U)) _ _ rfl rfl rfl ?_
     refine hK.out _ _ ((HA.out _ k6).far (by omega) _) (fun _ => ?_)
     clear hK K
     refine wpAnyH_done (by kernel_rfl) ?_ _
     have z0 := (HV.out _ k6).setRow (orR U (thenR A U))
     have z2 := (HZ.out _ k6).far (g' := w.heap.size) (by omega) (rowsA (orR U (thenR A U)))
     have hb := below_setRow (HB.out _ k6) (g := w.heap.size) (by omega) (rowsA (orR U (thenR A U)))
     generalize World.setRow _ _ _ = w5 at *
     clear HV HZ HB HA CT kd
     go_wp2_with (first | (with_reducible refine wpList_load_rel z0 rfl _ rfl rfl ?_) | (with_reducible refine wpList_store_rel z2 (orR U (thenR A U)) rfl _ _ rfl rfl rfl ?_))
     have h3 := z2.setRow (orR U (thenR A U))
     exact bodyPost_ret (results_rel rfl _ _ _ _ rfl h3) rfl ⟨ret_rel HE.out, below_setRow hb (by omega) _⟩
end

section
open Go.RowKit
def behB (L : List Int) (j : Nat) : Bool := L.any fun a => a == (j : Int)
def chainR : List Int → Mat
 | [] => noR
 | a :: L => fun x y => chainR L x y || (a == (x : Int) && behB L y)
theorem chain_row (a : Nat) (L : List Int) : rowsA (rowSet (chainR L) a fun j => chainR L a j || behB L j) = rowsA (chainR ((a : Int) :: L)) :=
 rowsA_congr fun i j _ _ => by
  unfold rowSet
  simp only [chainR]
  by_cases h : i = a
  ·subst h; simp
  ·rw [if_neg h]
   have : ((a : Int) == (i : Int)) = false := by rw [beq_eq_false_iff_ne]; omega
   rw [this]; simp
theorem chain_skip (a : Int) (L : List Int) (h : ¬ (0 ≤ a ∧ a < 64)) : rowsA (chainR L) = rowsA (chainR (a :: L)) :=
 rowsA_congr fun i j hi _ => by
  simp only [chainR]
  have : (a == (i : Int)) = false := by rw [beq_eq_false_iff_ne]; omega
  rw [this]; simp
theorem beh_row (a : Nat) (L : List Int) : mkS (fun j => behB L j || decide (j = a)) = mkS (behB ((a : Int) :: L)) :=
 mkS_congr fun j _ => by
  unfold behB
  rw [List.any_cons, Bool.or_comm]
  congr 1
  rw [Bool.eq_iff_iff, decide_eq_true_iff, beq_iff_eq]; omega
theorem beh_skip (a : Int) (L : List Int) (h : ¬ (0 ≤ a ∧ a < 64)) : mkS (behB L) = mkS (behB (a :: L)) :=
 mkS_congr fun j hj => by
  unfold behB
  rw [List.any_cons]
  have : (a == (j : Int)) = false := by rw [beq_eq_false_iff_ne]; omega
  rw [this]; rfl
theorem RelAt.as {w : World} {g : Nat} {t : TypeId} {R S : Mat} (h : RelAt w g t R) (e : rowsA R = rowsA S) : RelAt w g t S := by
 unfold RelAt at *; rw [← e]; exact h
theorem chain_any (va : Value) (l : List Int) (w : World) (ha : Ints w va l) :
  Calls Tryz.prog 153 #[va] w fun e w' => e = .returned (.agg (rowsA (chainR l))) ∧ Below w.heap.size w w' := by
 obtain ⟨ao, cap, rfl, hlen⟩ := ha.form
 have HA : Hid (∀ wx, Below w.heap.size w wx → Ints wx (.slice ao l.length cap) l) := hid (fun wx hb => ha.below hb)
 clear ha
 go_enter Tryz.func153, Tryz.ntmps153
 go_wp2
 go_loopw [4, 5] (fun v i wr => ∃ k : Nat, k ≤ l.length ∧ i = .int .i64 ((k : Int) - 1) ∧ v = .int .u64 ((mkS (behB (l.drop k)) : Nat) : Int) ∧ RelAt wr (w.heap.size + 1) 98 (chainR (l.drop k)) ∧ RelAt wr w.heap.size 98 noR ∧ Below w.heap.size w wr)
  (fun _ i _ => (intOf i + 1).toNat)
 case atStart =>
  refine ⟨l.length, by omega, rfl, ?_, ?_, ?_, ?_⟩
  ·rw [List.drop_length]
   have : mkS (behB []) = 0 := mkS_false
   rw [this]; rfl
  ·rw [List.drop_length]
   exact RelAt.made _ _ noR (by simp) (by rw [rowsA_none]; rfl)
  ·exact (RelAt.made w _ noR rfl (by rw [rowsA_none]; rfl)).alloc _
  ·exact ((Below.refl w.heap.size w).alloc (Nat.le_refl _) _).alloc (by simp) _
 case round =>
  obtain ⟨k, hk, hi, rfl, h1, h0, hb⟩ := hrel
  cases k with
  | zero =>
   obtain rfl : u5 = .int .i64 (-1) := hi
   rw [List.drop_zero] at h1
   go_wp2_with (first
    | (with_reducible refine wpList_load_rel h1 rfl _ rfl rfl ?_)
    | (with_reducible refine wpList_store_rel h0 (chainR l) rfl _ _ rfl rfl rfl ?_))
   have h3 := h0.setRow (chainR l)
   exact bodyPost_ret (results_rel rfl _ _ _ _ rfl h3) rfl ⟨rfl, below_setRow hb (Nat.le_refl _) _⟩
  | succ k =>
   have hi' : (((k + 1 : Nat) : Int) - 1) = (k : Int) := by omega
   rw [hi'] at hi
   subst hi
   have hki : (k : Int) < (l.length : Int) := by omega
   have hlt : k < l.length := by omega
   have hd : l.drop k = l[k] :: l.drop (k + 1) := List.drop_eq_getElem_cons hlt
   have HD := hid hd
   clear hd
   have HC := hid (fun (wx : World) (hbx : Below w.heap.size w wx) => (HA.out wx hbx).at hlt)
   obtain ⟨p, off, hao, hc⟩ := HC.out _ hb
   cases hao
   generalize l[k] = a at *
   generalize l.drop (k + 1) = L at *
   by_cases ha : 0 ≤ a ∧ a < 64
   ·obtain ⟨n, rfl⟩ := Int.eq_ofNat_of_zero_le ha.1
    have hn : n < 64 := by omega
    have hc1 := h1.cell hn
    have hf := h1.free n
    have HO := u64_or (chainR L n) (behB L)
    have CM := hid (fun wx => may_yes (n : Int) wx ha)
    have HROW := hid (chain_row n L)
    have CW := hid (fun wx => with_any (mkS (behB L)) (n : Int) wx (isSet_mkS _))
    have HBEH := hid ((withS_mkS (behB L) n hn).trans (beh_row n L))
    have HN := hid (h1.store n _ (fun j => chainR L n j || behB L j) rfl)
    have H0 := hid (h0.other (k := ⟨w.heap.size + 1, n, none⟩) (by simp) (.int .u64 ((mkS (fun j => chainR L n j || behB L j) : Nat) : Int)))
    have HB := hid (hb.setCell (p := ⟨w.heap.size + 1, n, none⟩) (by simp) (.int .u64 ((mkS (fun j => chainR L n j || behB L j) : Nat) : Int)))
    clear h1 h0 ha
    generalize mkS (fun j => chainR L n j || behB L j) = z at *
    generalize mkS (chainR L n) = x at *
    generalize mkS (behB L) = y at *
    have hn64 : (n : Int) < 64 := by omega
    go_wp2_with fail
    refine (CM.out _).mono ?_
    rintro e w' ⟨rfl, rfl⟩
    obtain ⟨_, _, hao2, hc2⟩ := HC.out _ HB.out
    cases hao2
    go_wp2_with fail
    refine (CW.out _).mono ?_
    rintro e w' ⟨rfl, rfl⟩
    go_wp2_with fail
    go_roundw
    case rel => exact ⟨k, by omega, by go_num, by rw [HD.out, ← HBEH.out], by rw [HD.out]; exact (RelAt.as HN.out HROW.out), H0.out, HB.out⟩
    case measure => (simp [intOf]) <;> omega
   ·have CM := hid (fun wx => may_no a wx ha)
    have HROW := hid (chain_skip a L ha)
    have HBEH := hid (beh_skip a L ha)
    have H1 := hid h1
    have H0 := hid h0
    clear h1 h0 ha
    generalize mkS (behB L) = y at *
    go_wp2_with fail
    refine (CM.out _).mono ?_
    rintro e w' ⟨rfl, rfl⟩
    go_wp2_with fail
    go_roundw
    case rel => exact ⟨k, by omega, by go_num, by rw [HD.out, ← HBEH.out], by rw [HD.out]; exact (RelAt.as H1.out HROW.out), H0.out, hb⟩
    case measure => (simp [intOf]) <;> omega
end

end Go.Proofs.YtmcicfdnmfbimaaGreatDoor
