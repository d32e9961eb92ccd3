/- Walks and plain facts that the proof of the statement CanonNames uses, joined: CanN. Conditions: each theorem's own. -/
import Derived.Test.YtipmfhgdeghmjaaGreatPCanonNames4
namespace Go.Proofs.YtipmfhgdeghmjaaGreat
set_option maxHeartbeats 32000000
set_option maxRecDepth 100000
set_option linter.unusedSimpArgs false
set_option linter.unusedVariables false
open Lib (hid)
section
open Go.RowKit
theorem cnames22_walk (va vk vs vv vt vo : Value) (h : List TxnV) (lk ls lv lt : List (Int × Int)) (L : List Int) (w : World) (hT : Txns w va h) (hok : ∀ t ∈ h, t.ok) (hsh : Short h)
  (hk : PrN w vk lk) (hs : PrN w vs ls) (hv : PrN w vv lv) (ht : PrN w vt lt) (ho : Ints w vo L) (ik : ∀ p ∈ lk, IntOk p.1 ∧ IntOk p.2) (is : ∀ p ∈ ls, IntOk p.1 ∧ IntOk p.2) (iv : ∀ p ∈ lv, IntOk p.1 ∧ IntOk p.2) (it : ∀ p ∈ lt, IntOk p.1 ∧ IntOk p.2) (nk : lk.length ≤ 9000000000000) (ns : ls.length ≤ 9000000000000) (nv : lv.length ≤ 9000000000000) (nt : lt.length ≤ 9000000000000) :
  Calls Tryz.prog 3 #[va, .agg #[vk, vs, vv, vt, vo]] w fun e w' => e = .returned (.bool true) ∧ Below w.heap.size w w' := by
 have HH := hid (fun wx (hx : Below w.heap.size w wx) => hT.below hx)
 have CM := hid (fun (nk : lk.length ≤ 100000) (ns : ls.length ≤ 100000) (nv : lv.length ≤ 100000) (nt : lt.length ≤ 100000) wx (hx : Below w.heap.size w wx) => map21_any vk vs vv vt vo lk ls lv lt L wx (hk.below hx) (hs.below hx) (hv.below hx) (ht.below hx) (ho.below hx) (fun p hp => inI_of (ik p hp).1) (fun p hp => inI_of (is p hp).1) (fun p hp => inI_of (iv p hp).1) (fun p hp => inI_of (it p hp).1) nk ns nv nt)
 have HOL := hid (fun wx (hx : Below w.heap.size w wx) => ho.below hx)
 have fk := hid (okN_of fun p hp => (ik p hp).2)
 have fs := hid (okN_of fun p hp => (is p hp).2)
 have fv := hid (okN_of fun p hp => (iv p hp).2)
 have ft := hid (okN_of fun p hp => (it p hp).2)
 obtain ⟨ha, cap, rfl, hal⟩ := hT.form
 obtain ⟨ak, ck, rfl, _⟩ := hk.form
 obtain ⟨az, cs, rfl, _⟩ := hs.form
 obtain ⟨av, cv, rfl, _⟩ := hv.form
 obtain ⟨at_, ct, rfl, _⟩ := ht.form
 obtain ⟨ao, co, rfl, _⟩ := ho.form
 have HOK := hid hok
 have HSH := hid hsh
 have hx0 := BoxN.new w 26 #[.slice ak lk.length ck, .slice az ls.length cs, .slice av lv.length cv, .slice at_ lt.length ct, .slice ao L.length co]
 have hb0 := box_below w (.cells #[.slice ak lk.length ck, .slice az ls.length cs, .slice av lv.length cv, .slice at_ lt.length ct, .slice ao L.length co] 26)
 clear hT hok hk hs hv ht ho ik is iv it
 go_enter Tryz.func3, Tryz.ntmps3
 go_upto_region 1 with fail
 generalize w.alloc (.cells #[.slice ak lk.length ck, .slice az ls.length cs, .slice av lv.length cv, .slice at_ lt.length ct, .slice ao L.length co] 26) = w0 at *
 have HX := hid hx0
 have HSUM2 := hid (nm_sum2 nk ns nv nt)
 have C0 := hid (speaks22_any w0)
 clear hx0 nk ns nv nt
 go_wp2_with fail
 refine (C0.out).mono ?_
 rintro e w1 ⟨rfl, h1⟩
 have hb1 := below_then hb0 h1
 have HX := hid (HX.out.below h1)
 clear C0 h1 hb0
 by_cases h5 : 8 < h.length
 ·have h5i : (8 : Int) < (h.length : Int) := by omega
  clear hsh
  go_wp2_with fail
  go_ret
  exact ⟨rfl, hb1⟩
 have h5i : ¬ (8 : Int) < (h.length : Int) := by omega
 have CC := hid (rcheck_any _ h w1 (HH.out _ hb1) hsh)
 rw [← check_ref] at CC
 by_cases hc : checkI h = 0
 rotate_left
 ·have hcn : ¬ checkI h = 0 := hc
  generalize checkI h = c at *
  have hcb : (c != 0) = true := by rw [bne_iff_ne]; exact hcn
  clear hsh hc
  go_wp2_with fail
  refine (CC.out).mono ?_
  rintro e w2 ⟨rfl, hb2⟩
  have hb2 := below_then hb1 hb2
  go_wp2_with fail
  go_ret
  exact ⟨rfl, hb2⟩
 rw [hc] at CC
 go_wp2_with fail
 refine (CC.out).mono ?_
 rintro e w2 ⟨rfl, h2⟩
 have hb2 := below_then hb1 h2
 have HX := hid (HX.out.below h2)
 have y0 := HX.out.cell (i := 0) rfl
 have y1 := HX.out.cell (i := 1) rfl
 have y2 := HX.out.cell (i := 2) rfl
 have y3 := HX.out.cell (i := 3) rfl
 have y4 := HX.out.cell (i := 4) rfl
 clear CC h2 hb1
 obtain ⟨s1', s2', s3'⟩ := HSUM2.out
 by_cases hs2 : 200 < lk.length + ls.length + lv.length + lt.length
 ·have hs2i : (200 : Int) < (lk.length : Int) + (ls.length : Int) + (lv.length : Int) + (lt.length : Int) := nm_gt hs2
  clear hsh
  go_wp2_with fail
  go_ret
  exact ⟨rfl, hb2⟩
 have hs2i : ¬ (200 : Int) < (lk.length : Int) + (ls.length : Int) + (lv.length : Int) + (lt.length : Int) := nm_le hs2
 by_cases hl5 : 50 < L.length
 ·have hl5i : (50 : Int) < (L.length : Int) := Int.ofNat_lt.2 hl5
  clear hsh
  go_wp2_with fail
  go_ret
  exact ⟨rfl, hb2⟩
 have hl5i : ¬ (50 : Int) < (L.length : Int) := fun q => hl5 (Int.ofNat_lt.1 q)
 have HNB : Hid (lk.length ≤ 200 ∧ ls.length ≤ 200 ∧ lv.length ≤ 200 ∧ lt.length ≤ 200 ∧ L.length ≤ 100) := hid (nm_few hs2 hl5)
 have CM3 := hid (CM.out (le5 HNB.out.1) (le5 HNB.out.2.1) (le5 HNB.out.2.2.1) (le5 HNB.out.2.2.2.1) _ hb2)
 clear CM HSUM2
 go_wp2_with fail
 refine CM3.out.mono ?_
 rintro e w4 ⟨⟨uK, uS, uV, uT, rfl, hN⟩, h4⟩
 have hb4 := below_then hb2 h4
 have CA := hid (rapply_any _ uK uS uV uT _ (ofF lk) (ofF ls) (ofF lv) (ofF lt) L h w4 hN (HOL.out _ hb4) (le5 HNB.out.2.2.2.2) (HH.out _ hb4) HOK.out HSH.out fk.out fs.out fv.out ft.out)
 clear CM3 h4 hb2 hN y0 y1 y2 y3 y4 HOL HNB fk fs fv ft HX s1' s2' s3' hs2 hs2i hl5 hl5i
 go_wp2_with fail
 refine CA.out.mono ?_
 rintro e w5 ⟨hq, h5'⟩
 have hb5 := below_then hb4 h5'
 clear CA h5' hb4
 rcases hq with ⟨hap, v, rfl, c, hM, hce⟩ | ⟨_, rfl⟩
 case inr =>
  go_wp2_with fail
  go_ret
  exact ⟨rfl, hb5⟩
 have HTX := hid (fun wx (hx : Below w5.heap.size w5 wx) => hM.txns.below hx)
 obtain ⟨xa, xc, rfl, _⟩ := hM.txns.form
 have hcc := app_check hap hce
 obtain ⟨s, hs⟩ := srt_some hc
 obtain ⟨u, hu⟩ := srt_some hcc
 have hcan := app_can hap hce hs hu
 have HCC := hid hcc
 have HC := hid hc
 have HS := hid hs
 have HU := hid hu
 have HCAN := hid hcan
 have HH5 := hid (fun wx (hx : Below w5.heap.size w5 wx) => HH.out wx (below_then hb5 hx))
 have HB5 := hid hb5
 have CSM := hid (cansame_ok _ _ h c s u w5 (HH5.out _ (Below.refl _ _)) HOK.out HSH.out hc hs hM.txns (can_ok hcc) (can_short hcc) hcc hu)
 rw [hcan, show decide (canE (s.map txE) = canE (s.map txE)) = true from decide_eq_true rfl] at CSM
 clear hM hap hce hcc hc hsh HH hb5 hs hu hcan
 go_wp2_with fail
 refine CSM.out.mono ?_
 rintro e w6 ⟨rfl, h6⟩
 have CN := hid (canof_ok _ c w6 (HTX.out _ h6) (can_ok HCC.out) (can_short HCC.out) HCC.out)
 clear CSM
 go_wp2_with fail
 refine CN.out.mono ?_
 rintro e w7 ⟨⟨vd, d, u2, rfl, hCp, hu2, hde⟩, h7⟩
 have h67 := below_then h6 h7
 rw [srt_eq hu2 HU.out, HCAN.out] at hde
 have hd := hCp.txns
 have HDE := hid hde
 have CW := hid (rof22_any _ h w7 (HH5.out _ h67) HC.out)
 clear CN hCp hu2 hde h6 h7
 go_wp2_with fail
 refine CW.out.mono ?_
 rintro e w8 ⟨⟨vw, cw, s3, rfl, hTw, hs3, hcw⟩, h8⟩
 have h68 := below_then h67 h8
 rw [srt_eq hs3 HS.out] at hcw
 have CS := hid (sameH_any vd vw d cw w8 (hd.below h8) hTw)
 rw [show sameH d cw = true from by unfold sameH; rw [HDE.out, hcw]; simp] at CS
 have HZ := hid (below_then HB5.out h68)
 clear CW hTw hs3 hcw h8 h67 h68 hd
 go_wp2_with fail
 refine CS.out.mono ?_
 rintro e w9 ⟨rfl, h9⟩
 have hz := below_then HZ.out h9
 clear CS h9
 go_wp2_with fail
 go_ret
 exact ⟨rfl, hz⟩
end

end Go.Proofs.YtipmfhgdeghmjaaGreat
