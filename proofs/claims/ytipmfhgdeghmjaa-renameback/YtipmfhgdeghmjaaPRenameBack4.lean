/- Walks and plain facts that the proof of the statement RenameBack uses, joined: RenS. Conditions: each theorem's own. -/
import Derived.Maps.AppendAt
import Derived.Test.YtipmfhgdeghmjaaPRenameBack2
import Derived.Test.YtipmfhgdeghmjaaPRenameBack3
namespace Go.Proofs.Ytipmfhgdeghmjaa
set_option maxHeartbeats 32000000
set_option maxRecDepth 100000
set_option linter.unusedSimpArgs false
set_option linter.unusedVariables false
open Lib (hid)
section
open Go.RowKit
theorem infoPair21 : (Try.prog.info? 40).map (fun i => (i.zero, i.size, i.bytes)) = some (some (.agg #[.int .i64 0, .int .i64 0]), 2, 16) := by kernel_rfl
theorem own_apart {w : World} {b : Nat} {e : TypeId} {s m : Nat} {v u : Value} {I : List Int} {xs : List Value} (h : IntO w b v I) (k : w.ownsRow b e s u m xs) (hne : 3 ≠ e) : v.ownBlock = none ∨ v.ownBlock ≠ u.ownBlock := by
 rcases k.2 with ⟨rfl, _⟩ | ⟨g, c, cur, rfl, _, hh, _⟩
 ·cases hv : v.ownBlock with
  | none => exact .inl rfl
  | some g => exact .inr (fun e => by cases e)
 ·exact owns_no_box (p := g) (t := e) (cs := cur) h hh hne
theorem R4P.row {w w' : World} {b : Nat} {v0 v1 v2 v3 u : Value} {L0 L1 L2 L3 : List (Int × Int)} {n g : Nat} {xs : List Value} (h : R4P w b v0 v1 v2 v3 L0 L1 L2 L3) (k : w.ownsRow b 3 1 u n xs) (hu : u.ownBlock = some g) (hg : w.grownBy w' (some g)) : R4P w' b v0 v1 v2 v3 L0 L1 L2 L3 := by
 rcases k.2 with ⟨rfl, _⟩ | ⟨g2, c, cur, rfl, _, hh, _⟩
 ·cases hu
 ·obtain rfl : g2 = g := by simpa [Value.ownBlock] using hu
  exact h.box (p := g2) (t := 3) (cs := cur) hh (by decide) hg
theorem made_zero (n : Nat) : (madeCells #[.int .i64 0] n).toList = (List.replicate n (0 : Int)).map (Value.int .i64) := by
 refine List.ext_getElem (by simp [size_madeCells]) fun i h1 h2 => ?_
 simp [madeCells, Nat.mod_one]
theorem setcell_far (w : World) (a : Addr) (u : Value) : Below a.block w (w.setCell a u) := (Below.refl a.block w).setCell (Nat.le_refl _) u
set_option linter.unusedSimpArgs false in
theorem rback21_walk (va vk vs vv vt vo : Value) (h : List TxnV) (lk ls lv lt : List (Int × Int)) (L : List Int) (w : World) (hT : Txns w va h) (hok : ∀ t ∈ h, t.ok) (hsh : Short h)
  (hk : PrN w vk lk) (hs : PrN w vs ls) (hv : PrN w vv lv) (ht : PrN w vt lt) (ho : Ints w vo L) (ik : ∀ p ∈ lk, IntOk p.1 ∧ IntOk p.2) (is : ∀ p ∈ ls, IntOk p.1 ∧ IntOk p.2) (iv : ∀ p ∈ lv, IntOk p.1 ∧ IntOk p.2) (it : ∀ p ∈ lt, IntOk p.1 ∧ IntOk p.2) :
  Calls Try.prog 3 #[va, .agg #[vk, vs, vv, vt, vo]] w fun e w' => e = .returned (.bool true) ∧ Below w.heap.size w w' := by
 have HH := hid (fun wx (hx : Below w.heap.size w wx) => hT.below hx)
 have CB := hid (fun wx (hx : Below w.heap.size w wx) => big21_any vk vs vv vt vo lk ls lv lt L wx (hk.below hx) (hs.below hx) (hv.below hx) (ht.below hx) (ho.below hx))
 have CM := hid (fun (nk : lk.length ≤ 100000) (ns : ls.length ≤ 100000) (nv : lv.length ≤ 100000) (nt : lt.length ≤ 100000) wx (hx : Below w.heap.size w wx) => map21_any vk vs vv vt vo lk ls lv lt L wx (hk.below hx) (hs.below hx) (hv.below hx) (ht.below hx) (ho.below hx) (fun p hp => inI_of (ik p hp).1) (fun p hp => inI_of (is p hp).1) (fun p hp => inI_of (iv p hp).1) (fun p hp => inI_of (it p hp).1) nk ns nv nt)
 have HOL := hid (fun wx (hx : Below w.heap.size w wx) => ho.below hx)
 have fk := hid (okN_of fun p hp => (ik p hp).2)
 have fs := hid (okN_of fun p hp => (is p hp).2)
 have fv := hid (okN_of fun p hp => (iv p hp).2)
 have ft := hid (okN_of fun p hp => (it p hp).2)
 obtain ⟨ha, cap, rfl, hal⟩ := hT.form
 obtain ⟨ak, ck, rfl, _⟩ := hk.form
 obtain ⟨az, cs, rfl, _⟩ := hs.form
 obtain ⟨av, cv, rfl, _⟩ := hv.form
 obtain ⟨at_, ct, rfl, _⟩ := ht.form
 obtain ⟨ao, co, rfl, _⟩ := ho.form
 have HOK := hid hok
 have HSH := hid hsh
 have hx0 := BoxN.new w 26 #[.slice ak lk.length ck, .slice az ls.length cs, .slice av lv.length cv, .slice at_ lt.length ct, .slice ao L.length co]
 have hb0 := box_below w (.cells #[.slice ak lk.length ck, .slice az ls.length cs, .slice av lv.length cv, .slice at_ lt.length ct, .slice ao L.length co] 26)
 clear hT hok hk hs hv ht ho ik is iv it
 go_enter Try.func3, Try.ntmps3
 go_upto_region 1 with fail
 generalize w.alloc (.cells #[.slice ak lk.length ck, .slice az ls.length cs, .slice av lv.length cv, .slice at_ lt.length ct, .slice ao L.length co] 26) = w0 at *
 have HX := hid hx0
 have C0 := hid (speaks21_any w0)
 clear hx0
 go_wp2_with fail
 refine (C0.out).mono ?_
 rintro e w1 ⟨rfl, h1⟩
 have hb1 := below_then hb0 h1
 have HX := hid (HX.out.below h1)
 clear C0 h1 hb0
 by_cases h5 : 8 < h.length
 ·have h5i : (8 : Int) < (h.length : Int) := by omega
  clear hsh
  go_wp2_with fail
  go_ret
  exact ⟨rfl, hb1⟩
 have h5i : ¬ (8 : Int) < (h.length : Int) := by omega
 have CC := hid (rcheck_any _ h w1 (HH.out _ hb1) hsh)
 rw [← check_ref] at CC
 by_cases hc : checkI h = 0
 rotate_left
 ·have hcn : ¬ checkI h = 0 := hc
  generalize checkI h = c at *
  have hcb : (c != 0) = true := by rw [bne_iff_ne]; exact hcn
  clear hsh hc
  go_wp2_with fail
  refine (CC.out).mono ?_
  rintro e w2 ⟨rfl, hb2⟩
  have hb2 := below_then hb1 hb2
  go_wp2_with fail
  go_ret
  exact ⟨rfl, hb2⟩
 rw [hc] at CC
 go_wp2_with fail
 refine (CC.out).mono ?_
 rintro e w2 ⟨rfl, h2⟩
 have hb2 := below_then hb1 h2
 have HX := hid (HX.out.below h2)
 have y0 := HX.out.cell (i := 0) rfl
 have y1 := HX.out.cell (i := 1) rfl
 have y2 := HX.out.cell (i := 2) rfl
 have y3 := HX.out.cell (i := 3) rfl
 have y4 := HX.out.cell (i := 4) rfl
 have CB2 := hid (CB.out _ hb2)
 clear CB CC h2 hb1
 obtain ⟨q, hq⟩ : ∃ q, decide (bigN lk ls lv lt L) = q := ⟨_, rfl⟩
 rw [hq] at CB2
 have HQ := hid hq
 clear hq
 go_wp2_with fail
 refine CB2.out.mono ?_
 rintro e w3 ⟨rfl, h3⟩
 have hb3 := below_then hb2 h3
 have HX := hid (HX.out.below h3)
 clear CB2 h3 hb2 y0 y1 y2 y3 y4
 cases q with
 | true =>
  go_wp2_with fail
  go_ret
  exact ⟨rfl, hb3⟩
 | false =>
 have hnb : ¬ bigN lk ls lv lt L := of_decide_eq_false HQ.out
 have HNB : Hid (lk.length ≤ 50 ∧ ls.length ≤ 50 ∧ lv.length ≤ 50 ∧ lt.length ≤ 50 ∧ L.length ≤ 100) := hid (by unfold bigN at hnb; omega)
 have CM3 := hid (CM.out (by have := HNB.out; omega) (by have := HNB.out; omega) (by have := HNB.out; omega) (by have := HNB.out; omega) _ hb3)
 have y0 := HX.out.cell (i := 0) rfl
 have y1 := HX.out.cell (i := 1) rfl
 have y2 := HX.out.cell (i := 2) rfl
 have y3 := HX.out.cell (i := 3) rfl
 have y4 := HX.out.cell (i := 4) rfl
 clear CM HQ hnb
 go_wp2_with fail
 refine CM3.out.mono ?_
 rintro e w4 ⟨⟨uK, uS, uV, uT, rfl, hN⟩, h4⟩
 have hb4 := below_then hb3 h4
 have CA := hid (rapply_any _ uK uS uV uT _ (ofF lk) (ofF ls) (ofF lv) (ofF lt) L h w4 hN (HOL.out _ hb4) (by have := HNB.out; omega) (HH.out _ hb4) HOK.out HSH.out fk.out fs.out fv.out ft.out)
 have HX5 := hid (fun wx (hx : Below w4.heap.size w4 wx) => (HX.out.below h4).below hx)
 clear CM3 h4 hb3 hN y0 y1 y2 y3 y4 HNB fk fs fv ft
 go_wp2_with fail
 refine CA.out.mono ?_
 rintro e w5 ⟨hq, h5'⟩
 have hb5 := below_then hb4 h5'
 have HX6 := hid (HX5.out _ h5')
 have h4s := hb4.size
 clear CA hb4 HX5
 rcases hq with ⟨hap, v, rfl, c, hM, hce⟩ | ⟨_, rfl⟩
 case inr =>
  go_wp2_with fail
  go_ret
  exact ⟨rfl, hb5⟩
 have HTX := hid (fun wx (hx : Below w5.heap.size w5 wx) => hM.txns.below hx)
 obtain ⟨xa, xc, rfl, _⟩ := hM.txns.form
 have hcc := app_check hap hce
 have he := hce.trans (namL_turn _ _ _ _ _ _)
 have hcl : c.length = h.length := by have q := congrArg List.length hce; rw [List.length_map, namL_len] at q; exact q
 rw [hcl] at HTX
 rw [hcl]
 have hw := hap.2.1
 have h5z := h5'.size
 clear h5'
 have HXF := hid (fun wx (hx : Below w5.heap.size w5 wx) => HX6.out.below hx)
 by_cases hz0n : h.length = 0
 ·have hzz : ((h.length : Int) == 0) = true := by rw [beq_iff_eq]; omega
  clear hsh hcl he hce hap hw hM
  go_wp2_with fail
  go_ret
  exact ⟨rfl, hb5⟩
 have hzz : ((h.length : Int) == 0) = false := by rw [beq_eq_false_iff_ne]; omega
 have hpos : 0 < h.length := by omega
 obtain ⟨i0, hi, hz0, hz1, hz2⟩ := info_parts infoPair21
 have HPO := hid (whole_ord hw)
 have HPOS : Hid (0 < h.length) := hid hpos
 have HBA := hid (back_app hap hce hpos)
 obtain ⟨g, hg⟩ : ∃ g, g = turnL L h := ⟨_, rfl⟩
 rw [← hg] at HBA he
 have hgl : g.length = h.length := by rw [hg, turnL_len]
 have HGA : Hid (∀ k (hk : k < h.length), ∃ hi : ixO L k < h.length, g[k]? = some (h[ixO L k]'hi)) := hid (fun k hk => ⟨ixO_lt hw hk, by
  rw [hg, List.getElem?_eq_getElem (by rw [turnL_len]; exact hk)]
  exact congrArg some (turnL_at hw hk)⟩)
 have HLE : Hid (∀ (k : Nat) (cx gx : TxnV), c[k]? = some cx → g[k]? = some gx → cx.l.length = gx.l.length) := hid (fun k cx gx h1 h2 => by
  have q := congrArg (fun l => l[k]?) he
  simp only [List.getElem?_map, h1, h2, Option.map_some] at q
  have q := Option.some.inj q
  rw [(ren_s q).2.2.2, List.length_map])
 have HOI := hid (bk_ints (c := c) (g := g) (fun t ht => can_ok hcc t ht) (fun t ht => HOK.out t ((turnL_perm hw).mem_iff.1 (by rw [← hg]; exact ht))))
 obtain ⟨Z, hZ⟩ : ∃ Z, Z = c.zip g := ⟨_, rfl⟩
 have hZl : Z.length = h.length := by rw [hZ, List.length_zip]; omega
 have HZA : Hid (∀ (k : Nat) (cx gx : TxnV), c[k]? = some cx → g[k]? = some gx → Z[k]? = some (cx, gx)) := hid (fun k cx gx h1 h2 => by rw [hZ]; exact List.getElem?_zip_eq_some.2 ⟨h1, h2⟩)
 have hopc : opsN c ≤ 1024 := (checkI_right hcc).2.1
 have HKL : Hid (∀ F k j, (kbT F Z k j).length ≤ 1024) := hid (fun F k j => by rw [hZ]; exact Nat.le_trans (kbT_len F c g k j) hopc)
 rw [← hZ] at HBA HOI
 have HSL : Hid (∀ k, (bkS (Z.take k)).length ≤ 8) := hid (fun k => by have := bkS_len Z k; omega)
 have HTL : Hid (∀ k, (bkT (Z.take k)).length ≤ 16) := hid (fun k => by have := bkT_len Z k; omega)
 have HWH := hid hw
 have HCC := hid hcc
 have HCL := hid hcl
 have HZL := hid hZl
 have HH5 := hid (fun wx (hx : Below w5.heap.size w5 wx) => HH.out wx (below_then hb5 hx))
 have HO5 := hid (fun wx (hx : Below w5.heap.size w5 wx) => HOL.out wx (below_then hb5 hx))
 have HB5 := hid hb5
 have H8 : Hid (h.length ≤ 8) := hid (by omega)
 have h8 : h.length ≤ 8 := by omega
 have hb6 := box_below w5 (.cells #[.slice none 0 0, .slice none 0 0, .slice none 0 0, .slice none 0 0, .slice none 0 0] 26)
 have hx6 := BoxN.new w5 26 #[.slice none 0 0, .slice none 0 0, .slice none 0 0, .slice none 0 0, .slice none 0 0]
 clear hM hap hce he hg hcc hw hc hsh HH HOL hb5 hZ hgl hopc hpos hzz HX6 HX
 go_upto_region 9 with fail
 generalize w5.alloc (.cells #[.slice none 0 0, .slice none 0 0, .slice none 0 0, .slice none 0 0, .slice none 0 0] 26) = w6 at *
 obtain ⟨p7, hp7⟩ : ∃ p, w5.heap.size = p := ⟨_, rfl⟩
 have hp7b : w5.heap.size ≤ p7 := by omega
 have hbs : w.heap.size < p7 := by have := (HXF.out _ (Below.refl _ _)).lt; omega
 rw [hp7] at hx6 ⊢
 have hlt7 : p7 < w6.heap.size := hx6.lt
 have hbm := box_below w6 (.cells (madeCells #[.int .i64 0] h.length) 3)
 have hxm := hx6.below hbm
 have hom := World.ownsRow_lit (e := 3) (base := w5.heap.size) (size := 1) w6 (madeCells #[.int .i64 0] h.length) h.length hb6.size (by unfold maxLen; omega) (by rw [size_madeCells, Nat.mul_one])
 obtain ⟨g4, hg4⟩ : ∃ g, w6.heap.size = g := ⟨_, rfl⟩
 rw [hg4] at hom
 have hcx := hxm.cell (i := 4) rfl
 have hfx := hxm.free 4
 have HBX0 : Hid (BoxN ((w6.alloc (.cells (madeCells #[.int .i64 0] h.length) 3)).setCell ⟨p7, 4, none⟩ (.slice (some ⟨g4, 0, none⟩) h.length h.length)) p7 26 #[.slice none 0 0, .slice none 0 0, .slice none 0 0, .slice none 0 0, (.slice (some ⟨g4, 0, none⟩) h.length h.length)]) := hid (hxm.set 4 (.slice (some ⟨g4, 0, none⟩) h.length h.length))
 have HI0 : Hid (IntO ((w6.alloc (.cells (madeCells #[.int .i64 0] h.length) 3)).setCell ⟨p7, 4, none⟩ (.slice (some ⟨g4, 0, none⟩) h.length h.length)) w5.heap.size (.slice (some ⟨g4, 0, none⟩) h.length h.length) (bkO L h.length 0)) := hid (by
  unfold IntO
  rw [bkO_len, bkO_zero]
  have q := World.ownsRow.kept hom (grown_set _ ⟨p7, 4, none⟩ (.slice (some ⟨g4, 0, none⟩) h.length h.length)) (owns_no_box hom hxm (by decide))
  rwa [made_zero] at q)
 have HB0 := hid ((below_then hb6 hbm).setCell (p := ⟨p7, 4, none⟩) (by show w5.heap.size ≤ p7; omega) (.slice (some ⟨g4, 0, none⟩) h.length h.length))
 obtain ⟨i1, hi1, hw0, hw1, hw2⟩ := info_parts infoInt
 clear hb6 hx6 hbm hxm hom hp7
 go_upto_region 10 with (at_make; go_loud (refine wpList_make_row _ rfl _ _ 24 rfl 3 i1 (.int .i64 0) Try.underlying24 hi1 hw0 hw1 rfl .i64 .i64 h.length rfl rfl ?b2 ?b3 ?_))
 case b2 => rw [hw2]; omega
 case b3 => omega
 try rw [hg4]
 clear hcx hfx
 generalize (w6.alloc (.cells (madeCells #[.int .i64 0] h.length) 3)).setCell ⟨p7, 4, none⟩ (.slice (some ⟨g4, 0, none⟩) h.length h.length) = W0 at *
 clear hlt7
 have HR0 : Hid (R4P W0 w5.heap.size (.slice none 0 0) (.slice none 0 0) (.slice none 0 0) (.slice none 0 0) (kbT OpV.key Z 0 0) (bkS (Z.take 0)) (kbT OpV.val Z 0 0) (bkT (Z.take 0))) := hid (by rw [kbT_zero, kbT_zero]; exact R4P.nil _ _)
 go_wp2_with fail
 go_loopw [50] (fun i wr => ∃ (k : Nat) (vk vs vv vt : Value), k ≤ h.length ∧ i = .int .i64 (k : Int) ∧ Hid (BoxN wr p7 26 #[vk, vs, vv, vt, (.slice (some ⟨g4, 0, none⟩) h.length h.length)]) ∧ Hid (R4P wr w5.heap.size vk vs vv vt (kbT OpV.key Z k 0) (bkS (Z.take k)) (kbT OpV.val Z k 0) (bkT (Z.take k))) ∧ Hid (IntO wr w5.heap.size (.slice (some ⟨g4, 0, none⟩) h.length h.length) (bkO L h.length k)) ∧ Hid (Below w5.heap.size w5 wr)) (fun i _ => h.length - (intOf i).toNat)
 case atStart => exact ⟨0, _, _, _, _, by omega, rfl, HBX0, HR0, HI0, HB0⟩
 case round =>
  clear HBX0 HR0 HI0 HB0
  obtain ⟨k, vk, vs, vv, vt, hk, rfl, HBX, HR, HI, HB⟩ := hrel
  by_cases hlt : k < h.length
  ·have hcl := HCL.out
   have hki : (k : Int) < (h.length : Int) := by omega
   have hkc : k < c.length := by omega
   obtain ⟨gx, ox, hgx, a0, a1, a2, a3⟩ := (HTX.out _ HB.out).at hkc
   cases hgx
   have HOPX := hid (fun wx (hx : Below w5.heap.size w5 wx) => (HTX.out wx hx).ops hkc)
   obtain ⟨xo, xoc, hov, _⟩ := (HOPX.out _ HB.out).form
   obtain ⟨m, hm, hmi, hgm⟩ : ∃ m, ∃ _ : ixO L k = m, ∃ hmi : m < h.length, g[k]? = some (h[m]'hmi) := ⟨_, rfl, HGA.out k hlt⟩
   have hck : c[k]? = some (c[k]'hkc) := List.getElem?_eq_getElem hkc
   have hle := HLE.out k _ _ hck hgm
   obtain ⟨hkz, hzk⟩ := List.getElem?_eq_some_iff.1 (HZA.out k _ _ hck hgm)
   have HOPT := hid (fun wx (hx : Below w5.heap.size w5 wx) => (HH5.out wx hx).ops hmi)
   obtain ⟨to0, tnc, htv, _⟩ := (HOPT.out _ HB.out).form
   have HSS : Hid ((bkS (Z.take (k + 1))) = (bkS (Z.take k)) ++ [((c[k]'hkc).s, (h[m]'hmi).s)]) := hid (by rw [bkS_succ hkz, hzk])
   have HST : Hid ((bkT (Z.take (k + 1))) = (bkT (Z.take k)) ++ [((c[k]'hkc).b, (h[m]'hmi).b), ((c[k]'hkc).c, (h[m]'hmi).c)]) := hid (by rw [bkT_succ hkz, hzk])
   have HKS : Hid (∀ F j (h1 : j < (c[k]'hkc).l.length) (h2 : j < (h[m]'hmi).l.length), kbT F Z k (j + 1) = kbT F Z k j ++ [(F ((c[k]'hkc).l[j]'h1), F ((h[m]'hmi).l[j]'h2))]) := hid (fun F j h1 h2 => by
    have e1 : Z[k].1 = c[k]'hkc := by rw [hzk]
    have e2 : Z[k].2 = h[m]'hmi := by rw [hzk]
    have q := kbT_succ (F := F) (j := j) hkz (by rw [e1]; exact h1) (by rw [e2]; exact h2)
    simp only [e1, e2] at q
    exact q)
   have HKD : Hid (∀ F, kbT F Z k (c[k]'hkc).l.length = kbT F Z (k + 1) 0) := hid (fun F => by
    have e1 : Z[k].1 = c[k]'hkc := by rw [hzk]
    have e2 : Z[k].2 = h[m]'hmi := by rw [hzk]
    have q := kbT_done (F := F) hkz (by rw [e1, e2]; exact hle)
    rwa [e1] at q)
   have HCT : Hid (∀ wx, Below w5.heap.size w5 wx → ∃ gt ot, ha = some ⟨gt, ot, none⟩ ∧ wx.cell? ⟨gt, ot + m * 4, none⟩ = some (.int .i64 (h[m]'hmi).s) ∧ wx.cell? ⟨gt, ot + m * 4 + 1, none⟩ = some (.int .i64 (h[m]'hmi).b) ∧ wx.cell? ⟨gt, ot + m * 4 + 2, none⟩ = some (.int .i64 (h[m]'hmi).c) ∧ wx.cell? ⟨gt, ot + m * 4 + 3, none⟩ = some (h[m]'hmi).v) := hid (fun wx hx => (HH5.out wx hx).at hmi)
   have HOA := hid (ordO_at HPO.out hlt)
   have hon : (c[k]'hkc).l.length ≤ 1024 := by
    have h1 := opsN_take c k hkc
    have h2 := opsN_le c (k + 1)
    have h3 := (checkI_right HCC.out).2.1
    omega
   have HXN : Hid ((h[m]'hmi).l.length = (c[k]'hkc).l.length) := hid hle.symm
   rw [hov] at a3 HOPX
   rw [htv] at HCT HOPT
   clear hov htv hzk hle hgm hck
   generalize c[k]'hkc = cx at *
   generalize h[m]'hmi = tx at *
   obtain ⟨us, ub, uc, uv0, ul⟩ := cx
   obtain ⟨ts, tb, tc, tv0, tl⟩ := tx
   simp only at a0 a1 a2 a3 HSS HST HKS HKD HCT hon HXN HOPX HOPT
   have hbb := box_below wr (.cells #[.int .i64 us, .int .i64 ub, .int .i64 uc, .slice xo ul.length xoc] 38)
   have HTU := hid (BoxN.new wr 38 #[.int .i64 us, .int .i64 ub, .int .i64 uc, .slice xo ul.length xoc])
   have HBX1 := hid (HBX.out.below hbb)
   have HR1 := hid (HR.out.below hbb)
   have HI1 := hid (HI.out.below hbb)
   have HB1 := hid (HB.out.alloc HB.out.size (.cells #[.int .i64 us, .int .i64 ub, .int .i64 uc, .slice xo ul.length xoc] 38))
   have hp79 : p7 < wr.heap.size := HBX.out.lt
   go_upto_region 13 with fail
   clear hbb HBX HR HI HB a0 a1 a2 a3
   generalize wr.alloc (.cells #[.int .i64 us, .int .i64 ub, .int .i64 uc, .slice xo ul.length xoc] 38) = W1 at *
   generalize wr.heap.size = p9 at *
   have y4 := (HXF.out _ HB1.out).cell (i := 4) rfl
   go_upto_if 59 with fail
   have HZY : Hid (decide (0 < L.length) = true → ∃ hl : k < L.length, L[k] = (m : Int)) := hid (fun e => by
    have q := HOA.out.2
    rw [hm] at q
    exact q.elim (fun q => by rw [q.1] at e; simp at e) (fun q => q))
   have HZN : Hid (decide (0 < L.length) = false → k = m) := hid (fun e => by
    have q := HOA.out.2
    rw [hm] at q
    exact q.elim (fun q => q.2.symm) (fun q => by obtain ⟨hl, _⟩ := q; have := of_decide_eq_false e; omega))
   generalize decide (0 < L.length) = z2 at *
   go_cut [10] from 60 to 64 (fun v wx => v = .int .i64 (m : Int) ∧ wx = W1)
   case first =>
    cases z2 with
    | false =>
     have HE := hid (HZN.out rfl)
     clear HZY HZN
     go_wp2_with fail
     go_meet
     case rel => exact ⟨by rw [HE.out], rfl⟩
    | true =>
     obtain ⟨hl0, hLi⟩ := HZY.out rfl
     clear HZY HZN
     obtain ⟨gq, oq, eq, y5⟩ := (HO5.out _ HB1.out).at hl0
     cases eq
     rw [hLi] at y5
     have hl2 : (k : Int) < (L.length : Int) := by omega
     clear hLi
     go_wp2_with fail
     go_meet
     case rel => exact ⟨rfl, rfl⟩
   case rest =>
    obtain ⟨rfl, rfl⟩ := hcut
    clear HZY HZN y4 HOA
    have hmi2 : (m : Int) < (h.length : Int) := by omega
    obtain ⟨gt, ot, hgt, b0, b1, b2, b3⟩ := HCT.out _ HB1.out
    cases hgt
    have hbb := box_below wc (.cells #[.int .i64 ts, .int .i64 tb, .int .i64 tc, .slice to0 tl.length tnc] 38)
    have HTT := hid (BoxN.new wc 38 #[.int .i64 ts, .int .i64 tb, .int .i64 tc, .slice to0 tl.length tnc])
    have HTU2 := hid (HTU.out.below hbb)
    have HBX2 := hid (HBX1.out.below hbb)
    have HR2 := hid (HR1.out.below hbb)
    have HI2 := hid (HI1.out.below hbb)
    have HB2 := hid (HB1.out.alloc HB1.out.size (.cells #[.int .i64 ts, .int .i64 tb, .int .i64 tc, .slice to0 tl.length tnc] 38))
    have hp911 : p9 < wc.heap.size := HTU.out.lt
    go_upto_region 17 with fail
    clear hbb HBX1 HR1 HI1 HB1 HTU b0 b1 b2 b3
    generalize wc.alloc (.cells #[.int .i64 ts, .int .i64 tb, .int .i64 tc, .slice to0 tl.length tnc] 38) = W2 at *
    generalize wc.heap.size = p11 at *
    have z4 := HBX2.out.cell (i := 4) rfl
    have hI2l : (bkO L h.length k).length = h.length := bkO_len ..
    have hfi : W2.frozen? ⟨g4, m, none⟩ = false := by have q := HI2.out; unfold IntO at q; rw [hI2l] at q; exact q.frozenAt m
    have HLO := hid (let q : W2.ownsRow w5.heap.size 3 1 (.slice (some ⟨g4, 0, none⟩) h.length h.length) h.length ((bkO L h.length k).map (.int .i64)) := (by have q := HI2.out; unfold IntO at q; rw [hI2l] at q; exact q); q)
    obtain ⟨x0, hci⟩ : ∃ x, W2.cell? ⟨g4, m, none⟩ = some (.int .i64 x) := ⟨_, (HLO.out.cellAt m (by omega)).trans (by rw [List.getElem?_map, List.getElem?_eq_getElem (by rw [hI2l]; exact hmi)]; rfl)⟩
    have HST4 := hid (HLO.out.stored m (.int .i64 (k : Int)))
    have hne47 : g4 ≠ p7 := fun e => by
     rcases owns_no_box HLO.out HBX2.out (by decide) with q | q
     ·cases q
     ·exact q (by rw [e]; rfl)
    have HBX3 : Hid (BoxN (W2.setCell ⟨g4, m, none⟩ (.int .i64 (k : Int))) p7 26 #[vk, vs, vv, vt, (.slice (some ⟨g4, 0, none⟩) h.length h.length)]) := hid (HBX2.out.far (a := ⟨g4, m, none⟩) (fun e => hne47 e.symm) _)
    have HTU3 := hid (HTU2.out.far (a := ⟨g4, m, none⟩) (fun e => by
     rcases owns_no_box HLO.out HTU2.out (by decide) with q | q
     ·cases q
     ·exact q (by rw [show p9 = g4 from e]; rfl)) (.int .i64 (k : Int)))
    have HTT3 := hid (HTT.out.far (a := ⟨g4, m, none⟩) (fun e => by
     rcases owns_no_box HLO.out HTT.out (by decide) with q | q
     ·cases q
     ·exact q (by rw [show p11 = g4 from e]; rfl)) (.int .i64 (k : Int)))
    have HR3 := hid (R4P.row HR2.out HLO.out rfl (grown_set W2 ⟨g4, m, none⟩ (.int .i64 (k : Int))))
    have HI3 : Hid (IntO (W2.setCell ⟨g4, m, none⟩ (.int .i64 (k : Int))) w5.heap.size (.slice (some ⟨g4, 0, none⟩) h.length h.length) (bkO L h.length (k + 1))) := hid (by
     unfold IntO
     rw [bkO_len, bkO_succ HWH.out hlt, hm, List.map_set]
     exact HST4.out.1)
    have HB3 := hid (HB2.out.setCell (p := ⟨g4, m, none⟩) (HLO.out.lt g4 rfl).1 (.int .i64 (k : Int)))
    go_upto_region 18 with fail
    clear z4 hfi hci HLO HST4 hne47 HBX2 HTU2 HTT HR2 HI2 HB2 hI2l
    generalize W2.setCell ⟨g4, m, none⟩ (.int .i64 (k : Int)) = W3 at *
    have hsn := HSL.out k
    have htn := HTL.out k
    have hctA := HBX3.out.cell (i := 1) rfl
    have hownA : W3.ownsRow w5.heap.size 40 2 vs (bkS (Z.take k)).length (frV (bkS (Z.take k))) := HR3.out.o1
    obtain ⟨xaA, xnA, xcA, hxvA⟩ : ∃ a n c, vs = .slice a n c := by
     obtain ⟨_, a, c, e, _⟩ := HR3.out.o1.prn
     exact ⟨a, _, c, e⟩
    have HNBA : Hid (some p7 ≠ vs.ownBlock) := hid (fun e => by
     rcases owns_no_box hownA HBX3.out (by decide) with q | q
     ·rw [q] at e; cases e
     ·exact q e.symm)
    have HNIA : Hid ((Value.slice (some ⟨g4, 0, none⟩) h.length h.length).ownBlock = none ∨ (Value.slice (some ⟨g4, 0, none⟩) h.length h.length).ownBlock ≠ vs.ownBlock) := hid (own_apart HI3.out hownA (by decide))
    have hbzA := HB3.out.size
    have hbAA := box_below W3 (.cells #[.int .i64 us, .int .i64 ts] 40)
    have HBXAA := hid (HBX3.out.below hbAA)
    have HRAA := hid (HR3.out.below hbAA)
    have HIAA := hid (HI3.out.below hbAA)
    have HTU3AA := hid (HTU3.out.below hbAA)
    have zp90 := HTU3.out.cell (i := 0) rfl
    have HTT3AA := hid (HTT3.out.below hbAA)
    have zp110 := HTT3.out.cell (i := 0) rfl
    rw [hxvA] at hctA hownA
    have hlnA : (bkS (Z.take k)).length ≤ 2000 := by have := hsn; omega
    clear hbAA
    go_wp2_with (first | (at_builtin; refine wpList_append_lies _ rfl _ _ 23 rfl w5.heap.size 40 i0 (.agg #[.int .i64 0, .int .i64 0]) 2 16 Try.underlying23 hi hz0 hz1 hz2 rfl (by decide) _ _ _ rfl (hownA.alloc _) ⟨_, 0, none⟩ 1 1 [.int .i64 us, .int .i64 ts] rfl rfl ?c1A ?c2A (by decide) ?c3A ?c4A ?c5A _ rfl ?_) | go_in)
    try case c1A => first | exact lit_twoR _ _ _ _ | exact lit_fourR _ _ _ _ _ _
    try case c2A => first | rfl | (intro u hu; simp at hu; rcases hu with rfl | rfl | rfl | rfl <;> rfl) | (intro u hu; simp at hu; rcases hu with rfl | rfl <;> rfl) | simp [Value.oneCell']
    case c3A => unfold maxLen; omega
    case c4A => omega
    case c5A => first | omega | (simp; omega)
    intro gA cA wA hnnA hgA hlA hltA
    rw [← hxvA] at hgA hlA
    have hOA : PrO wA w5.heap.size (Value.slice (some ⟨gA, 0, none⟩) ((bkS (Z.take k)).length + 1) cA) ((bkS (Z.take (k + 1)))) := by
     unfold PrO
     rw [HSS.out, frV_app, List.length_append]
     exact hnnA
    have hRA := HRAA.out.app1 hOA hgA (by rw [World.size_alloc]; exact hlA)
    have hXA := HBXAA.out.kept hgA HNBA.out
    have hIA : IntO wA w5.heap.size (.slice (some ⟨g4, 0, none⟩) h.length h.length) _ := World.ownsRow.kept HIAA.out hgA HNIA.out
    have hcxA := hXA.cell (i := 1) rfl
    have hfxA := hXA.free 1
    have hgsA := grown_set wA ⟨p7, 1, none⟩ (Value.slice (some ⟨gA, 0, none⟩) ((bkS (Z.take k)).length + 1) cA)
    have HBXA : Hid (BoxN (wA.setCell ⟨p7, 1, none⟩ (Value.slice (some ⟨gA, 0, none⟩) ((bkS (Z.take k)).length + 1) cA)) p7 26 #[vk, (Value.slice (some ⟨gA, 0, none⟩) ((bkS (Z.take k)).length + 1) cA), vv, vt, (.slice (some ⟨g4, 0, none⟩) h.length h.length)]) := hid (hXA.set 1 (Value.slice (some ⟨gA, 0, none⟩) ((bkS (Z.take k)).length + 1) cA))
    have HRA := hid (hRA.box hXA (by decide) hgsA)
    have HIA := hid (IntO.box hIA hXA (by decide) hgsA)
    have HBA := hid ((below_app0 HB3.out (Nat.le_refl _) hownA (Nat.le_refl _) (by rw [← hxvA]; exact hgA)).setCell (p := ⟨p7, 1, none⟩) (by show w5.heap.size ≤ p7; omega) (Value.slice (some ⟨gA, 0, none⟩) ((bkS (Z.take k)).length + 1) cA))
    have hnp9A : vs.ownBlock = none ∨ vs.ownBlock ≠ some p9 := owns_no_box HRAA.out.o1 HTU3AA.out (by decide)
    have HTU3A := hid ((HTU3AA.out.kept hgA (fun e => by
     rcases hnp9A with q | q
     ·rw [q] at e; cases e
     ·exact q e.symm)).far (a := ⟨p7, 1, none⟩) (by show p9 ≠ p7; omega) (Value.slice (some ⟨gA, 0, none⟩) ((bkS (Z.take k)).length + 1) cA))
    have hnp11A : vs.ownBlock = none ∨ vs.ownBlock ≠ some p11 := owns_no_box HRAA.out.o1 HTT3AA.out (by decide)
    have HTT3A := hid ((HTT3AA.out.kept hgA (fun e => by
     rcases hnp11A with q | q
     ·rw [q] at e; cases e
     ·exact q e.symm)).far (a := ⟨p7, 1, none⟩) (by show p11 ≠ p7; omega) (Value.slice (some ⟨gA, 0, none⟩) ((bkS (Z.take k)).length + 1) cA))
    clear hnnA hgA hlA hltA hOA hRA hXA hIA hgsA HBXAA HRAA HIAA HNBA HNIA hownA hctA hxvA hbzA HBX3 HR3 HI3 HB3
    clear HTU3AA hnp9A HTU3 zp90
    clear HTT3AA hnp11A HTT3 zp110
    go_upto_region 19 with fail
    clear hcxA hfxA
    generalize (wA.setCell ⟨p7, 1, none⟩ (Value.slice (some ⟨gA, 0, none⟩) ((bkS (Z.take k)).length + 1) cA)) = WA at *
    obtain ⟨nA, hnA⟩ : ∃ v, (Value.slice (some ⟨gA, 0, none⟩) ((bkS (Z.take k)).length + 1) cA) = v := ⟨_, rfl⟩
    rw [hnA] at HBXA HRA ⊢
    clear hnA
    have hctB := HBXA.out.cell (i := 3) rfl
    have hownB : WA.ownsRow w5.heap.size 40 2 vt (bkT (Z.take k)).length (frV (bkT (Z.take k))) := HRA.out.o3
    obtain ⟨xaB, xnB, xcB, hxvB⟩ : ∃ a n c, vt = .slice a n c := by
     obtain ⟨_, a, c, e, _⟩ := HRA.out.o3.prn
     exact ⟨a, _, c, e⟩
    have HNBB : Hid (some p7 ≠ vt.ownBlock) := hid (fun e => by
     rcases owns_no_box hownB HBXA.out (by decide) with q | q
     ·rw [q] at e; cases e
     ·exact q e.symm)
    have HNIB : Hid ((Value.slice (some ⟨g4, 0, none⟩) h.length h.length).ownBlock = none ∨ (Value.slice (some ⟨g4, 0, none⟩) h.length h.length).ownBlock ≠ vt.ownBlock) := hid (own_apart HIA.out hownB (by decide))
    have hbzB := HBA.out.size
    have hbAB := box_below WA (.cells #[.int .i64 ub, .int .i64 tb, .int .i64 uc, .int .i64 tc] 40)
    have HBXAB := hid (HBXA.out.below hbAB)
    have HRAB := hid (HRA.out.below hbAB)
    have HIAB := hid (HIA.out.below hbAB)
    have HTU3AAB := hid (HTU3A.out.below hbAB)
    have zp91 := HTU3A.out.cell (i := 1) rfl
    have zp92 := HTU3A.out.cell (i := 2) rfl
    have HTT3AAB := hid (HTT3A.out.below hbAB)
    have zp111 := HTT3A.out.cell (i := 1) rfl
    have zp112 := HTT3A.out.cell (i := 2) rfl
    rw [hxvB] at hctB hownB
    have hlnB : (bkT (Z.take k)).length ≤ 2000 := by have := htn; omega
    clear hbAB
    go_wp2_with (first | (at_builtin; refine wpList_append_lies _ rfl _ _ 23 rfl w5.heap.size 40 i0 (.agg #[.int .i64 0, .int .i64 0]) 2 16 Try.underlying23 hi hz0 hz1 hz2 rfl (by decide) _ _ _ rfl (hownB.alloc _) ⟨_, 0, none⟩ 2 2 [.int .i64 ub, .int .i64 tb, .int .i64 uc, .int .i64 tc] rfl rfl ?c1B ?c2B (by decide) ?c3B ?c4B ?c5B _ rfl ?_) | go_in)
    try case c1B => first | exact lit_twoR _ _ _ _ | exact lit_fourR _ _ _ _ _ _
    try case c2B => first | rfl | (intro u hu; simp at hu; rcases hu with rfl | rfl | rfl | rfl <;> rfl) | (intro u hu; simp at hu; rcases hu with rfl | rfl <;> rfl) | simp [Value.oneCell']
    case c3B => unfold maxLen; omega
    case c4B => omega
    case c5B => first | omega | (simp; omega)
    intro gB cB wB hnnB hgB hlB hltB
    rw [← hxvB] at hgB hlB
    have hOB : PrO wB w5.heap.size (Value.slice (some ⟨gB, 0, none⟩) ((bkT (Z.take k)).length + 2) cB) ((bkT (Z.take (k + 1)))) := by
     unfold PrO
     rw [HST.out, frV_app, List.length_append]
     exact hnnB
    have hRB := HRAB.out.app3 hOB hgB (by rw [World.size_alloc]; exact hlB)
    have hXB := HBXAB.out.kept hgB HNBB.out
    have hIB : IntO wB w5.heap.size (.slice (some ⟨g4, 0, none⟩) h.length h.length) _ := World.ownsRow.kept HIAB.out hgB HNIB.out
    have hcxB := hXB.cell (i := 3) rfl
    have hfxB := hXB.free 3
    have hgsB := grown_set wB ⟨p7, 3, none⟩ (Value.slice (some ⟨gB, 0, none⟩) ((bkT (Z.take k)).length + 2) cB)
    have HBXB : Hid (BoxN (wB.setCell ⟨p7, 3, none⟩ (Value.slice (some ⟨gB, 0, none⟩) ((bkT (Z.take k)).length + 2) cB)) p7 26 #[vk, nA, vv, (Value.slice (some ⟨gB, 0, none⟩) ((bkT (Z.take k)).length + 2) cB), (.slice (some ⟨g4, 0, none⟩) h.length h.length)]) := hid (hXB.set 3 (Value.slice (some ⟨gB, 0, none⟩) ((bkT (Z.take k)).length + 2) cB))
    have HRB := hid (hRB.box hXB (by decide) hgsB)
    have HIB := hid (IntO.box hIB hXB (by decide) hgsB)
    have HBB := hid ((below_app0 HBA.out (Nat.le_refl _) hownB (Nat.le_refl _) (by rw [← hxvB]; exact hgB)).setCell (p := ⟨p7, 3, none⟩) (by show w5.heap.size ≤ p7; omega) (Value.slice (some ⟨gB, 0, none⟩) ((bkT (Z.take k)).length + 2) cB))
    have hnp9B : vt.ownBlock = none ∨ vt.ownBlock ≠ some p9 := owns_no_box HRAB.out.o3 HTU3AAB.out (by decide)
    have HTU3AB := hid ((HTU3AAB.out.kept hgB (fun e => by
     rcases hnp9B with q | q
     ·rw [q] at e; cases e
     ·exact q e.symm)).far (a := ⟨p7, 3, none⟩) (by show p9 ≠ p7; omega) (Value.slice (some ⟨gB, 0, none⟩) ((bkT (Z.take k)).length + 2) cB))
    have hnp11B : vt.ownBlock = none ∨ vt.ownBlock ≠ some p11 := owns_no_box HRAB.out.o3 HTT3AAB.out (by decide)
    have HTT3AB := hid ((HTT3AAB.out.kept hgB (fun e => by
     rcases hnp11B with q | q
     ·rw [q] at e; cases e
     ·exact q e.symm)).far (a := ⟨p7, 3, none⟩) (by show p11 ≠ p7; omega) (Value.slice (some ⟨gB, 0, none⟩) ((bkT (Z.take k)).length + 2) cB))
    clear hnnB hgB hlB hltB hOB hRB hXB hIB hgsB HBXAB HRAB HIAB HNBB HNIB hownB hctB hxvB hbzB HBXA HRA HIA HBA
    clear HTU3AAB hnp9B HTU3A zp91 zp92
    clear HTT3AAB hnp11B HTT3A zp111 zp112
    go_upto_region 20 with fail
    clear hcxB hfxB
    generalize (wB.setCell ⟨p7, 3, none⟩ (Value.slice (some ⟨gB, 0, none⟩) ((bkT (Z.take k)).length + 2) cB)) = WB at *
    obtain ⟨nB, hnB⟩ : ∃ v, (Value.slice (some ⟨gB, 0, none⟩) ((bkT (Z.take k)).length + 2) cB) = v := ⟨_, rfl⟩
    rw [hnB] at HBXB HRB ⊢
    clear hnB
    have z93 := HTU3AB.out.cell (i := 3) rfl
    go_wp2_with fail
    clear z93
    go_loopw [102] (fun i wr => ∃ (j : Nat) (uk uv : Value), j ≤ ul.length ∧ i = .int .i64 (j : Int) ∧ Hid (BoxN wr p7 26 #[uk, nA, uv, nB, (.slice (some ⟨g4, 0, none⟩) h.length h.length)]) ∧ Hid (R4P wr w5.heap.size uk nA uv nB (kbT OpV.key Z k j) (bkS (Z.take (k + 1))) (kbT OpV.val Z k j) (bkT (Z.take (k + 1)))) ∧ Hid (IntO wr w5.heap.size (.slice (some ⟨g4, 0, none⟩) h.length h.length) (bkO L h.length (k + 1))) ∧ Hid (BoxN wr p11 38 #[.int .i64 ts, .int .i64 tb, .int .i64 tc, .slice to0 tl.length tnc]) ∧ Hid (Below w5.heap.size w5 wr)) (fun i _ => ul.length - (intOf i).toNat)
    case atStart => exact ⟨0, _, _, by omega, rfl, HBXB, HRB, HIB, HTT3AB, HBB⟩
    case round =>
     clear HBXB HRB HIB HTT3AB HBB HTU3AB
     obtain ⟨j, uk, uv, hj, rfl, HBXq, HRq, HIq, HTq, HBq⟩ := hrel
     by_cases hjt : j < ul.length
     ·have hji : (j : Int) < (ul.length : Int) := by omega
      have hjtl : j < tl.length := by rw [HXN.out]; exact hjt
      have hjti : (j : Int) < (tl.length : Int) := by omega
      obtain ⟨g2, o2, hg2, e0, e1, e2⟩ := (HOPX.out _ HBq.out).at hjt
      cases hg2
      have HOT0 := hid (fun wx (hx : Below w5.heap.size w5 wx) => (HOPT.out wx hx).at hjtl)
      obtain ⟨gu, ou, hgu, f0, f1, f2⟩ := HOT0.out _ HBq.out
      subst hgu
      have HGU : Hid (gu < w5.heap.size) := hid (by
       obtain ⟨_, _, e, f0, _, _⟩ := HOT0.out _ (Below.refl _ _)
       cases e
       exact block_lt f0)
      have HOT : Hid (∀ wx, Below w5.heap.size w5 wx → ∃ z : Unit, z = () ∧ wx.cell? ⟨gu, ou + j * 3, none⟩ = some (.bool tl[j].wr) ∧ wx.cell? ⟨gu, ou + j * 3 + 1, none⟩ = some (.int .i64 tl[j].key) ∧ wx.cell? ⟨gu, ou + j * 3 + 2, none⟩ = some (.int .i64 tl[j].val)) := hid (fun wx hx => by
       obtain ⟨_, _, e, q⟩ := HOT0.out wx hx
       cases e
       exact ⟨(), rfl, q⟩)
      have HKS1 := hid (HKS.out OpV.key j hjt hjtl)
      have HVS1 := hid (HKS.out OpV.val j hjt hjtl)
      have hkn := HKL.out OpV.key k j
      have hvn := HKL.out OpV.val k j
      clear HOT0 f0 f1 f2
      generalize ul[j] = x at *
      generalize tl[j] = y at *
      obtain ⟨xw, xk, xv⟩ := x
      obtain ⟨yw, yk, yv⟩ := y
      simp only at e0 e1 e2 HKS1 HVS1 HOT
      have hbb := box_below wr (.cells #[.bool xw, .int .i64 xk, .int .i64 xv] 42)
      have HOX := hid (BoxN.new wr 42 #[.bool xw, .int .i64 xk, .int .i64 xv])
      have HBX4 := hid (HBXq.out.below hbb)
      have HR4 := hid (HRq.out.below hbb)
      have HI4 := hid (HIq.out.below hbb)
      have HT4 := hid (HTq.out.below hbb)
      have HB4 := hid (HBq.out.alloc HBq.out.size (.cells #[.bool xw, .int .i64 xk, .int .i64 xv] 42))
      have hp713 : p11 < wr.heap.size := HTq.out.lt
      have hp711 : p7 < p11 := by omega
      go_upto_region 23 with fail
      clear hbb HBXq HRq HIq HTq HBq e0 e1 e2
      generalize wr.alloc (.cells #[.bool xw, .int .i64 xk, .int .i64 xv] 42) = W4 at *
      generalize wr.heap.size = p13 at *
      have hbdC := (Below.refl W4.heap.size W4).drew
      have HBDC := hid (HBX4.out.below hbdC)
      have HRDC := hid (HR4.out.below hbdC)
      have HIDC := hid (HI4.out.below hbdC)
      have HBD0C := hid (HB4.out.drew)
      have hS11C := HT4.out.below hbdC
      have hS13C := HOX.out.below hbdC
      obtain ⟨_, hguC, hu1, hu2, hu3⟩ := HOT.out _ HBD0C.out
      have hlgC : gu < w5.heap.size := HGU.out
      obtain ⟨xaC, xnC, xcC, hxvC⟩ : ∃ a n c, uk = .slice a n c := by
       obtain ⟨_, a, c, e, _⟩ := HRDC.out.o0.prn
       exact ⟨a, _, c, e⟩
      have HNBC : Hid (some p7 ≠ (Value.slice xaC xnC xcC).ownBlock) := hid (fun e => by
       rw [← hxvC] at e
       rcases owns_no_box HRDC.out.o0 HBDC.out (by decide) with q | q
       ·rw [q] at e; cases e
       ·exact q e.symm)
      have HN11C : Hid (some p11 ≠ (Value.slice xaC xnC xcC).ownBlock) := hid (fun e => by
       rw [← hxvC] at e
       rcases owns_no_box HRDC.out.o0 hS11C (by decide) with q | q
       ·rw [q] at e; cases e
       ·exact q e.symm)
      have HN13C : Hid (some p13 ≠ (Value.slice xaC xnC xcC).ownBlock) := hid (fun e => by
       rw [← hxvC] at e
       rcases owns_no_box HRDC.out.o0 hS13C (by decide) with q | q
       ·rw [q] at e; cases e
       ·exact q e.symm)
      have HNUC : Hid (some gu ≠ (Value.slice xaC xnC xcC).ownBlock) := hid (fun e => by
       rw [← hxvC] at e
       have := (World.ownsRow.lt HRDC.out.o0 gu e.symm).1
       omega)
      have HNIC : Hid ((Value.slice (some ⟨g4, 0, none⟩) h.length h.length).ownBlock = none ∨ (Value.slice (some ⟨g4, 0, none⟩) h.length h.length).ownBlock ≠ uk.ownBlock) := hid (own_apart HIDC.out HRDC.out.o0 (by decide))
      have HUCC := hid (HBDC.out.cell (i := 0) rfl)
      have HOWC := hid (show W4.drew.ownsRow w5.heap.size 40 2 uk (kbT OpV.key Z k j).length (frV (kbT OpV.key Z k j)) from HRDC.out.o0)
      rw [hxvC] at HUCC HOWC
      have hlnC : (kbT OpV.key Z k j).length ≤ 2000 := by have := hkn; omega
      have hbzC := HBD0C.out.size
      clear hbdC HBX4 HR4 HI4 HB4 HT4 HOX hguC
      refine wp_region_held_drew (S := fun wx => BoxN wx p13 42 #[.bool xw, .int .i64 xk, .int .i64 xv] ∧ BoxN wx p11 38 #[.int .i64 ts, .int .i64 tb, .int .i64 tc, .slice (some ⟨gu, ou, none⟩) tl.length tnc] ∧ wx.cell? ⟨gu, ou + j * 3 + 1, none⟩ = some (.int .i64 yk)) (by kernel_rfl) ⟨hS13C, hS11C, hu2⟩ (fun hS0 => ?_)
      generalize W4.drew = wdC at *
      refine tG (some 107) 0 ?vhCq1y0x1 rfl rfl (Or.inl ⟨by rfl, ?hhCq1y0x1⟩) hS0 ?rhCq1y0x1
      case hhCq1y0x1 => (intro w hw; obtain ⟨m1, m2, m3⟩ := hw; have q0 := m1.cell (i := 0) rfl; have q1 := m1.cell (i := 1) rfl; have q2 := m1.cell (i := 2) rfl; have r3 := m2.cell (i := 3) rfl; go_simp; try (with_reducible rfl))
      try simp only [Act.put, zA, zB, zC]
      refine tG (some 109) 2 ?vhCq1y2x2 rfl rfl (Or.inl ⟨by rfl, ?hhCq1y2x2⟩) hS0 ?rhCq1y2x2
      case hhCq1y2x2 => (intro w hw; obtain ⟨m1, m2, m3⟩ := hw; have q0 := m1.cell (i := 0) rfl; have q1 := m1.cell (i := 1) rfl; have q2 := m1.cell (i := 2) rfl; have r3 := m2.cell (i := 3) rfl; go_simp; try (with_reducible rfl))
      try simp only [Act.put, zA, zB, zC]
      refine tG (some 110) 3 ?vhCq1y3x3 rfl rfl (Or.inl ⟨by rfl, ?hhCq1y3x3⟩) hS0 ?rhCq1y3x3
      case hhCq1y3x3 => (intro w hw; obtain ⟨m1, m2, m3⟩ := hw; have q0 := m1.cell (i := 0) rfl; have q1 := m1.cell (i := 1) rfl; have q2 := m1.cell (i := 2) rfl; have r3 := m2.cell (i := 3) rfl; go_simp; try (with_reducible rfl))
      try simp only [Act.put, zA, zB, zC]
      refine tG (some 111) 4 ?vhCq1y4x4 rfl rfl (Or.inl ⟨by rfl, ?hhCq1y4x4⟩) hS0 ?rhCq1y4x4
      case hhCq1y4x4 => (intro w hw; obtain ⟨m1, m2, m3⟩ := hw; have q0 := m1.cell (i := 0) rfl; have q1 := m1.cell (i := 1) rfl; have q2 := m1.cell (i := 2) rfl; have r3 := m2.cell (i := 3) rfl; go_simp; try (with_reducible rfl))
      try simp only [Act.put, zA, zB, zC]
      refine tG (some 112) 5 ?vhCq1y5x5 rfl rfl (Or.inl ⟨by rfl, ?hhCq1y5x5⟩) hS0 ?rhCq1y5x5
      case hhCq1y5x5 => (intro w hw; obtain ⟨m1, m2, m3⟩ := hw; have q0 := m1.cell (i := 0) rfl; have q1 := m1.cell (i := 1) rfl; have q2 := m1.cell (i := 2) rfl; have r3 := m2.cell (i := 3) rfl; go_simp; try (with_reducible rfl))
      try simp only [Act.put, zA, zB, zC]
      refine tG (some 113) 6 ?vhCq1y6x6 rfl rfl (Or.inl ⟨by rfl, ?hhCq1y6x6⟩) hS0 ?rhCq1y6x6
      case hhCq1y6x6 => (intro w hw; obtain ⟨m1, m2, m3⟩ := hw; have q0 := m1.cell (i := 0) rfl; have q1 := m1.cell (i := 1) rfl; have q2 := m1.cell (i := 2) rfl; have r3 := m2.cell (i := 3) rfl; go_simp; try (with_reducible rfl))
      try simp only [Act.put, zA, zB, zC]
      refine tG (some 114) 7 ?vhCq1y7x7 rfl rfl (Or.inl ⟨by rfl, ?hhCq1y7x7⟩) hS0 ?rhCq1y7x7
      case hhCq1y7x7 => (intro w hw; obtain ⟨m1, m2, m3⟩ := hw; have q0 := m1.cell (i := 0) rfl; have q1 := m1.cell (i := 1) rfl; have q2 := m1.cell (i := 2) rfl; have r3 := m2.cell (i := 3) rfl; go_simp; try (with_reducible rfl))
      try simp only [Act.put, zA, zB, zC]
      refine tG (some 115) 8 ?vhCq1y8x8 rfl rfl (Or.inl ⟨by rfl, ?hhCq1y8x8⟩) hS0 ?rhCq1y8x8
      case hhCq1y8x8 => (intro w hw; obtain ⟨m1, m2, m3⟩ := hw; have q0 := m1.cell (i := 0) rfl; have q1 := m1.cell (i := 1) rfl; have q2 := m1.cell (i := 2) rfl; have r3 := m2.cell (i := 3) rfl; go_simp; try (with_reducible rfl))
      try simp only [Act.put, zA, zB, zC]
      refine tG (some 116) 9 ?vhCq1y9x9 rfl rfl (Or.inl ⟨by rfl, ?hhCq1y9x9⟩) hS0 ?rhCq1y9x9
      case hhCq1y9x9 => (intro w hw; obtain ⟨m1, m2, m3⟩ := hw; have q0 := m1.cell (i := 0) rfl; have q1 := m1.cell (i := 1) rfl; have q2 := m1.cell (i := 2) rfl; have r3 := m2.cell (i := 3) rfl; go_simp; try (with_reducible rfl))
      try simp only [Act.put, zA, zB, zC]
      refine tG (some 117) 10 ?vhCq1y10x10 rfl rfl (Or.inl ⟨by rfl, ?hhCq1y10x10⟩) hS0 ?rhCq1y10x10
      case hhCq1y10x10 => (intro w hw; obtain ⟨m1, m2, m3⟩ := hw; have q0 := m1.cell (i := 0) rfl; have q1 := m1.cell (i := 1) rfl; have q2 := m1.cell (i := 2) rfl; have r3 := m2.cell (i := 3) rfl; go_simp; try (with_reducible rfl))
      try simp only [Act.put, zA, zB, zC]
      refine wpAnyH_ready (rs := [1, 11]) (by kernel_rfl) (by simp) ?_
      refine AllReadyH.cons rfl (fun K hK => ?_) (AllReadyH.cons rfl (fun K hK => ?_) AllReadyH.nil)
      ·
       have zu := HUCC.out
       go_simp
       show K _ _
       refine hK.out _ _ hS0 (fun _ => ?_)
       clear hK K
       refine rD 11 rfl (fun K hK => ?_)
       rw [if_pos (by rfl)]
       go_simp
       have sA := And.intro (hS0.1.below (box_below wdC (.cells #[.int .i64 xk, .int .i64 yk] 40))) (And.intro (hS0.2.1.below (box_below wdC (.cells #[.int .i64 xk, .int .i64 yk] 40))) (((box_below wdC (.cells #[.int .i64 xk, .int .i64 yk] 40)).cell (p := ⟨gu, ou + j * 3 + 1, none⟩) (block_lt hS0.2.2)).trans hS0.2.2))
       have HUB := ((box_below wdC (.cells #[.int .i64 xk, .int .i64 yk] 40)).cell (p := ⟨p7, 0, none⟩) (block_lt HUCC.out)).trans HUCC.out
       show K _ _
       refine hK.out _ _ sA (fun _ => ?_)
       clear hK K
       refine rD 12 rfl (fun K hK => ?_)
       refine step_append_lies _ rfl (.tmp 108) (.tmp 118) 23 rfl w5.heap.size 40 i0 (.agg #[.int .i64 0, .int .i64 0]) 2 16 Try.underlying23 hi hz0 hz1 hz2 rfl (by decide) _ _ _ (by simp [Act.eval]) (HOWC.out.alloc (.cells #[.int .i64 xk, .int .i64 yk] 40)) ⟨wdC.heap.size, 0, none⟩ 1 1 [.int .i64 xk, .int .i64 yk] (by simp [Act.eval]) rfl (lit_twoR wdC _ _ _) (by simp [Value.oneCell']) (by decide) (by unfold maxLen; omega) (by omega) (by simp; omega) _ rfl ?_
       intro gC cC wC hnnC hgC hlC hltC
       have sC := And.intro (sA.1.kept hgC HN13C.out) (And.intro (sA.2.1.kept hgC HN11C.out) ((World.grownBy.cell_far hgC ⟨gu, ou + j * 3 + 1, none⟩ (block_lt sA.2.2) HNUC.out).trans sA.2.2))
       refine hK.out _ _ sC (fun _ => ?_)
       clear hK K
       refine tG (some 120) 13 ?vhCq1y13x14 rfl rfl (Or.inl ⟨by rfl, ?hhCq1y13x14⟩) sC ?rhCq1y13x14
       case hhCq1y13x14 => (intro w hw; obtain ⟨m1, m2, m3⟩ := hw; have q0 := m1.cell (i := 0) rfl; have q1 := m1.cell (i := 1) rfl; have q2 := m1.cell (i := 2) rfl; have r3 := m2.cell (i := 3) rfl; go_simp; try (with_reducible rfl))
       try simp only [Act.put, zA, zB, zC]
       refine rD 14 rfl (fun K hK => ?_)
       have hXC := (HBDC.out.below (box_below wdC (.cells #[.int .i64 xk, .int .i64 yk] 40))).kept hgC HNBC.out
       have hcxC := hXC.cell (i := 0) rfl
       have hfxC := hXC.free 0
       rw [if_pos (by rfl)]
       go_simp
       have sD := And.intro (sC.1.far (a := ⟨p7, 0, none⟩) (by show p13 ≠ p7; omega) (.slice (some ⟨gC, 0, none⟩) ((kbT OpV.key Z k j).length + 1) cC)) (And.intro (sC.2.1.far (a := ⟨p7, 0, none⟩) (by show p11 ≠ p7; omega) (.slice (some ⟨gC, 0, none⟩) ((kbT OpV.key Z k j).length + 1) cC)) ((Below.cell (p := ⟨gu, ou + j * 3 + 1, none⟩) (setcell_far wC ⟨p7, 0, none⟩ (.slice (some ⟨gC, 0, none⟩) ((kbT OpV.key Z k j).length + 1) cC)) (by show gu < p7; omega)).trans sC.2.2))
       show K _ _
       refine hK.out _ _ sD (fun _ => ?_)
       clear hK K
       refine wpAnyH_done (by kernel_rfl) ?_ _
       try simp only [Act.put]
       rw [← hxvC] at hgC hlC
       have hOC : PrO wC w5.heap.size (.slice (some ⟨gC, 0, none⟩) ((kbT OpV.key Z k j).length + 1) cC) ((kbT OpV.key Z k (j + 1))) := by
        unfold PrO
        rw [HKS1.out, frV_app, List.length_append]
        exact hnnC
       have hRC := (HRDC.out.below (box_below wdC (.cells #[.int .i64 xk, .int .i64 yk] 40))).app0 hOC hgC (by rw [World.size_alloc]; rw [World.size_alloc] at hlC; exact hlC)
       have hgsC := grown_set wC ⟨p7, 0, none⟩ (.slice (some ⟨gC, 0, none⟩) ((kbT OpV.key Z k j).length + 1) cC)
       have HBXC : Hid (BoxN (wC.setCell ⟨p7, 0, none⟩ (.slice (some ⟨gC, 0, none⟩) ((kbT OpV.key Z k j).length + 1) cC)) p7 26 #[(.slice (some ⟨gC, 0, none⟩) ((kbT OpV.key Z k j).length + 1) cC), nA, uv, nB, (.slice (some ⟨g4, 0, none⟩) h.length h.length)]) := hid (hXC.set 0 (.slice (some ⟨gC, 0, none⟩) ((kbT OpV.key Z k j).length + 1) cC))
       have HRC := hid (hRC.box hXC (by decide) hgsC)
       have HIC := hid (IntO.box (show IntO wC w5.heap.size (.slice (some ⟨g4, 0, none⟩) h.length h.length) _ from World.ownsRow.kept (HIDC.out.below (box_below wdC (.cells #[.int .i64 xk, .int .i64 yk] 40))) hgC HNIC.out) hXC (by decide) hgsC)
       have HBC := hid (((HBD0C.out.alloc HBD0C.out.size (.cells #[.int .i64 xk, .int .i64 yk] 40)).grown hgC (by have := HBD0C.out.size; simp; omega) (fun q e => (World.ownsRow.lt HRDC.out.o0 q e).1)).setCell (p := ⟨p7, 0, none⟩) (by show w5.heap.size ≤ p7; omega) (.slice (some ⟨gC, 0, none⟩) ((kbT OpV.key Z k j).length + 1) cC))
       have HP11C := hid sD.2.1
       have HP13C := hid sD.1
       clear hXC hcxC hfxC sA sC sD HUB hnnC hgC hlC hltC hOC hRC hgsC HUCC HOWC HBDC HRDC HIDC HBD0C HNBC HNIC HN11C HN13C HNUC hxvC
       generalize (wC.setCell ⟨p7, 0, none⟩ (.slice (some ⟨gC, 0, none⟩) ((kbT OpV.key Z k j).length + 1) cC)) = WC at *
       obtain ⟨nC, hnC⟩ : ∃ v, (Value.slice (some ⟨gC, 0, none⟩) ((kbT OpV.key Z k j).length + 1) cC) = v := ⟨_, rfl⟩
       rw [hnC] at HBXC HRC
       clear hnC
       go_upto_region 24 with fail
       have hbdD := (Below.refl WC.heap.size WC).drew
       have HBDD := hid (HBXC.out.below hbdD)
       have HRDD := hid (HRC.out.below hbdD)
       have HIDD := hid (HIC.out.below hbdD)
       have HBD0D := hid (HBC.out.drew)
       have hS11D := HP11C.out.below hbdD
       have hS13D := HP13C.out.below hbdD
       obtain ⟨_, hguD, hu1, hu2, hu3⟩ := HOT.out _ HBD0D.out
       have hlgD : gu < w5.heap.size := HGU.out
       obtain ⟨xaD, xnD, xcD, hxvD⟩ : ∃ a n c, uv = .slice a n c := by
        obtain ⟨_, a, c, e, _⟩ := HRDD.out.o2.prn
        exact ⟨a, _, c, e⟩
       have HNBD : Hid (some p7 ≠ (Value.slice xaD xnD xcD).ownBlock) := hid (fun e => by
        rw [← hxvD] at e
        rcases owns_no_box HRDD.out.o2 HBDD.out (by decide) with q | q
        ·rw [q] at e; cases e
        ·exact q e.symm)
       have HN11D : Hid (some p11 ≠ (Value.slice xaD xnD xcD).ownBlock) := hid (fun e => by
        rw [← hxvD] at e
        rcases owns_no_box HRDD.out.o2 hS11D (by decide) with q | q
        ·rw [q] at e; cases e
        ·exact q e.symm)
       have HN13D : Hid (some p13 ≠ (Value.slice xaD xnD xcD).ownBlock) := hid (fun e => by
        rw [← hxvD] at e
        rcases owns_no_box HRDD.out.o2 hS13D (by decide) with q | q
        ·rw [q] at e; cases e
        ·exact q e.symm)
       have HNUD : Hid (some gu ≠ (Value.slice xaD xnD xcD).ownBlock) := hid (fun e => by
        rw [← hxvD] at e
        have := (World.ownsRow.lt HRDD.out.o2 gu e.symm).1
        omega)
       have HNID : Hid ((Value.slice (some ⟨g4, 0, none⟩) h.length h.length).ownBlock = none ∨ (Value.slice (some ⟨g4, 0, none⟩) h.length h.length).ownBlock ≠ uv.ownBlock) := hid (own_apart HIDD.out HRDD.out.o2 (by decide))
       have HUCD := hid (HBDD.out.cell (i := 2) rfl)
       have HOWD := hid (show WC.drew.ownsRow w5.heap.size 40 2 uv (kbT OpV.val Z k j).length (frV (kbT OpV.val Z k j)) from HRDD.out.o2)
       rw [hxvD] at HUCD HOWD
       have hlnD : (kbT OpV.val Z k j).length ≤ 2000 := by have := hvn; omega
       have hbzD := HBD0D.out.size
       clear hbdD HBXC HRC HIC HBC HP11C HP13C hguD
       refine wp_region_held_drew (S := fun wx => BoxN wx p13 42 #[.bool xw, .int .i64 xk, .int .i64 xv] ∧ BoxN wx p11 38 #[.int .i64 ts, .int .i64 tb, .int .i64 tc, .slice (some ⟨gu, ou, none⟩) tl.length tnc] ∧ wx.cell? ⟨gu, ou + j * 3 + 2, none⟩ = some (.int .i64 yv)) (by kernel_rfl) ⟨hS13D, hS11D, hu3⟩ (fun hS0 => ?_)
       generalize WC.drew = wdD at *
       refine tG (some 121) 0 ?vhDq2y0x1 rfl rfl (Or.inl ⟨by rfl, ?hhDq2y0x1⟩) hS0 ?rhDq2y0x1
       case hhDq2y0x1 => (intro w hw; obtain ⟨m1, m2, m3⟩ := hw; have q0 := m1.cell (i := 0) rfl; have q1 := m1.cell (i := 1) rfl; have q2 := m1.cell (i := 2) rfl; have r3 := m2.cell (i := 3) rfl; go_simp; try (with_reducible rfl))
       try simp only [Act.put, zA, zB, zC]
       refine tG (some 123) 2 ?vhDq2y2x2 rfl rfl (Or.inl ⟨by rfl, ?hhDq2y2x2⟩) hS0 ?rhDq2y2x2
       case hhDq2y2x2 => (intro w hw; obtain ⟨m1, m2, m3⟩ := hw; have q0 := m1.cell (i := 0) rfl; have q1 := m1.cell (i := 1) rfl; have q2 := m1.cell (i := 2) rfl; have r3 := m2.cell (i := 3) rfl; go_simp; try (with_reducible rfl))
       try simp only [Act.put, zA, zB, zC]
       refine tG (some 124) 3 ?vhDq2y3x3 rfl rfl (Or.inl ⟨by rfl, ?hhDq2y3x3⟩) hS0 ?rhDq2y3x3
       case hhDq2y3x3 => (intro w hw; obtain ⟨m1, m2, m3⟩ := hw; have q0 := m1.cell (i := 0) rfl; have q1 := m1.cell (i := 1) rfl; have q2 := m1.cell (i := 2) rfl; have r3 := m2.cell (i := 3) rfl; go_simp; try (with_reducible rfl))
       try simp only [Act.put, zA, zB, zC]
       refine tG (some 125) 4 ?vhDq2y4x4 rfl rfl (Or.inl ⟨by rfl, ?hhDq2y4x4⟩) hS0 ?rhDq2y4x4
       case hhDq2y4x4 => (intro w hw; obtain ⟨m1, m2, m3⟩ := hw; have q0 := m1.cell (i := 0) rfl; have q1 := m1.cell (i := 1) rfl; have q2 := m1.cell (i := 2) rfl; have r3 := m2.cell (i := 3) rfl; go_simp; try (with_reducible rfl))
       try simp only [Act.put, zA, zB, zC]
       refine tG (some 126) 5 ?vhDq2y5x5 rfl rfl (Or.inl ⟨by rfl, ?hhDq2y5x5⟩) hS0 ?rhDq2y5x5
       case hhDq2y5x5 => (intro w hw; obtain ⟨m1, m2, m3⟩ := hw; have q0 := m1.cell (i := 0) rfl; have q1 := m1.cell (i := 1) rfl; have q2 := m1.cell (i := 2) rfl; have r3 := m2.cell (i := 3) rfl; go_simp; try (with_reducible rfl))
       try simp only [Act.put, zA, zB, zC]
       refine tG (some 127) 6 ?vhDq2y6x6 rfl rfl (Or.inl ⟨by rfl, ?hhDq2y6x6⟩) hS0 ?rhDq2y6x6
       case hhDq2y6x6 => (intro w hw; obtain ⟨m1, m2, m3⟩ := hw; have q0 := m1.cell (i := 0) rfl; have q1 := m1.cell (i := 1) rfl; have q2 := m1.cell (i := 2) rfl; have r3 := m2.cell (i := 3) rfl; go_simp; try (with_reducible rfl))
       try simp only [Act.put, zA, zB, zC]
       refine tG (some 128) 7 ?vhDq2y7x7 rfl rfl (Or.inl ⟨by rfl, ?hhDq2y7x7⟩) hS0 ?rhDq2y7x7
       case hhDq2y7x7 => (intro w hw; obtain ⟨m1, m2, m3⟩ := hw; have q0 := m1.cell (i := 0) rfl; have q1 := m1.cell (i := 1) rfl; have q2 := m1.cell (i := 2) rfl; have r3 := m2.cell (i := 3) rfl; go_simp; try (with_reducible rfl))
       try simp only [Act.put, zA, zB, zC]
       refine tG (some 129) 8 ?vhDq2y8x8 rfl rfl (Or.inl ⟨by rfl, ?hhDq2y8x8⟩) hS0 ?rhDq2y8x8
       case hhDq2y8x8 => (intro w hw; obtain ⟨m1, m2, m3⟩ := hw; have q0 := m1.cell (i := 0) rfl; have q1 := m1.cell (i := 1) rfl; have q2 := m1.cell (i := 2) rfl; have r3 := m2.cell (i := 3) rfl; go_simp; try (with_reducible rfl))
       try simp only [Act.put, zA, zB, zC]
       refine tG (some 130) 9 ?vhDq2y9x9 rfl rfl (Or.inl ⟨by rfl, ?hhDq2y9x9⟩) hS0 ?rhDq2y9x9
       case hhDq2y9x9 => (intro w hw; obtain ⟨m1, m2, m3⟩ := hw; have q0 := m1.cell (i := 0) rfl; have q1 := m1.cell (i := 1) rfl; have q2 := m1.cell (i := 2) rfl; have r3 := m2.cell (i := 3) rfl; go_simp; try (with_reducible rfl))
       try simp only [Act.put, zA, zB, zC]
       refine tG (some 131) 10 ?vhDq2y10x10 rfl rfl (Or.inl ⟨by rfl, ?hhDq2y10x10⟩) hS0 ?rhDq2y10x10
       case hhDq2y10x10 => (intro w hw; obtain ⟨m1, m2, m3⟩ := hw; have q0 := m1.cell (i := 0) rfl; have q1 := m1.cell (i := 1) rfl; have q2 := m1.cell (i := 2) rfl; have r3 := m2.cell (i := 3) rfl; go_simp; try (with_reducible rfl))
       try simp only [Act.put, zA, zB, zC]
       refine wpAnyH_ready (rs := [1, 11]) (by kernel_rfl) (by simp) ?_
       refine AllReadyH.cons rfl (fun K hK => ?_) (AllReadyH.cons rfl (fun K hK => ?_) AllReadyH.nil)
       ·
        have zu := HUCD.out
        go_simp
        show K _ _
        refine hK.out _ _ hS0 (fun _ => ?_)
        clear hK K
        refine rD 11 rfl (fun K hK => ?_)
        rw [if_pos (by rfl)]
        go_simp
        have sA := And.intro (hS0.1.below (box_below wdD (.cells #[.int .i64 xv, .int .i64 yv] 40))) (And.intro (hS0.2.1.below (box_below wdD (.cells #[.int .i64 xv, .int .i64 yv] 40))) (((box_below wdD (.cells #[.int .i64 xv, .int .i64 yv] 40)).cell (p := ⟨gu, ou + j * 3 + 2, none⟩) (block_lt hS0.2.2)).trans hS0.2.2))
        have HUB := ((box_below wdD (.cells #[.int .i64 xv, .int .i64 yv] 40)).cell (p := ⟨p7, 2, none⟩) (block_lt HUCD.out)).trans HUCD.out
        show K _ _
        refine hK.out _ _ sA (fun _ => ?_)
        clear hK K
        refine rD 12 rfl (fun K hK => ?_)
        refine step_append_lies _ rfl (.tmp 122) (.tmp 132) 23 rfl w5.heap.size 40 i0 (.agg #[.int .i64 0, .int .i64 0]) 2 16 Try.underlying23 hi hz0 hz1 hz2 rfl (by decide) _ _ _ (by simp [Act.eval]) (HOWD.out.alloc (.cells #[.int .i64 xv, .int .i64 yv] 40)) ⟨wdD.heap.size, 0, none⟩ 1 1 [.int .i64 xv, .int .i64 yv] (by simp [Act.eval]) rfl (lit_twoR wdD _ _ _) (by simp [Value.oneCell']) (by decide) (by unfold maxLen; omega) (by omega) (by simp; omega) _ rfl ?_
        intro gD cD wD hnnD hgD hlD hltD
        have sC := And.intro (sA.1.kept hgD HN13D.out) (And.intro (sA.2.1.kept hgD HN11D.out) ((World.grownBy.cell_far hgD ⟨gu, ou + j * 3 + 2, none⟩ (block_lt sA.2.2) HNUD.out).trans sA.2.2))
        refine hK.out _ _ sC (fun _ => ?_)
        clear hK K
        refine tG (some 134) 13 ?vhDq2y13x14 rfl rfl (Or.inl ⟨by rfl, ?hhDq2y13x14⟩) sC ?rhDq2y13x14
        case hhDq2y13x14 => (intro w hw; obtain ⟨m1, m2, m3⟩ := hw; have q0 := m1.cell (i := 0) rfl; have q1 := m1.cell (i := 1) rfl; have q2 := m1.cell (i := 2) rfl; have r3 := m2.cell (i := 3) rfl; go_simp; try (with_reducible rfl))
        try simp only [Act.put, zA, zB, zC]
        refine rD 14 rfl (fun K hK => ?_)
        have hXD := (HBDD.out.below (box_below wdD (.cells #[.int .i64 xv, .int .i64 yv] 40))).kept hgD HNBD.out
        have hcxD := hXD.cell (i := 2) rfl
        have hfxD := hXD.free 2
        rw [if_pos (by rfl)]
        go_simp
        have sD := And.intro (sC.1.far (a := ⟨p7, 2, none⟩) (by show p13 ≠ p7; omega) (.slice (some ⟨gD, 0, none⟩) ((kbT OpV.val Z k j).length + 1) cD)) (And.intro (sC.2.1.far (a := ⟨p7, 2, none⟩) (by show p11 ≠ p7; omega) (.slice (some ⟨gD, 0, none⟩) ((kbT OpV.val Z k j).length + 1) cD)) ((Below.cell (p := ⟨gu, ou + j * 3 + 2, none⟩) (setcell_far wD ⟨p7, 2, none⟩ (.slice (some ⟨gD, 0, none⟩) ((kbT OpV.val Z k j).length + 1) cD)) (by show gu < p7; omega)).trans sC.2.2))
        show K _ _
        refine hK.out _ _ sD (fun _ => ?_)
        clear hK K
        refine wpAnyH_done (by kernel_rfl) ?_ _
        try simp only [Act.put]
        rw [← hxvD] at hgD hlD
        have hOD : PrO wD w5.heap.size (.slice (some ⟨gD, 0, none⟩) ((kbT OpV.val Z k j).length + 1) cD) ((kbT OpV.val Z k (j + 1))) := by
         unfold PrO
         rw [HVS1.out, frV_app, List.length_append]
         exact hnnD
        have hRD := (HRDD.out.below (box_below wdD (.cells #[.int .i64 xv, .int .i64 yv] 40))).app2 hOD hgD (by rw [World.size_alloc]; rw [World.size_alloc] at hlD; exact hlD)
        have hgsD := grown_set wD ⟨p7, 2, none⟩ (.slice (some ⟨gD, 0, none⟩) ((kbT OpV.val Z k j).length + 1) cD)
        have HBXD : Hid (BoxN (wD.setCell ⟨p7, 2, none⟩ (.slice (some ⟨gD, 0, none⟩) ((kbT OpV.val Z k j).length + 1) cD)) p7 26 #[nC, nA, (.slice (some ⟨gD, 0, none⟩) ((kbT OpV.val Z k j).length + 1) cD), nB, (.slice (some ⟨g4, 0, none⟩) h.length h.length)]) := hid (hXD.set 2 (.slice (some ⟨gD, 0, none⟩) ((kbT OpV.val Z k j).length + 1) cD))
        have HRD := hid (hRD.box hXD (by decide) hgsD)
        have HID := hid (IntO.box (show IntO wD w5.heap.size (.slice (some ⟨g4, 0, none⟩) h.length h.length) _ from World.ownsRow.kept (HIDD.out.below (box_below wdD (.cells #[.int .i64 xv, .int .i64 yv] 40))) hgD HNID.out) hXD (by decide) hgsD)
        have HBD := hid (((HBD0D.out.alloc HBD0D.out.size (.cells #[.int .i64 xv, .int .i64 yv] 40)).grown hgD (by have := HBD0D.out.size; simp; omega) (fun q e => (World.ownsRow.lt HRDD.out.o2 q e).1)).setCell (p := ⟨p7, 2, none⟩) (by show w5.heap.size ≤ p7; omega) (.slice (some ⟨gD, 0, none⟩) ((kbT OpV.val Z k j).length + 1) cD))
        have HP11D := hid sD.2.1
        have HP13D := hid sD.1
        clear hXD hcxD hfxD sA sC sD HUB hnnD hgD hlD hltD hOD hRD hgsD HUCD HOWD HBDD HRDD HIDD HBD0D HNBD HNID HN11D HN13D HNUD hxvD
        generalize (wD.setCell ⟨p7, 2, none⟩ (.slice (some ⟨gD, 0, none⟩) ((kbT OpV.val Z k j).length + 1) cD)) = WD at *
        obtain ⟨nD, hnD⟩ : ∃ v, (Value.slice (some ⟨gD, 0, none⟩) ((kbT OpV.val Z k j).length + 1) cD) = v := ⟨_, rfl⟩
        rw [hnD] at HBXD HRD
        clear hnD
        have HRD2 := HRD
        have HID2 := HID
        have HBD2 := HBD
        go_wp2_with fail
        go_roundw
        case rel => exact ⟨j + 1, _, _, by omega, by go_num, HBXD, HRD2, HID2, HP11D, HBD2⟩
        case measure => simp [intOf]; omega
       ·
        rw [if_pos (by rfl)]
        go_simp
        have sA := And.intro (hS0.1.below (box_below wdD (.cells #[.int .i64 xv, .int .i64 yv] 40))) (And.intro (hS0.2.1.below (box_below wdD (.cells #[.int .i64 xv, .int .i64 yv] 40))) (((box_below wdD (.cells #[.int .i64 xv, .int .i64 yv] 40)).cell (p := ⟨gu, ou + j * 3 + 2, none⟩) (block_lt hS0.2.2)).trans hS0.2.2))
        have HUB := ((box_below wdD (.cells #[.int .i64 xv, .int .i64 yv] 40)).cell (p := ⟨p7, 2, none⟩) (block_lt HUCD.out)).trans HUCD.out
        show K _ _
        refine hK.out _ _ sA (fun _ => ?_)
        clear hK K
        refine rD 1 rfl (fun K hK => ?_)
        have zu := HUB
        go_simp
        show K _ _
        refine hK.out _ _ sA (fun _ => ?_)
        clear hK K
        refine rD 12 rfl (fun K hK => ?_)
        refine step_append_lies _ rfl (.tmp 122) (.tmp 132) 23 rfl w5.heap.size 40 i0 (.agg #[.int .i64 0, .int .i64 0]) 2 16 Try.underlying23 hi hz0 hz1 hz2 rfl (by decide) _ _ _ (by simp [Act.eval]) (HOWD.out.alloc (.cells #[.int .i64 xv, .int .i64 yv] 40)) ⟨wdD.heap.size, 0, none⟩ 1 1 [.int .i64 xv, .int .i64 yv] (by simp [Act.eval]) rfl (lit_twoR wdD _ _ _) (by simp [Value.oneCell']) (by decide) (by unfold maxLen; omega) (by omega) (by simp; omega) _ rfl ?_
        intro gD cD wD hnnD hgD hlD hltD
        have sC := And.intro (sA.1.kept hgD HN13D.out) (And.intro (sA.2.1.kept hgD HN11D.out) ((World.grownBy.cell_far hgD ⟨gu, ou + j * 3 + 2, none⟩ (block_lt sA.2.2) HNUD.out).trans sA.2.2))
        refine hK.out _ _ sC (fun _ => ?_)
        clear hK K
        refine tG (some 134) 13 ?vhDq2y13x19 rfl rfl (Or.inl ⟨by rfl, ?hhDq2y13x19⟩) sC ?rhDq2y13x19
        case hhDq2y13x19 => (intro w hw; obtain ⟨m1, m2, m3⟩ := hw; have q0 := m1.cell (i := 0) rfl; have q1 := m1.cell (i := 1) rfl; have q2 := m1.cell (i := 2) rfl; have r3 := m2.cell (i := 3) rfl; go_simp; try (with_reducible rfl))
        try simp only [Act.put, zA, zB, zC]
        refine rD 14 rfl (fun K hK => ?_)
        have hXD := (HBDD.out.below (box_below wdD (.cells #[.int .i64 xv, .int .i64 yv] 40))).kept hgD HNBD.out
        have hcxD := hXD.cell (i := 2) rfl
        have hfxD := hXD.free 2
        rw [if_pos (by rfl)]
        go_simp
        have sD := And.intro (sC.1.far (a := ⟨p7, 2, none⟩) (by show p13 ≠ p7; omega) (.slice (some ⟨gD, 0, none⟩) ((kbT OpV.val Z k j).length + 1) cD)) (And.intro (sC.2.1.far (a := ⟨p7, 2, none⟩) (by show p11 ≠ p7; omega) (.slice (some ⟨gD, 0, none⟩) ((kbT OpV.val Z k j).length + 1) cD)) ((Below.cell (p := ⟨gu, ou + j * 3 + 2, none⟩) (setcell_far wD ⟨p7, 2, none⟩ (.slice (some ⟨gD, 0, none⟩) ((kbT OpV.val Z k j).length + 1) cD)) (by show gu < p7; omega)).trans sC.2.2))
        show K _ _
        refine hK.out _ _ sD (fun _ => ?_)
        clear hK K
        refine wpAnyH_done (by kernel_rfl) ?_ _
        try simp only [Act.put]
        rw [← hxvD] at hgD hlD
        have hOD : PrO wD w5.heap.size (.slice (some ⟨gD, 0, none⟩) ((kbT OpV.val Z k j).length + 1) cD) ((kbT OpV.val Z k (j + 1))) := by
         unfold PrO
         rw [HVS1.out, frV_app, List.length_append]
         exact hnnD
        have hRD := (HRDD.out.below (box_below wdD (.cells #[.int .i64 xv, .int .i64 yv] 40))).app2 hOD hgD (by rw [World.size_alloc]; rw [World.size_alloc] at hlD; exact hlD)
        have hgsD := grown_set wD ⟨p7, 2, none⟩ (.slice (some ⟨gD, 0, none⟩) ((kbT OpV.val Z k j).length + 1) cD)
        have HBXD : Hid (BoxN (wD.setCell ⟨p7, 2, none⟩ (.slice (some ⟨gD, 0, none⟩) ((kbT OpV.val Z k j).length + 1) cD)) p7 26 #[nC, nA, (.slice (some ⟨gD, 0, none⟩) ((kbT OpV.val Z k j).length + 1) cD), nB, (.slice (some ⟨g4, 0, none⟩) h.length h.length)]) := hid (hXD.set 2 (.slice (some ⟨gD, 0, none⟩) ((kbT OpV.val Z k j).length + 1) cD))
        have HRD := hid (hRD.box hXD (by decide) hgsD)
        have HID := hid (IntO.box (show IntO wD w5.heap.size (.slice (some ⟨g4, 0, none⟩) h.length h.length) _ from World.ownsRow.kept (HIDD.out.below (box_below wdD (.cells #[.int .i64 xv, .int .i64 yv] 40))) hgD HNID.out) hXD (by decide) hgsD)
        have HBD := hid (((HBD0D.out.alloc HBD0D.out.size (.cells #[.int .i64 xv, .int .i64 yv] 40)).grown hgD (by have := HBD0D.out.size; simp; omega) (fun q e => (World.ownsRow.lt HRDD.out.o2 q e).1)).setCell (p := ⟨p7, 2, none⟩) (by show w5.heap.size ≤ p7; omega) (.slice (some ⟨gD, 0, none⟩) ((kbT OpV.val Z k j).length + 1) cD))
        have HP11D := hid sD.2.1
        have HP13D := hid sD.1
        clear hXD hcxD hfxD sA sC sD HUB hnnD hgD hlD hltD hOD hRD hgsD HUCD HOWD HBDD HRDD HIDD HBD0D HNBD HNID HN11D HN13D HNUD hxvD
        generalize (wD.setCell ⟨p7, 2, none⟩ (.slice (some ⟨gD, 0, none⟩) ((kbT OpV.val Z k j).length + 1) cD)) = WD at *
        obtain ⟨nD, hnD⟩ : ∃ v, (Value.slice (some ⟨gD, 0, none⟩) ((kbT OpV.val Z k j).length + 1) cD) = v := ⟨_, rfl⟩
        rw [hnD] at HBXD HRD
        clear hnD
        have HRD2 := HRD
        have HID2 := HID
        have HBD2 := HBD
        go_wp2_with fail
        go_roundw
        case rel => exact ⟨j + 1, _, _, by omega, by go_num, HBXD, HRD2, HID2, HP11D, HBD2⟩
        case measure => simp [intOf]; omega
      ·
       rw [if_pos (by rfl)]
       go_simp
       have sA := And.intro (hS0.1.below (box_below wdC (.cells #[.int .i64 xk, .int .i64 yk] 40))) (And.intro (hS0.2.1.below (box_below wdC (.cells #[.int .i64 xk, .int .i64 yk] 40))) (((box_below wdC (.cells #[.int .i64 xk, .int .i64 yk] 40)).cell (p := ⟨gu, ou + j * 3 + 1, none⟩) (block_lt hS0.2.2)).trans hS0.2.2))
       have HUB := ((box_below wdC (.cells #[.int .i64 xk, .int .i64 yk] 40)).cell (p := ⟨p7, 0, none⟩) (block_lt HUCC.out)).trans HUCC.out
       show K _ _
       refine hK.out _ _ sA (fun _ => ?_)
       clear hK K
       refine rD 1 rfl (fun K hK => ?_)
       have zu := HUB
       go_simp
       show K _ _
       refine hK.out _ _ sA (fun _ => ?_)
       clear hK K
       refine rD 12 rfl (fun K hK => ?_)
       refine step_append_lies _ rfl (.tmp 108) (.tmp 118) 23 rfl w5.heap.size 40 i0 (.agg #[.int .i64 0, .int .i64 0]) 2 16 Try.underlying23 hi hz0 hz1 hz2 rfl (by decide) _ _ _ (by simp [Act.eval]) (HOWC.out.alloc (.cells #[.int .i64 xk, .int .i64 yk] 40)) ⟨wdC.heap.size, 0, none⟩ 1 1 [.int .i64 xk, .int .i64 yk] (by simp [Act.eval]) rfl (lit_twoR wdC _ _ _) (by simp [Value.oneCell']) (by decide) (by unfold maxLen; omega) (by omega) (by simp; omega) _ rfl ?_
       intro gC cC wC hnnC hgC hlC hltC
       have sC := And.intro (sA.1.kept hgC HN13C.out) (And.intro (sA.2.1.kept hgC HN11C.out) ((World.grownBy.cell_far hgC ⟨gu, ou + j * 3 + 1, none⟩ (block_lt sA.2.2) HNUC.out).trans sA.2.2))
       refine hK.out _ _ sC (fun _ => ?_)
       clear hK K
       refine tG (some 120) 13 ?vhCq1y13x19 rfl rfl (Or.inl ⟨by rfl, ?hhCq1y13x19⟩) sC ?rhCq1y13x19
       case hhCq1y13x19 => (intro w hw; obtain ⟨m1, m2, m3⟩ := hw; have q0 := m1.cell (i := 0) rfl; have q1 := m1.cell (i := 1) rfl; have q2 := m1.cell (i := 2) rfl; have r3 := m2.cell (i := 3) rfl; go_simp; try (with_reducible rfl))
       try simp only [Act.put, zA, zB, zC]
       refine rD 14 rfl (fun K hK => ?_)
       have hXC := (HBDC.out.below (box_below wdC (.cells #[.int .i64 xk, .int .i64 yk] 40))).kept hgC HNBC.out
       have hcxC := hXC.cell (i := 0) rfl
       have hfxC := hXC.free 0
       rw [if_pos (by rfl)]
       go_simp
       have sD := And.intro (sC.1.far (a := ⟨p7, 0, none⟩) (by show p13 ≠ p7; omega) (.slice (some ⟨gC, 0, none⟩) ((kbT OpV.key Z k j).length + 1) cC)) (And.intro (sC.2.1.far (a := ⟨p7, 0, none⟩) (by show p11 ≠ p7; omega) (.slice (some ⟨gC, 0, none⟩) ((kbT OpV.key Z k j).length + 1) cC)) ((Below.cell (p := ⟨gu, ou + j * 3 + 1, none⟩) (setcell_far wC ⟨p7, 0, none⟩ (.slice (some ⟨gC, 0, none⟩) ((kbT OpV.key Z k j).length + 1) cC)) (by show gu < p7; omega)).trans sC.2.2))
       show K _ _
       refine hK.out _ _ sD (fun _ => ?_)
       clear hK K
       refine wpAnyH_done (by kernel_rfl) ?_ _
       try simp only [Act.put]
       rw [← hxvC] at hgC hlC
       have hOC : PrO wC w5.heap.size (.slice (some ⟨gC, 0, none⟩) ((kbT OpV.key Z k j).length + 1) cC) ((kbT OpV.key Z k (j + 1))) := by
        unfold PrO
        rw [HKS1.out, frV_app, List.length_append]
        exact hnnC
       have hRC := (HRDC.out.below (box_below wdC (.cells #[.int .i64 xk, .int .i64 yk] 40))).app0 hOC hgC (by rw [World.size_alloc]; rw [World.size_alloc] at hlC; exact hlC)
       have hgsC := grown_set wC ⟨p7, 0, none⟩ (.slice (some ⟨gC, 0, none⟩) ((kbT OpV.key Z k j).length + 1) cC)
       have HBXC : Hid (BoxN (wC.setCell ⟨p7, 0, none⟩ (.slice (some ⟨gC, 0, none⟩) ((kbT OpV.key Z k j).length + 1) cC)) p7 26 #[(.slice (some ⟨gC, 0, none⟩) ((kbT OpV.key Z k j).length + 1) cC), nA, uv, nB, (.slice (some ⟨g4, 0, none⟩) h.length h.length)]) := hid (hXC.set 0 (.slice (some ⟨gC, 0, none⟩) ((kbT OpV.key Z k j).length + 1) cC))
       have HRC := hid (hRC.box hXC (by decide) hgsC)
       have HIC := hid (IntO.box (show IntO wC w5.heap.size (.slice (some ⟨g4, 0, none⟩) h.length h.length) _ from World.ownsRow.kept (HIDC.out.below (box_below wdC (.cells #[.int .i64 xk, .int .i64 yk] 40))) hgC HNIC.out) hXC (by decide) hgsC)
       have HBC := hid (((HBD0C.out.alloc HBD0C.out.size (.cells #[.int .i64 xk, .int .i64 yk] 40)).grown hgC (by have := HBD0C.out.size; simp; omega) (fun q e => (World.ownsRow.lt HRDC.out.o0 q e).1)).setCell (p := ⟨p7, 0, none⟩) (by show w5.heap.size ≤ p7; omega) (.slice (some ⟨gC, 0, none⟩) ((kbT OpV.key Z k j).length + 1) cC))
       have HP11C := hid sD.2.1
       have HP13C := hid sD.1
       clear hXC hcxC hfxC sA sC sD HUB hnnC hgC hlC hltC hOC hRC hgsC HUCC HOWC HBDC HRDC HIDC HBD0C HNBC HNIC HN11C HN13C HNUC hxvC
       generalize (wC.setCell ⟨p7, 0, none⟩ (.slice (some ⟨gC, 0, none⟩) ((kbT OpV.key Z k j).length + 1) cC)) = WC at *
       obtain ⟨nC, hnC⟩ : ∃ v, (Value.slice (some ⟨gC, 0, none⟩) ((kbT OpV.key Z k j).length + 1) cC) = v := ⟨_, rfl⟩
       rw [hnC] at HBXC HRC
       clear hnC
       go_upto_region 24 with fail
       have hbdD := (Below.refl WC.heap.size WC).drew
       have HBDD := hid (HBXC.out.below hbdD)
       have HRDD := hid (HRC.out.below hbdD)
       have HIDD := hid (HIC.out.below hbdD)
       have HBD0D := hid (HBC.out.drew)
       have hS11D := HP11C.out.below hbdD
       have hS13D := HP13C.out.below hbdD
       obtain ⟨_, hguD, hu1, hu2, hu3⟩ := HOT.out _ HBD0D.out
       have hlgD : gu < w5.heap.size := HGU.out
       obtain ⟨xaD, xnD, xcD, hxvD⟩ : ∃ a n c, uv = .slice a n c := by
        obtain ⟨_, a, c, e, _⟩ := HRDD.out.o2.prn
        exact ⟨a, _, c, e⟩
       have HNBD : Hid (some p7 ≠ (Value.slice xaD xnD xcD).ownBlock) := hid (fun e => by
        rw [← hxvD] at e
        rcases owns_no_box HRDD.out.o2 HBDD.out (by decide) with q | q
        ·rw [q] at e; cases e
        ·exact q e.symm)
       have HN11D : Hid (some p11 ≠ (Value.slice xaD xnD xcD).ownBlock) := hid (fun e => by
        rw [← hxvD] at e
        rcases owns_no_box HRDD.out.o2 hS11D (by decide) with q | q
        ·rw [q] at e; cases e
        ·exact q e.symm)
       have HN13D : Hid (some p13 ≠ (Value.slice xaD xnD xcD).ownBlock) := hid (fun e => by
        rw [← hxvD] at e
        rcases owns_no_box HRDD.out.o2 hS13D (by decide) with q | q
        ·rw [q] at e; cases e
        ·exact q e.symm)
       have HNUD : Hid (some gu ≠ (Value.slice xaD xnD xcD).ownBlock) := hid (fun e => by
        rw [← hxvD] at e
        have := (World.ownsRow.lt HRDD.out.o2 gu e.symm).1
        omega)
       have HNID : Hid ((Value.slice (some ⟨g4, 0, none⟩) h.length h.length).ownBlock = none ∨ (Value.slice (some ⟨g4, 0, none⟩) h.length h.length).ownBlock ≠ uv.ownBlock) := hid (own_apart HIDD.out HRDD.out.o2 (by decide))
       have HUCD := hid (HBDD.out.cell (i := 2) rfl)
       have HOWD := hid (show WC.drew.ownsRow w5.heap.size 40 2 uv (kbT OpV.val Z k j).length (frV (kbT OpV.val Z k j)) from HRDD.out.o2)
       rw [hxvD] at HUCD HOWD
       have hlnD : (kbT OpV.val Z k j).length ≤ 2000 := by have := hvn; omega
       have hbzD := HBD0D.out.size
       clear hbdD HBXC HRC HIC HBC HP11C HP13C hguD
       refine wp_region_held_drew (S := fun wx => BoxN wx p13 42 #[.bool xw, .int .i64 xk, .int .i64 xv] ∧ BoxN wx p11 38 #[.int .i64 ts, .int .i64 tb, .int .i64 tc, .slice (some ⟨gu, ou, none⟩) tl.length tnc] ∧ wx.cell? ⟨gu, ou + j * 3 + 2, none⟩ = some (.int .i64 yv)) (by kernel_rfl) ⟨hS13D, hS11D, hu3⟩ (fun hS0 => ?_)
       generalize WC.drew = wdD at *
       refine tG (some 121) 0 ?vhDq3y0x1 rfl rfl (Or.inl ⟨by rfl, ?hhDq3y0x1⟩) hS0 ?rhDq3y0x1
       case hhDq3y0x1 => (intro w hw; obtain ⟨m1, m2, m3⟩ := hw; have q0 := m1.cell (i := 0) rfl; have q1 := m1.cell (i := 1) rfl; have q2 := m1.cell (i := 2) rfl; have r3 := m2.cell (i := 3) rfl; go_simp; try (with_reducible rfl))
       try simp only [Act.put, zA, zB, zC]
       refine tG (some 123) 2 ?vhDq3y2x2 rfl rfl (Or.inl ⟨by rfl, ?hhDq3y2x2⟩) hS0 ?rhDq3y2x2
       case hhDq3y2x2 => (intro w hw; obtain ⟨m1, m2, m3⟩ := hw; have q0 := m1.cell (i := 0) rfl; have q1 := m1.cell (i := 1) rfl; have q2 := m1.cell (i := 2) rfl; have r3 := m2.cell (i := 3) rfl; go_simp; try (with_reducible rfl))
       try simp only [Act.put, zA, zB, zC]
       refine tG (some 124) 3 ?vhDq3y3x3 rfl rfl (Or.inl ⟨by rfl, ?hhDq3y3x3⟩) hS0 ?rhDq3y3x3
       case hhDq3y3x3 => (intro w hw; obtain ⟨m1, m2, m3⟩ := hw; have q0 := m1.cell (i := 0) rfl; have q1 := m1.cell (i := 1) rfl; have q2 := m1.cell (i := 2) rfl; have r3 := m2.cell (i := 3) rfl; go_simp; try (with_reducible rfl))
       try simp only [Act.put, zA, zB, zC]
       refine tG (some 125) 4 ?vhDq3y4x4 rfl rfl (Or.inl ⟨by rfl, ?hhDq3y4x4⟩) hS0 ?rhDq3y4x4
       case hhDq3y4x4 => (intro w hw; obtain ⟨m1, m2, m3⟩ := hw; have q0 := m1.cell (i := 0) rfl; have q1 := m1.cell (i := 1) rfl; have q2 := m1.cell (i := 2) rfl; have r3 := m2.cell (i := 3) rfl; go_simp; try (with_reducible rfl))
       try simp only [Act.put, zA, zB, zC]
       refine tG (some 126) 5 ?vhDq3y5x5 rfl rfl (Or.inl ⟨by rfl, ?hhDq3y5x5⟩) hS0 ?rhDq3y5x5
       case hhDq3y5x5 => (intro w hw; obtain ⟨m1, m2, m3⟩ := hw; have q0 := m1.cell (i := 0) rfl; have q1 := m1.cell (i := 1) rfl; have q2 := m1.cell (i := 2) rfl; have r3 := m2.cell (i := 3) rfl; go_simp; try (with_reducible rfl))
       try simp only [Act.put, zA, zB, zC]
       refine tG (some 127) 6 ?vhDq3y6x6 rfl rfl (Or.inl ⟨by rfl, ?hhDq3y6x6⟩) hS0 ?rhDq3y6x6
       case hhDq3y6x6 => (intro w hw; obtain ⟨m1, m2, m3⟩ := hw; have q0 := m1.cell (i := 0) rfl; have q1 := m1.cell (i := 1) rfl; have q2 := m1.cell (i := 2) rfl; have r3 := m2.cell (i := 3) rfl; go_simp; try (with_reducible rfl))
       try simp only [Act.put, zA, zB, zC]
       refine tG (some 128) 7 ?vhDq3y7x7 rfl rfl (Or.inl ⟨by rfl, ?hhDq3y7x7⟩) hS0 ?rhDq3y7x7
       case hhDq3y7x7 => (intro w hw; obtain ⟨m1, m2, m3⟩ := hw; have q0 := m1.cell (i := 0) rfl; have q1 := m1.cell (i := 1) rfl; have q2 := m1.cell (i := 2) rfl; have r3 := m2.cell (i := 3) rfl; go_simp; try (with_reducible rfl))
       try simp only [Act.put, zA, zB, zC]
       refine tG (some 129) 8 ?vhDq3y8x8 rfl rfl (Or.inl ⟨by rfl, ?hhDq3y8x8⟩) hS0 ?rhDq3y8x8
       case hhDq3y8x8 => (intro w hw; obtain ⟨m1, m2, m3⟩ := hw; have q0 := m1.cell (i := 0) rfl; have q1 := m1.cell (i := 1) rfl; have q2 := m1.cell (i := 2) rfl; have r3 := m2.cell (i := 3) rfl; go_simp; try (with_reducible rfl))
       try simp only [Act.put, zA, zB, zC]
       refine tG (some 130) 9 ?vhDq3y9x9 rfl rfl (Or.inl ⟨by rfl, ?hhDq3y9x9⟩) hS0 ?rhDq3y9x9
       case hhDq3y9x9 => (intro w hw; obtain ⟨m1, m2, m3⟩ := hw; have q0 := m1.cell (i := 0) rfl; have q1 := m1.cell (i := 1) rfl; have q2 := m1.cell (i := 2) rfl; have r3 := m2.cell (i := 3) rfl; go_simp; try (with_reducible rfl))
       try simp only [Act.put, zA, zB, zC]
       refine tG (some 131) 10 ?vhDq3y10x10 rfl rfl (Or.inl ⟨by rfl, ?hhDq3y10x10⟩) hS0 ?rhDq3y10x10
       case hhDq3y10x10 => (intro w hw; obtain ⟨m1, m2, m3⟩ := hw; have q0 := m1.cell (i := 0) rfl; have q1 := m1.cell (i := 1) rfl; have q2 := m1.cell (i := 2) rfl; have r3 := m2.cell (i := 3) rfl; go_simp; try (with_reducible rfl))
       try simp only [Act.put, zA, zB, zC]
       refine wpAnyH_ready (rs := [1, 11]) (by kernel_rfl) (by simp) ?_
       refine AllReadyH.cons rfl (fun K hK => ?_) (AllReadyH.cons rfl (fun K hK => ?_) AllReadyH.nil)
       ·
        have zu := HUCD.out
        go_simp
        show K _ _
        refine hK.out _ _ hS0 (fun _ => ?_)
        clear hK K
        refine rD 11 rfl (fun K hK => ?_)
        rw [if_pos (by rfl)]
        go_simp
        have sA := And.intro (hS0.1.below (box_below wdD (.cells #[.int .i64 xv, .int .i64 yv] 40))) (And.intro (hS0.2.1.below (box_below wdD (.cells #[.int .i64 xv, .int .i64 yv] 40))) (((box_below wdD (.cells #[.int .i64 xv, .int .i64 yv] 40)).cell (p := ⟨gu, ou + j * 3 + 2, none⟩) (block_lt hS0.2.2)).trans hS0.2.2))
        have HUB := ((box_below wdD (.cells #[.int .i64 xv, .int .i64 yv] 40)).cell (p := ⟨p7, 2, none⟩) (block_lt HUCD.out)).trans HUCD.out
        show K _ _
        refine hK.out _ _ sA (fun _ => ?_)
        clear hK K
        refine rD 12 rfl (fun K hK => ?_)
        refine step_append_lies _ rfl (.tmp 122) (.tmp 132) 23 rfl w5.heap.size 40 i0 (.agg #[.int .i64 0, .int .i64 0]) 2 16 Try.underlying23 hi hz0 hz1 hz2 rfl (by decide) _ _ _ (by simp [Act.eval]) (HOWD.out.alloc (.cells #[.int .i64 xv, .int .i64 yv] 40)) ⟨wdD.heap.size, 0, none⟩ 1 1 [.int .i64 xv, .int .i64 yv] (by simp [Act.eval]) rfl (lit_twoR wdD _ _ _) (by simp [Value.oneCell']) (by decide) (by unfold maxLen; omega) (by omega) (by simp; omega) _ rfl ?_
        intro gD cD wD hnnD hgD hlD hltD
        have sC := And.intro (sA.1.kept hgD HN13D.out) (And.intro (sA.2.1.kept hgD HN11D.out) ((World.grownBy.cell_far hgD ⟨gu, ou + j * 3 + 2, none⟩ (block_lt sA.2.2) HNUD.out).trans sA.2.2))
        refine hK.out _ _ sC (fun _ => ?_)
        clear hK K
        refine tG (some 134) 13 ?vhDq3y13x14 rfl rfl (Or.inl ⟨by rfl, ?hhDq3y13x14⟩) sC ?rhDq3y13x14
        case hhDq3y13x14 => (intro w hw; obtain ⟨m1, m2, m3⟩ := hw; have q0 := m1.cell (i := 0) rfl; have q1 := m1.cell (i := 1) rfl; have q2 := m1.cell (i := 2) rfl; have r3 := m2.cell (i := 3) rfl; go_simp; try (with_reducible rfl))
        try simp only [Act.put, zA, zB, zC]
        refine rD 14 rfl (fun K hK => ?_)
        have hXD := (HBDD.out.below (box_below wdD (.cells #[.int .i64 xv, .int .i64 yv] 40))).kept hgD HNBD.out
        have hcxD := hXD.cell (i := 2) rfl
        have hfxD := hXD.free 2
        rw [if_pos (by rfl)]
        go_simp
        have sD := And.intro (sC.1.far (a := ⟨p7, 2, none⟩) (by show p13 ≠ p7; omega) (.slice (some ⟨gD, 0, none⟩) ((kbT OpV.val Z k j).length + 1) cD)) (And.intro (sC.2.1.far (a := ⟨p7, 2, none⟩) (by show p11 ≠ p7; omega) (.slice (some ⟨gD, 0, none⟩) ((kbT OpV.val Z k j).length + 1) cD)) ((Below.cell (p := ⟨gu, ou + j * 3 + 2, none⟩) (setcell_far wD ⟨p7, 2, none⟩ (.slice (some ⟨gD, 0, none⟩) ((kbT OpV.val Z k j).length + 1) cD)) (by show gu < p7; omega)).trans sC.2.2))
        show K _ _
        refine hK.out _ _ sD (fun _ => ?_)
        clear hK K
        refine wpAnyH_done (by kernel_rfl) ?_ _
        try simp only [Act.put]
        rw [← hxvD] at hgD hlD
        have hOD : PrO wD w5.heap.size (.slice (some ⟨gD, 0, none⟩) ((kbT OpV.val Z k j).length + 1) cD) ((kbT OpV.val Z k (j + 1))) := by
         unfold PrO
         rw [HVS1.out, frV_app, List.length_append]
         exact hnnD
        have hRD := (HRDD.out.below (box_below wdD (.cells #[.int .i64 xv, .int .i64 yv] 40))).app2 hOD hgD (by rw [World.size_alloc]; rw [World.size_alloc] at hlD; exact hlD)
        have hgsD := grown_set wD ⟨p7, 2, none⟩ (.slice (some ⟨gD, 0, none⟩) ((kbT OpV.val Z k j).length + 1) cD)
        have HBXD : Hid (BoxN (wD.setCell ⟨p7, 2, none⟩ (.slice (some ⟨gD, 0, none⟩) ((kbT OpV.val Z k j).length + 1) cD)) p7 26 #[nC, nA, (.slice (some ⟨gD, 0, none⟩) ((kbT OpV.val Z k j).length + 1) cD), nB, (.slice (some ⟨g4, 0, none⟩) h.length h.length)]) := hid (hXD.set 2 (.slice (some ⟨gD, 0, none⟩) ((kbT OpV.val Z k j).length + 1) cD))
        have HRD := hid (hRD.box hXD (by decide) hgsD)
        have HID := hid (IntO.box (show IntO wD w5.heap.size (.slice (some ⟨g4, 0, none⟩) h.length h.length) _ from World.ownsRow.kept (HIDD.out.below (box_below wdD (.cells #[.int .i64 xv, .int .i64 yv] 40))) hgD HNID.out) hXD (by decide) hgsD)
        have HBD := hid (((HBD0D.out.alloc HBD0D.out.size (.cells #[.int .i64 xv, .int .i64 yv] 40)).grown hgD (by have := HBD0D.out.size; simp; omega) (fun q e => (World.ownsRow.lt HRDD.out.o2 q e).1)).setCell (p := ⟨p7, 2, none⟩) (by show w5.heap.size ≤ p7; omega) (.slice (some ⟨gD, 0, none⟩) ((kbT OpV.val Z k j).length + 1) cD))
        have HP11D := hid sD.2.1
        have HP13D := hid sD.1
        clear hXD hcxD hfxD sA sC sD HUB hnnD hgD hlD hltD hOD hRD hgsD HUCD HOWD HBDD HRDD HIDD HBD0D HNBD HNID HN11D HN13D HNUD hxvD
        generalize (wD.setCell ⟨p7, 2, none⟩ (.slice (some ⟨gD, 0, none⟩) ((kbT OpV.val Z k j).length + 1) cD)) = WD at *
        obtain ⟨nD, hnD⟩ : ∃ v, (Value.slice (some ⟨gD, 0, none⟩) ((kbT OpV.val Z k j).length + 1) cD) = v := ⟨_, rfl⟩
        rw [hnD] at HBXD HRD
        clear hnD
        have HRD2 := HRD
        have HID2 := HID
        have HBD2 := HBD
        go_wp2_with fail
        go_roundw
        case rel => exact ⟨j + 1, _, _, by omega, by go_num, HBXD, HRD2, HID2, HP11D, HBD2⟩
        case measure => simp [intOf]; omega
       ·
        rw [if_pos (by rfl)]
        go_simp
        have sA := And.intro (hS0.1.below (box_below wdD (.cells #[.int .i64 xv, .int .i64 yv] 40))) (And.intro (hS0.2.1.below (box_below wdD (.cells #[.int .i64 xv, .int .i64 yv] 40))) (((box_below wdD (.cells #[.int .i64 xv, .int .i64 yv] 40)).cell (p := ⟨gu, ou + j * 3 + 2, none⟩) (block_lt hS0.2.2)).trans hS0.2.2))
        have HUB := ((box_below wdD (.cells #[.int .i64 xv, .int .i64 yv] 40)).cell (p := ⟨p7, 2, none⟩) (block_lt HUCD.out)).trans HUCD.out
        show K _ _
        refine hK.out _ _ sA (fun _ => ?_)
        clear hK K
        refine rD 1 rfl (fun K hK => ?_)
        have zu := HUB
        go_simp
        show K _ _
        refine hK.out _ _ sA (fun _ => ?_)
        clear hK K
        refine rD 12 rfl (fun K hK => ?_)
        refine step_append_lies _ rfl (.tmp 122) (.tmp 132) 23 rfl w5.heap.size 40 i0 (.agg #[.int .i64 0, .int .i64 0]) 2 16 Try.underlying23 hi hz0 hz1 hz2 rfl (by decide) _ _ _ (by simp [Act.eval]) (HOWD.out.alloc (.cells #[.int .i64 xv, .int .i64 yv] 40)) ⟨wdD.heap.size, 0, none⟩ 1 1 [.int .i64 xv, .int .i64 yv] (by simp [Act.eval]) rfl (lit_twoR wdD _ _ _) (by simp [Value.oneCell']) (by decide) (by unfold maxLen; omega) (by omega) (by simp; omega) _ rfl ?_
        intro gD cD wD hnnD hgD hlD hltD
        have sC := And.intro (sA.1.kept hgD HN13D.out) (And.intro (sA.2.1.kept hgD HN11D.out) ((World.grownBy.cell_far hgD ⟨gu, ou + j * 3 + 2, none⟩ (block_lt sA.2.2) HNUD.out).trans sA.2.2))
        refine hK.out _ _ sC (fun _ => ?_)
        clear hK K
        refine tG (some 134) 13 ?vhDq3y13x19 rfl rfl (Or.inl ⟨by rfl, ?hhDq3y13x19⟩) sC ?rhDq3y13x19
        case hhDq3y13x19 => (intro w hw; obtain ⟨m1, m2, m3⟩ := hw; have q0 := m1.cell (i := 0) rfl; have q1 := m1.cell (i := 1) rfl; have q2 := m1.cell (i := 2) rfl; have r3 := m2.cell (i := 3) rfl; go_simp; try (with_reducible rfl))
        try simp only [Act.put, zA, zB, zC]
        refine rD 14 rfl (fun K hK => ?_)
        have hXD := (HBDD.out.below (box_below wdD (.cells #[.int .i64 xv, .int .i64 yv] 40))).kept hgD HNBD.out
        have hcxD := hXD.cell (i := 2) rfl
        have hfxD := hXD.free 2
        rw [if_pos (by rfl)]
        go_simp
        have sD := And.intro (sC.1.far (a := ⟨p7, 2, none⟩) (by show p13 ≠ p7; omega) (.slice (some ⟨gD, 0, none⟩) ((kbT OpV.val Z k j).length + 1) cD)) (And.intro (sC.2.1.far (a := ⟨p7, 2, none⟩) (by show p11 ≠ p7; omega) (.slice (some ⟨gD, 0, none⟩) ((kbT OpV.val Z k j).length + 1) cD)) ((Below.cell (p := ⟨gu, ou + j * 3 + 2, none⟩) (setcell_far wD ⟨p7, 2, none⟩ (.slice (some ⟨gD, 0, none⟩) ((kbT OpV.val Z k j).length + 1) cD)) (by show gu < p7; omega)).trans sC.2.2))
        show K _ _
        refine hK.out _ _ sD (fun _ => ?_)
        clear hK K
        refine wpAnyH_done (by kernel_rfl) ?_ _
        try simp only [Act.put]
        rw [← hxvD] at hgD hlD
        have hOD : PrO wD w5.heap.size (.slice (some ⟨gD, 0, none⟩) ((kbT OpV.val Z k j).length + 1) cD) ((kbT OpV.val Z k (j + 1))) := by
         unfold PrO
         rw [HVS1.out, frV_app, List.length_append]
         exact hnnD
        have hRD := (HRDD.out.below (box_below wdD (.cells #[.int .i64 xv, .int .i64 yv] 40))).app2 hOD hgD (by rw [World.size_alloc]; rw [World.size_alloc] at hlD; exact hlD)
        have hgsD := grown_set wD ⟨p7, 2, none⟩ (.slice (some ⟨gD, 0, none⟩) ((kbT OpV.val Z k j).length + 1) cD)
        have HBXD : Hid (BoxN (wD.setCell ⟨p7, 2, none⟩ (.slice (some ⟨gD, 0, none⟩) ((kbT OpV.val Z k j).length + 1) cD)) p7 26 #[nC, nA, (.slice (some ⟨gD, 0, none⟩) ((kbT OpV.val Z k j).length + 1) cD), nB, (.slice (some ⟨g4, 0, none⟩) h.length h.length)]) := hid (hXD.set 2 (.slice (some ⟨gD, 0, none⟩) ((kbT OpV.val Z k j).length + 1) cD))
        have HRD := hid (hRD.box hXD (by decide) hgsD)
        have HID := hid (IntO.box (show IntO wD w5.heap.size (.slice (some ⟨g4, 0, none⟩) h.length h.length) _ from World.ownsRow.kept (HIDD.out.below (box_below wdD (.cells #[.int .i64 xv, .int .i64 yv] 40))) hgD HNID.out) hXD (by decide) hgsD)
        have HBD := hid (((HBD0D.out.alloc HBD0D.out.size (.cells #[.int .i64 xv, .int .i64 yv] 40)).grown hgD (by have := HBD0D.out.size; simp; omega) (fun q e => (World.ownsRow.lt HRDD.out.o2 q e).1)).setCell (p := ⟨p7, 2, none⟩) (by show w5.heap.size ≤ p7; omega) (.slice (some ⟨gD, 0, none⟩) ((kbT OpV.val Z k j).length + 1) cD))
        have HP11D := hid sD.2.1
        have HP13D := hid sD.1
        clear hXD hcxD hfxD sA sC sD HUB hnnD hgD hlD hltD hOD hRD hgsD HUCD HOWD HBDD HRDD HIDD HBD0D HNBD HNID HN11D HN13D HNUD hxvD
        generalize (wD.setCell ⟨p7, 2, none⟩ (.slice (some ⟨gD, 0, none⟩) ((kbT OpV.val Z k j).length + 1) cD)) = WD at *
        obtain ⟨nD, hnD⟩ : ∃ v, (Value.slice (some ⟨gD, 0, none⟩) ((kbT OpV.val Z k j).length + 1) cD) = v := ⟨_, rfl⟩
        rw [hnD] at HBXD HRD
        clear hnD
        have HRD2 := HRD
        have HID2 := HID
        have HBD2 := HBD
        go_wp2_with fail
        go_roundw
        case rel => exact ⟨j + 1, _, _, by omega, by go_num, HBXD, HRD2, HID2, HP11D, HBD2⟩
        case measure => simp [intOf]; omega
     ·obtain rfl : j = ul.length := by omega
      have hji : ¬ (ul.length : Int) < (ul.length : Int) := by omega
      rw [HKD.out, HKD.out] at HRq
      go_wp2_with fail
      go_roundw
      case rel => exact ⟨k + 1, _, _, _, _, by omega, by go_num, HBXq, HRq, HIq, HBq⟩
      case measure => simp [intOf]; omega
  ·obtain rfl : k = h.length := by omega
   have hki : ¬ (h.length : Int) < (h.length : Int) := by omega
   have hR := HR.out
   have e1 : kbT OpV.key Z h.length 0 = bkK Z := by rw [← HZL.out, kbT_all]; rfl
   have e2 : kbT OpV.val Z h.length 0 = bkV Z := by rw [← HZL.out, kbT_all]; rfl
   have e3 : Z.take h.length = Z := List.take_of_length_le (by rw [HZL.out]; exact Nat.le_refl _)
   rw [e1, e2, e3] at hR
   have hkn := HKL.out OpV.key h.length 0
   have hvn := HKL.out OpV.val h.length 0
   have hsn := HSL.out h.length
   have htn := HTL.out h.length
   rw [e1] at hkn
   rw [e2] at hvn
   rw [e3] at hsn htn
   have sh : ∀ {v : Value} {L : List (Int × Int)}, PrO wr w5.heap.size v L → ∃ a n c, v = .slice a n c := fun {v L} q => by
    obtain ⟨_, a, c, e, _⟩ := q.prn
    exact ⟨a, _, c, e⟩
   obtain ⟨k1, k2, k3, rfl⟩ := sh hR.o0
   obtain ⟨s1, s2, s3, rfl⟩ := sh hR.o1
   obtain ⟨v1, v2, v3, rfl⟩ := sh hR.o2
   obtain ⟨t1, t2, t3, rfl⟩ := sh hR.o3
   have q0 := HBX.out.cell (i := 0) rfl
   have q1 := HBX.out.cell (i := 1) rfl
   have q2 := HBX.out.cell (i := 2) rfl
   have q3 := HBX.out.cell (i := 3) rfl
   have q4 := HBX.out.cell (i := 4) rfl
   have HRR := hid hR
   have HOA := HOI.out
   have CM := hid (map21_any _ _ _ _ _ (bkK Z) (bkS Z) (bkV Z) (bkT Z) (bkO L h.length h.length) wr hR.o0.prn hR.o1.prn hR.o2.prn hR.o3.prn HI.out.ints (fun p hp => inI_of (HOA.1 p hp).1) (fun p hp => inI_of (HOA.2.1 p hp).1) (fun p hp => inI_of (HOA.2.2.1 p hp).1) (fun p hp => inI_of (HOA.2.2.2 p hp).1) (by omega) (by omega) (by omega) (by omega))
   have HIS := hid (fun wx (hx : Below wr.heap.size wr wx) => (HI.out.below hx).ints)
   clear hR e1 e2 e3 hkn hvn hsn htn sh HBX HR HI HOA
   go_wp2_with fail
   refine CM.out.mono ?_
   rintro e wm ⟨⟨mK, mS, mV, mT, rfl, hN⟩, hm1⟩
   have HBm := hid (below_then HB.out hm1)
   have CA := hid (rapply_any _ mK mS mV mT _ (ofF (bkK Z)) (ofF (bkS Z)) (ofF (bkV Z)) (ofF (bkT Z)) (bkO L h.length h.length) c wm hN (HIS.out _ hm1) (by rw [bkO_len]; omega) (HTX.out _ HBm.out) (can_ok HCC.out) (can_short HCC.out) (okN_of fun p hp => (HOI.out.1 p hp).2) (okN_of fun p hp => (HOI.out.2.1 p hp).2) (okN_of fun p hp => (HOI.out.2.2.1 p hp).2) (okN_of fun p hp => (HOI.out.2.2.2 p hp).2))
   clear CM hN hm1 HB HIS q0 q1 q2 q3 q4
   go_wp2_with fail
   refine CA.out.mono ?_
   rintro e wa ⟨hq, ha1⟩
   have HBa := hid (below_then HBm.out ha1)
   clear CA ha1 HBm
   rcases hq with ⟨hap, v, rfl, d, hM, hde⟩ | ⟨hno, rfl⟩
   case inr => exact absurd HBA.out.1 hno
   obtain ⟨ya, yc, rfl, _⟩ := hM.txns.form
   have CS := hid (sameH_any _ _ d h wa hM.txns (HH5.out _ HBa.out))
   have hde2 : d.map txE = h.map txE := hde.trans HBA.out.2
   rw [show sameH d h = true from by unfold sameH; rw [hde2]; simp] at CS
   clear hap hM hde hde2
   go_wp2_with fail
   refine CS.out.mono ?_
   rintro e wz ⟨rfl, hz⟩
   have hbz := below_then HB5.out (below_then HBa.out hz)
   clear CS hz
   go_wp2_with fail
   go_ret
   exact ⟨rfl, hbz⟩
end

end Go.Proofs.Ytipmfhgdeghmjaa
