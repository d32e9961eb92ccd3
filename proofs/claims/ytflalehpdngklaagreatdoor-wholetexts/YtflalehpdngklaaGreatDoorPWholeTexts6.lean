/- Walks and plain facts that the proof of the statement WholeTexts uses, joined: TopC. Conditions: each theorem's own. -/
import Derived.Test.YtflalehpdngklaaGreatDoorPWholeTexts3
import Derived.Test.YtflalehpdngklaaGreatDoorPWholeTexts4
import Derived.Test.YtflalehpdngklaaGreatDoorPWholeTexts5
namespace Go.Proofs.YtflalehpdngklaaGreatDoor
set_option maxRecDepth 100000
open Go.RowKit

theorem sAt_z (h : List TxnV) (k : Nat) : sAt (h.map zT) k = sAt h k := by unfold sAt; rw [List.getElem?_map]; cases h[k]? <;> rfl
theorem bAt_z (h : List TxnV) (k : Nat) : bAt (h.map zT) k = bAt h k := by unfold bAt; rw [List.getElem?_map]; cases h[k]? <;> rfl
theorem cAt_z (h : List TxnV) (k : Nat) : cAt (h.map zT) k = cAt h k := by unfold cAt; rw [List.getElem?_map]; cases h[k]? <;> rfl
theorem sesM_z (h : List TxnV) : sesM (h.map zT) = sesM h := by
  have : sesP (h.map zT) = sesP h := by funext a b; unfold sesP; rw [sAt_z, sAt_z]
  unfold sesM; rw [this, List.length_map]
theorem timM_z (h : List TxnV) : timM (h.map zT) = timM h := by
  have : timP (h.map zT) = timP h := by funext a b; unfold timP; rw [cAt_z, bAt_z]
  unfold timM; rw [this, List.length_map]
theorem readsOf_z (h : List TxnV) (i : Nat) : readsOf (h.map zT) i = readsOf h i := by unfold readsOf; rw [wrTo_z, opsAt_z, List.length_map]
theorem froM_z (h : List TxnV) : froM (h.map zT) = froM h := by
  have : froP (h.map zT) = froP h := by funext a b; unfold froP; rw [readsOf_z]
  unfold froM; rw [this, List.length_map]
theorem soundTo_z (h : List TxnV) (k : Nat) : soundTo (h.map zT) k = soundTo h k := by
  have : soundOf (h.map zT) = soundOf h := by funext i; unfold soundOf; rw [wrTo_z, opsAt_z, List.length_map]
  unfold soundTo; rw [this]
theorem rivN_z (h : List TxnV) (i : Nat) : rivN (h.map zT) i = rivN h i := by
  have : rivB (h.map zT) i = rivB h i := by
    funext k
    unfold rivB rivR wrsR
    rw [opsAt_z, opsAt_z, List.length_map]
  unfold rivN; rw [this]
/-- Two histories that are the same but for where they lie have the same orders. -/
theorem txE_len {c h : List TxnV} (e : c.map txE = h.map txE) : c.length = h.length := by simpa using congrArg List.length e
theorem orders_txE {c h : List TxnV} (e : c.map txE = h.map txE) : sesM c = sesM h ∧ timM c = timM h ∧ froM c = froM h ∧ soundTo c c.length = soundTo h h.length ∧ (∀ i, readsOf c i = readsOf h i) ∧ ∀ i, rivN c i = rivN h i := by
  have z := zT_of e
  refine ⟨?_, ?_, ?_, ?_, fun i => ?_, fun i => ?_⟩
  · rw [← sesM_z c, ← sesM_z h, z]
  · rw [← timM_z c, ← timM_z h, z]
  · rw [← froM_z c, ← froM_z h, z]
  · rw [← soundTo_z c, ← soundTo_z h, z, txE_len e]
  · rw [← readsOf_z c, ← readsOf_z h, z]
  · rw [← rivN_z c, ← rivN_z h, z]
/-- Where what is read lies. -/
theorem ordis_reads {w : World} {B b : Nat} {h : List TxnV} (hO : OrdIs w B b h) : ∃ ro rcap, w.cell? ⟨B, 195, none⟩ = some (.slice ro h.length rcap) ∧ ∀ i, i < h.length → ∃ g o ao cap, ro = some ⟨g, o, none⟩ ∧ w.cell? ⟨g, o + i, none⟩ = some (.slice ao (readsOf h i).length cap) ∧ Frs w (.slice ao (readsOf h i).length cap) (readsOf h i) := by
  obtain ⟨bm, m, c, vk, vr, K, R, h1, h2, h3, h4, h5, h6⟩ := hO
  have hl : R.length = h.length := by have := congrArg List.length h6; simpa [readsTo] using this
  have hF := h4.frws
  obtain ⟨⟨hlen, ro, rcap, rfl, hm, hno, hc⟩, hE⟩ := hF
  refine ⟨ro, rcap, by rw [← hl]; exact h1.cR, fun i hi => ?_⟩
  obtain ⟨g, o, rfl, hcell⟩ := hc (by omega)
  have hiR : i < R.length := by omega
  have he : R[i].2 = readsOf h i := by
    have := congrArg (·[i]?) h6
    simp only [List.getElem?_map, List.getElem?_eq_getElem hiR, readsTo, List.getElem?_range hi, Option.map_some] at this
    exact Option.some.inj this
  have hfr := hE _ (List.getElem_mem hiR)
  rw [he] at hfr
  obtain ⟨ao, cap, e, _⟩ := hfr.form
  refine ⟨g, o, ao, cap, rfl, ?_, by rw [← e]; exact hfr⟩
  rw [hcell i (by omega), List.getElem?_map, List.getElem?_eq_getElem hiR]
  rw [← e]; rfl
theorem neqRd (k f : Int) (w : World) : Sem.run Tryz.prog (binOp .neq 95 (.agg #[.int .i64 k, .int .i64 f]) (.agg #[.int .i64 k, .int .i64 f])) w = .ok (.bool false) w := by
  have hS : Tryz.prog.underlying 95 = some (.struct (Tryz.prog.fieldsOf 95)) := by kernel_rfl
  have hp : Tryz.prog.stoodInHeld 95 = false := by kernel_rfl
  have u3 := Tryz.underlying3
  rw [run_neq_struct, show (10000 : Nat) = 9999 + 1 from rfl, run_equalIn_agg w 9999 95 _ _ hS hp]
  simp only [Program.fieldsOf, Tryz.underlying95]
  go_simp
theorem guardRd4 (o : BinOp) (x y : Operand) (k f k' f' : Int) (w : World) : Sem.run Tryz.prog (eqGuard o 95 x y (.agg #[.int .i64 k, .int .i64 f]) (.agg #[.int .i64 k', .int .i64 f'])) w = .ok () w :=
  run_eqGuard_agg w o 95 x y _ _ (by kernel_rfl)
theorem wrI_lt (key x : Int) (h : List TxnV) : wrI key x h < (h.length : Int) := by
  unfold wrI
  split
  · rename_i k he
    obtain ⟨hlt, _⟩ := List.findIdx?_eq_some_iff_getElem.1 he
    omega
  · omega
theorem reads_lt {h : List TxnV} (hc : checkI h = 0) {i : Nat} (hi : i < h.length) {r : Int × Int} (hr : r ∈ readsOf h i) : r.2 < (h.length : Int) := by
  rw [reads_same hc hi] at hr
  unfold rdR at hr
  obtain ⟨o, _, rfl⟩ := List.mem_map.1 hr
  show fromR h o < _
  unfold fromR
  split
  · omega
  · exact wrI_lt _ _ _
theorem txE_memc {c h : List TxnV} (e : c.map txE = h.map txE) {t : TxnV} (ht : t ∈ c) : ∃ u ∈ h, txE u = txE t := by
  have : txE t ∈ h.map txE := by rw [← e]; exact List.mem_map.2 ⟨t, ht, rfl⟩
  obtain ⟨u, hu, h2⟩ := List.mem_map.1 this
  exact ⟨u, hu, h2⟩
theorem okc_txE {c h : List TxnV} (e : c.map txE = h.map txE) (hok : ∀ t ∈ h, t.ok) : ∀ t ∈ c, t.ok := fun t ht => by
  obtain ⟨u, hu, h2⟩ := txE_memc e ht
  have h3 := hok u hu
  unfold txE at h2
  simp only [Prod.mk.injEq] at h2
  obtain ⟨q1, q2, q3, q4⟩ := h2
  unfold TxnV.ok at *
  rw [← q1, ← q2, ← q3, ← q4]; exact h3
theorem shc_txE {c h : List TxnV} (e : c.map txE = h.map txE) (hs : Short h) : Short c := fun t ht => by
  obtain ⟨u, hu, h2⟩ := txE_memc e ht
  have h3 := hs u hu
  unfold txE at h2
  simp only [Prod.mk.injEq] at h2
  rw [← h2.2.2.2]; exact h3
theorem tim_path {h : List TxnV} (hc : checkI h = 0) {i j : Nat} (hp : Path (timM h) i j) (hi : i < 64) (hj : j < 64) : timM h i j = true := by
  induction hp with
  | one h1 => exact h1
  | @more a m b h1 hm _ ih =>
    have h2 := ih hm hj
    obtain ⟨a1, a2, a3⟩ := (prsTo_iff (timP h) h.length _ _ hi hm h.length).1 h1
    obtain ⟨b1, b2, b3⟩ := (prsTo_iff (timP h) h.length _ _ hm hj h.length).1 h2
    refine (prsTo_iff (timP h) h.length _ _ hi hj h.length).2 ⟨a1, b2, ?_⟩
    unfold timP at *
    rw [decide_eq_true_eq] at *
    have := bc_of hc a2
    rw [bAt_eq a2] at a3
    rw [cAt_eq a2] at b3
    omega
theorem tim_clo {h : List TxnV} (hc : checkI h = 0) : rowsA (clo (timM h)) = rowsA (timM h) := rowsA_congr fun i j hi hj => by
  rw [Bool.eq_iff_iff, clo_iff]
  exact ⟨fun hp => tim_path hc hp hi hj, fun h1 => .one h1⟩
theorem from_has {h : List TxnV} (hc : checkI h = 0) {i : Nat} (hi : i < h.length) {r : Int × Int} (hr : r ∈ readsOf h i) (h0 : 0 ≤ r.2) : hasR (froM h) r.2 (i : Int) = true := by
  have h64 := (check_zero hc).1
  obtain ⟨j, hj⟩ := Int.eq_ofNat_of_zero_le h0
  have hp : froP h j i = true := by unfold froP; rw [List.any_eq_true]; exact ⟨r, hr, by rw [decide_eq_true_eq]; exact hj⟩
  have hjn : j < h.length := by have := reads_lt hc hi hr; omega
  rw [hj]
  unfold froM
  rw [hasR_prs _ _ h64 j i hjn hi]; exact hp
set_option maxRecDepth 100000 in
set_option maxHeartbeats 32000000 in
theorem texts4_walk (va : Value) (h : List TxnV) (w : World) (he : Env w) (hT : Txns w va h) (hok : ∀ t ∈ h, t.ok) (hsh : Short h) :
    Calls Tryz.prog 9 #[va] w fun e w' => e = .returned (.bool true) ∧ Below w.heap.size w w' := by
  have HT := Lib.hid (fun wx (hx : Below w.heap.size w wx) => hT.below hx)
  have HE := Lib.hid (fun wx (hx : Below w.heap.size w wx) => he.below hx)
  have CS := Lib.hid (sp7_parse w he)
  obtain ⟨ao, cap, rfl, hal⟩ := hT.form
  have HOK := Lib.hid hok
  have HSH := Lib.hid hsh
  clear hT he
  unfold sp7a at CS
  go_enter Tryz.func9, Tryz.ntmps9
  go_wp2_with fail
  refine (CS.out).mono ?_
  rintro e w1 ⟨v1, tv1, rfl, hM1, hb1⟩
  obtain ⟨a1, c1, rfl, _⟩ := hM1.txns.form
  simp only [List.length_cons, List.length_nil]
  clear CS hM1
  go_wp2_with fail
  refine (big_any _ h _ (HT.out _ hb1) hsh).mono ?_
  rintro e w2 ⟨rfl, hb2⟩
  have hb2 := below_then hb1 hb2
  clear hb1
  by_cases hbig : bigI h = 1
  · rw [hbig]
    go_wp2_with fail
    go_ret
    exact ⟨rfl, hb2⟩
  have h0 : bigI h = 0 := by
    unfold bigI at hbig ⊢; split at hbig
    · exact (hbig rfl).elim
    · rename_i hn; rw [if_neg hn]
  obtain ⟨hs1, hs2⟩ := big_no h0
  rw [h0]
  clear hbig h0
  have CK := Lib.hid (rcheck_any _ h _ (HT.out _ hb2) hsh)
  rw [← check_ref] at CK
  by_cases hc : checkI h = 0
  rotate_left
  · generalize checkI h = E at *
    go_wp2_with fail
    refine (CK.out).mono ?_
    rintro e w3 ⟨rfl, hb3⟩
    have hb3 := below_then hb2 hb3
    go_wp2_with fail
    go_ret
    exact ⟨rfl, hb3⟩
  rw [hc] at CK
  have HB := Lib.hid (fun wx (hx : Env wx) => parse_back hok hc wx hx)
  have HP : Hid (∀ wx, Below w.heap.size w wx → Calls Tryz.prog 48 #[.slice ao h.length cap] wx fun e w' => e = .returned (.string ⟨(prTxt h).toArray⟩) ∧ Below wx.heap.size wx w') := Lib.hid (fun wx hx => print_any _ h wx (HE.out wx hx).1 (HT.out wx hx) (fun t ht => ⟨hok t ht, by
    obtain ⟨k, hk, rfl⟩ := List.mem_iff_getElem.1 ht
    have := opsN_at h k hk
    omega⟩) (by omega))
  have HC := Lib.hid hc
  clear hc hok hsh hs2
  go_wp2_with fail
  refine (CK.out).mono ?_
  rintro e w3 ⟨rfl, hb3⟩
  have hb3 := below_then hb2 hb3
  clear hb2 CK
  by_cases h30 : 30 < h.length
  · have h30i : (30 : Int) < (h.length : Int) := by omega
    go_wp2_with fail
    go_ret
    exact ⟨rfl, hb3⟩
  have h30i : ¬ (30 : Int) < (h.length : Int) := by omega
  generalize (⟨(prTxt h).toArray⟩ : ByteArray) = s at *
  go_wp2_with fail
  refine (HP.out _ hb3).mono ?_
  rintro e w4 ⟨rfl, hb4⟩
  have hb4 := below_then hb3 hb4
  clear hb3 h30i
  go_wp2_with fail
  refine (HB.out _ (HE.out _ hb4)).mono ?_
  rintro e w5 ⟨v, c, rfl, hce, hM, hb5⟩
  have hb5 := below_then hb4 hb5
  have HCT := Lib.hid (fun wx (hx : Below w5.heap.size w5 wx) => hM.txns.below hx)
  obtain ⟨xo, xcap, rfl, hxl⟩ := hM.txns.form
  have HCE := Lib.hid hce
  have CO := Lib.hid (of_done _ h w5 (HT.out _ hb5) HOK.out HSH.out HC.out)
  clear hb4 hce hM HP HB
  go_wp2_with fail
  refine (CO.out).mono ?_
  rintro e w6 ⟨⟨B1, rfl, hB1, hO1⟩, h6⟩
  have CO2 := Lib.hid (of_done _ c w6 (HCT.out _ h6) (okc_txE HCE.out HOK.out) (shc_txE HCE.out HSH.out) (by rw [checkI_txE HCE.out]; exact HC.out))
  clear CO hB1
  go_wp2_with fail
  refine (CO2.out).mono ?_
  rintro e w7 ⟨⟨B2, rfl, hB2, hO2⟩, h7⟩
  have hO1 := hO1.below h7
  have k7 := below_then h6 h7
  have hb7 := hb5.trans (k7.mono hb5.size)
  have CF := Lib.hid (sameH_any _ _ h c w7 (HT.out _ hb7) (HCT.out _ k7))
  rw [show sameH h c = true from decide_eq_true HCE.out.symm] at CF
  clear CO2 hB2 h6 h7 k7 hb5
  go_wp2_with fail
  refine (CF.out).mono ?_
  rintro e w8 ⟨rfl, h8⟩
  have hO1 := hO1.below h8
  have hO2 := hO2.below h8
  have hb8 := below_then hb7 h8
  clear CF hb7 h8 HCT HSH HOK HE HT hxl hs1
  obtain ⟨r1, rc1, q1, HR1⟩ := ordis_reads hO1
  obtain ⟨r2, rc2, q2, HR2⟩ := ordis_reads hO2
  obtain ⟨E1, E2, E3, E4, E5, E6⟩ := orders_txE HCE.out
  have EL := txE_len HCE.out
  have HCC : checkI c = 0 := by rw [checkI_txE HCE.out]; exact HC.out
  have HQ := Lib.hid (fun wx (hx : Below w8.heap.size w8 wx) => And.intro ((hx.cell (p := ⟨B1, 195, none⟩) (block_lt q1)).trans q1) ((hx.cell (p := ⟨B2, 195, none⟩) (block_lt q2)).trans q2))
  have HL1 := Lib.hid (fun i (hi : i < h.length) => HR1 i hi)
  have HL2 := Lib.hid (fun i (hi : i < h.length) => show ∃ g o ao cap, r2 = some ⟨g, o, none⟩ ∧ w8.cell? ⟨g, o + i, none⟩ = some (.slice ao (readsOf h i).length cap) ∧ Frs w8 (.slice ao (readsOf h i).length cap) (readsOf h i) by
    have := HR2 i (by omega)
    rw [E5 i] at this; exact this)
  have CR1 := Lib.hid (fun i wx (hx : Below w8.heap.size w8 wx) => ordis_rivals (hO1.below hx) HC.out i)
  have CR2 := Lib.hid (fun i wx (hx : Below w8.heap.size w8 wx) => show Calls Tryz.prog 50 #[.pointer (some ⟨B2, 0, none⟩), .int .i64 (i : Nat)] wx fun e w' => e = .returned (.int .u64 ((rivN h i : Nat) : Int)) ∧ Below wx.heap.size wx w' by
    have := ordis_rivals (hO2.below hx) HCC i
    rw [E6 i] at this; exact this)
  have HA1 := Lib.hid (fun wx (hx : Below w8.heap.size w8 wx) => (hO1.below hx).blk)
  have HA2 : Hid (∀ wx, Below w8.heap.size w8 wx → wx.rangeAt B2 1 (rowsA (sesM h)).toList ∧ wx.rangeAt B2 65 (rowsA (timM h)).toList ∧ wx.rangeAt B2 129 (rowsA (froM h)).toList ∧ wx.cell? ⟨B2, 196, none⟩ = some (.bool (soundTo h h.length))) := Lib.hid (fun wx hx => by
    have hB := (hO2.below hx).blk
    have e1 := hB.rS
    have e2 := hB.rT
    have e3 := hB.rF
    have e4 := hB.cS
    rw [E1] at e1
    rw [E2] at e2
    rw [E3] at e3
    rw [E4] at e4
    exact ⟨e1, e2, e3, e4⟩)
  have HF := Lib.hid (fun wx (hx : Below w8.heap.size w8 wx) => hb8.trans (hx.mono hb8.size))
  have HFH := Lib.hid (fun (i : Nat) (hi : i < h.length) (r : Int × Int) (hr : r ∈ readsOf h i) (h0 : 0 ≤ r.2) => from_has HC.out hi hr h0)
  have HNR : Hid (∀ i, i < h.length → hasB (rivN h i) (i : Int) = false) := Lib.hid (fun i hi => by rw [rivN_has h i i (by have := (check_zero HC.out).1; omega)]; unfold rivB; simp)
  have HIN := Lib.hid (ses_in_tim HC.out)
  have HAC := Lib.hid (timM_acy HC.out)
  have HCL := Lib.hid (tim_clo HC.out)
  rw [EL] at q2 HQ
  have kb := Below.refl w8.heap.size w8
  clear hO1 hO2 HR1 HR2 E1 E2 E3 E4 E5 E6 EL HCC HCE HC q1 q2 hb8
  go_wp2_with fail
  go_loopw [84] (fun iv wr => ∃ i : Nat, i ≤ h.length ∧ iv = .int .i64 i ∧ Below w8.heap.size w8 wr) (fun iv _ => h.length - (intOf iv).toNat)
  case atStart => exact ⟨0, by omega, rfl, kb⟩
  case round =>
    clear kb
    obtain ⟨i, hi, rfl, hb⟩ := hrel
    by_cases hlt : i < h.length
    · have hii : (i : Int) < (h.length : Int) := by omega
      obtain ⟨g1, o1, ax1, cx1, rfl, cc1, hf1⟩ := HL1.out i hlt
      obtain ⟨g2, o2, ax2, cx2, rfl, cc2, hf2⟩ := HL2.out i hlt
      have HRC := Lib.hid (fun wx (hx : Below w8.heap.size w8 wx) => And.intro (HQ.out wx hx) (And.intro ((hx.cell (p := ⟨g1, o1 + i, none⟩) (block_lt cc1)).trans cc1) ((hx.cell (p := ⟨g2, o2 + i, none⟩) (block_lt cc2)).trans cc2)))
      have HF1 := Lib.hid (fun wx (hx : Below w8.heap.size w8 wx) => hf1.below hx)
      have HF2 := Lib.hid (fun wx (hx : Below w8.heap.size w8 wx) => hf2.below hx)
      have HFR := Lib.hid (HFH.out i hlt)
      have D1 := Lib.hid (CR1.out i)
      have D2 := Lib.hid (CR2.out i)
      have D3 := Lib.hid (fun wx => has_any (rivN h i) (i : Int) wx (rivN_set h i))
      rw [HNR.out i hlt] at D3
      have kd := hb.drew
      obtain ⟨_, _, _, hri⟩ := hf1.form
      clear cc1 cc2 hf1 hf2
      generalize readsOf h i = L at *
      go_upto_region 14 with fail
      refine wp_region_held_drew (S := Below w8.heap.size w8) (by kernel_rfl) kd (fun hS0 => ?_)
      refine takeG (some 87) (i := 0) (v := ?vta0) rfl rfl (by kernel_rfl) (by kernel_rfl) (by kernel_rfl) (fun _ _ _ h => h) (Or.inl ⟨by rfl, ?hta0⟩) hS0 ?rta0
      case hta0 => (intro w hw; obtain ⟨⟨q1, q2⟩, n1, n2⟩ := HRC.out _ hw; go_simp; try (with_reducible rfl))
      try simp only [Act.put, List.setIfInBounds_toArray, List.set_cons_zero, List.set_cons_succ]
      refine takeG (some 88) (i := 1) (v := ?vta1) rfl rfl (by kernel_rfl) (by kernel_rfl) (by kernel_rfl) (fun _ _ _ h => h) (Or.inl ⟨by rfl, ?hta1⟩) hS0 ?rta1
      case hta1 => (intro w hw; obtain ⟨⟨q1, q2⟩, n1, n2⟩ := HRC.out _ hw; go_simp; try (with_reducible rfl))
      try simp only [Act.put, List.setIfInBounds_toArray, List.set_cons_zero, List.set_cons_succ]
      refine takeG (some 90) (i := 3) (v := ?vta3) rfl rfl (by kernel_rfl) (by kernel_rfl) (by kernel_rfl) (fun _ _ _ h => h) (Or.inl ⟨by rfl, ?hta3⟩) hS0 ?rta3
      case hta3 => (intro w hw; obtain ⟨⟨q1, q2⟩, n1, n2⟩ := HRC.out _ hw; go_simp; try (with_reducible rfl))
      try simp only [Act.put, List.setIfInBounds_toArray, List.set_cons_zero, List.set_cons_succ]
      refine takeG (some 91) (i := 4) (v := ?vta4) rfl rfl (by kernel_rfl) (by kernel_rfl) (by kernel_rfl) (fun _ _ _ h => h) (Or.inl ⟨by rfl, ?hta4⟩) hS0 ?rta4
      case hta4 => (intro w hw; obtain ⟨⟨q1, q2⟩, n1, n2⟩ := HRC.out _ hw; go_simp; try (with_reducible rfl))
      try simp only [Act.put, List.setIfInBounds_toArray, List.set_cons_zero, List.set_cons_succ]
      refine wpAnyH_ready (rs := [2]) (by kernel_rfl) (by simp) ?_
      refine AllReadyH.cons rfl (fun K hK => ?_) AllReadyH.nil
      go_simp
      refine (D1.out _ hS0).mono ?_
      rintro e y1 ⟨rfl, j1⟩
      show K _ _
      have s1 := below_then hS0 j1
      refine hK.out _ _ s1 (fun _ => ?_)
      clear hK K
      refine wpAnyH_ready (rs := [5]) (by kernel_rfl) (by simp) ?_
      refine AllReadyH.cons rfl (fun K hK => ?_) AllReadyH.nil
      go_simp
      refine (D2.out _ s1).mono ?_
      rintro e y2 ⟨rfl, j2⟩
      show K _ _
      have s2 := below_then s1 j2
      refine hK.out _ _ s2 (fun _ => ?_)
      clear hK K
      refine takeG (some 93) (i := 6) (v := ?vta6) rfl rfl (by kernel_rfl) (by kernel_rfl) (by kernel_rfl) (fun _ _ _ h => h) (Or.inl ⟨by rfl, ?hta6⟩) s2 ?rta6
      case hta6 => (intro w hw; obtain ⟨⟨q1, q2⟩, n1, n2⟩ := HRC.out _ hw; go_simp; try (with_reducible rfl))
      try simp only [Act.put, List.setIfInBounds_toArray, List.set_cons_zero, List.set_cons_succ]
      refine takeG (some 94) (i := 7) (v := ?vta7) rfl rfl (by kernel_rfl) (by kernel_rfl) (by kernel_rfl) (fun _ _ _ h => h) (Or.inl ⟨by rfl, ?hta7⟩) s2 ?rta7
      case hta7 => (intro w hw; obtain ⟨⟨q1, q2⟩, n1, n2⟩ := HRC.out _ hw; go_simp; try (with_reducible rfl))
      try simp only [Act.put, List.setIfInBounds_toArray, List.set_cons_zero, List.set_cons_succ]
      refine takeG (some 95) (i := 8) (v := ?vta8) rfl rfl (by kernel_rfl) (by kernel_rfl) (by kernel_rfl) (fun _ _ _ h => h) (Or.inl ⟨by rfl, ?hta8⟩) s2 ?rta8
      case hta8 => (intro w hw; obtain ⟨⟨q1, q2⟩, n1, n2⟩ := HRC.out _ hw; go_simp; try (with_reducible rfl))
      try simp only [Act.put, List.setIfInBounds_toArray, List.set_cons_zero, List.set_cons_succ]
      refine takeG (some 96) (i := 9) (v := ?vta9) rfl rfl (by kernel_rfl) (by kernel_rfl) (by kernel_rfl) (fun _ _ _ h => h) (Or.inl ⟨by rfl, ?hta9⟩) s2 ?rta9
      case hta9 => (intro w hw; obtain ⟨⟨q1, q2⟩, n1, n2⟩ := HRC.out _ hw; go_simp; try (with_reducible rfl))
      try simp only [Act.put, List.setIfInBounds_toArray, List.set_cons_zero, List.set_cons_succ]
      refine takeG (some 97) (i := 10) (v := ?vta10) rfl rfl (by kernel_rfl) (by kernel_rfl) (by kernel_rfl) (fun _ _ _ h => h) (Or.inl ⟨by rfl, ?hta10⟩) s2 ?rta10
      case hta10 => (intro w hw; obtain ⟨⟨q1, q2⟩, n1, n2⟩ := HRC.out _ hw; go_simp; try (with_reducible rfl))
      try simp only [Act.put, List.setIfInBounds_toArray, List.set_cons_zero, List.set_cons_succ]
      refine takeG (some 98) (i := 11) (v := ?vta11) rfl rfl (by kernel_rfl) (by kernel_rfl) (by kernel_rfl) (fun _ _ _ h => h) (Or.inl ⟨by rfl, ?hta11⟩) s2 ?rta11
      case hta11 => (intro w hw; obtain ⟨⟨q1, q2⟩, n1, n2⟩ := HRC.out _ hw; go_simp; try (with_reducible rfl))
      try simp only [Act.put, List.setIfInBounds_toArray, List.set_cons_zero, List.set_cons_succ]
      refine takeG (some 99) (i := 12) (v := ?vta12) rfl rfl (by kernel_rfl) (by kernel_rfl) (by kernel_rfl) (fun _ _ _ h => h) (Or.inl ⟨by rfl, ?hta12⟩) s2 ?rta12
      case hta12 => (intro w hw; obtain ⟨⟨q1, q2⟩, n1, n2⟩ := HRC.out _ hw; go_simp; try (with_reducible rfl))
      try simp only [Act.put, List.setIfInBounds_toArray, List.set_cons_zero, List.set_cons_succ]
      refine takeG (some 100) (i := 13) (v := ?vta13) rfl rfl (by kernel_rfl) (by kernel_rfl) (by kernel_rfl) (fun _ _ _ h => h) (Or.inl ⟨by rfl, ?hta13⟩) s2 ?rta13
      case hta13 => (intro w hw; obtain ⟨⟨q1, q2⟩, n1, n2⟩ := HRC.out _ hw; go_simp; try (with_reducible rfl))
      try simp only [Act.put, List.setIfInBounds_toArray, List.set_cons_zero, List.set_cons_succ]
      refine takeG (some 101) (i := 14) (v := ?vta14) rfl rfl (by kernel_rfl) (by kernel_rfl) (by kernel_rfl) (fun _ _ _ h => h) (Or.inl ⟨by rfl, ?hta14⟩) s2 ?rta14
      case hta14 => (intro w hw; obtain ⟨⟨q1, q2⟩, n1, n2⟩ := HRC.out _ hw; go_simp; try (with_reducible rfl))
      try simp only [Act.put, List.setIfInBounds_toArray, List.set_cons_zero, List.set_cons_succ]
      refine takeG (some 102) (i := 15) (v := ?vta15) rfl rfl (by kernel_rfl) (by kernel_rfl) (by kernel_rfl) (fun _ _ _ h => h) (Or.inl ⟨by rfl, ?hta15⟩) s2 ?rta15
      case hta15 => (intro w hw; obtain ⟨⟨q1, q2⟩, n1, n2⟩ := HRC.out _ hw; go_simp; try (with_reducible rfl))
      try simp only [Act.put, List.setIfInBounds_toArray, List.set_cons_zero, List.set_cons_succ]
      refine takeG (some 103) (i := 16) (v := ?vta16) rfl rfl (by kernel_rfl) (by kernel_rfl) (by kernel_rfl) (fun _ _ _ h => h) (Or.inl ⟨by rfl, ?hta16⟩) s2 ?rta16
      case hta16 => (intro w hw; obtain ⟨⟨q1, q2⟩, n1, n2⟩ := HRC.out _ hw; go_simp; try (with_reducible rfl))
      try simp only [Act.put, List.setIfInBounds_toArray, List.set_cons_zero, List.set_cons_succ]
      refine takeG (some 104) (i := 17) (v := ?vta17) rfl rfl (by kernel_rfl) (by kernel_rfl) (by kernel_rfl) (fun _ _ _ h => h) (Or.inl ⟨by rfl, ?hta17⟩) s2 ?rta17
      case hta17 => (intro w hw; obtain ⟨⟨q1, q2⟩, n1, n2⟩ := HRC.out _ hw; go_simp; try (with_reducible rfl))
      try simp only [Act.put, List.setIfInBounds_toArray, List.set_cons_zero, List.set_cons_succ]
      refine takeG (some 105) (i := 18) (v := ?vta18) rfl rfl (by kernel_rfl) (by kernel_rfl) (by kernel_rfl) (fun _ _ _ h => h) (Or.inl ⟨by rfl, ?hta18⟩) s2 ?rta18
      case hta18 => (intro w hw; obtain ⟨⟨q1, q2⟩, n1, n2⟩ := HRC.out _ hw; go_simp; try (with_reducible rfl))
      try simp only [Act.put, List.setIfInBounds_toArray, List.set_cons_zero, List.set_cons_succ]
      refine takeG (some 106) (i := 19) (v := ?vta19) rfl rfl (by kernel_rfl) (by kernel_rfl) (by kernel_rfl) (fun _ _ _ h => h) (Or.inl ⟨by rfl, ?hta19⟩) s2 ?rta19
      case hta19 => (intro w hw; obtain ⟨⟨q1, q2⟩, n1, n2⟩ := HRC.out _ hw; go_simp; try (with_reducible rfl))
      try simp only [Act.put, List.setIfInBounds_toArray, List.set_cons_zero, List.set_cons_succ]
      refine takeG (some 107) (i := 20) (v := ?vta20) rfl rfl (by kernel_rfl) (by kernel_rfl) (by kernel_rfl) (fun _ _ _ h => h) (Or.inl ⟨by rfl, ?hta20⟩) s2 ?rta20
      case hta20 => (intro w hw; obtain ⟨⟨q1, q2⟩, n1, n2⟩ := HRC.out _ hw; go_simp; try (with_reducible rfl))
      try simp only [Act.put, List.setIfInBounds_toArray, List.set_cons_zero, List.set_cons_succ]
      refine takeG (some 108) (i := 21) (v := ?vta21) rfl rfl (by kernel_rfl) (by kernel_rfl) (by kernel_rfl) (fun _ _ _ h => h) (Or.inl ⟨by rfl, ?hta21⟩) s2 ?rta21
      case hta21 => (intro w hw; obtain ⟨⟨q1, q2⟩, n1, n2⟩ := HRC.out _ hw; go_simp; try (with_reducible rfl))
      try simp only [Act.put, List.setIfInBounds_toArray, List.set_cons_zero, List.set_cons_succ]
      refine takeG (some 109) (i := 22) (v := ?vta22) rfl rfl (by kernel_rfl) (by kernel_rfl) (by kernel_rfl) (fun _ _ _ h => h) (Or.inl ⟨by rfl, ?hta22⟩) s2 ?rta22
      case hta22 => (intro w hw; obtain ⟨⟨q1, q2⟩, n1, n2⟩ := HRC.out _ hw; go_simp; try (with_reducible rfl))
      try simp only [Act.put, List.setIfInBounds_toArray, List.set_cons_zero, List.set_cons_succ]
      refine takeG (some 110) (i := 23) (v := ?vta23) rfl rfl (by kernel_rfl) (by kernel_rfl) (by kernel_rfl) (fun _ _ _ h => h) (Or.inl ⟨by rfl, ?hta23⟩) s2 ?rta23
      case hta23 => (intro w hw; obtain ⟨⟨q1, q2⟩, n1, n2⟩ := HRC.out _ hw; go_simp; try (with_reducible rfl))
      try simp only [Act.put, List.setIfInBounds_toArray, List.set_cons_zero, List.set_cons_succ]
      refine takeG (some 111) (i := 24) (v := ?vta24) rfl rfl (by kernel_rfl) (by kernel_rfl) (by kernel_rfl) (fun _ _ _ h => h) (Or.inl ⟨by rfl, ?hta24⟩) s2 ?rta24
      case hta24 => (intro w hw; obtain ⟨⟨q1, q2⟩, n1, n2⟩ := HRC.out _ hw; go_simp; try (with_reducible rfl))
      try simp only [Act.put, List.setIfInBounds_toArray, List.set_cons_zero, List.set_cons_succ]
      refine takeG (some 112) (i := 25) (v := ?vta25) rfl rfl (by kernel_rfl) (by kernel_rfl) (by kernel_rfl) (fun _ _ _ h => h) (Or.inl ⟨by rfl, ?hta25⟩) s2 ?rta25
      case hta25 => (intro w hw; obtain ⟨⟨q1, q2⟩, n1, n2⟩ := HRC.out _ hw; go_simp; try (with_reducible rfl))
      try simp only [Act.put, List.setIfInBounds_toArray, List.set_cons_zero, List.set_cons_succ]
      refine takeG (some 113) (i := 26) (v := ?vta26) rfl rfl (by kernel_rfl) (by kernel_rfl) (by kernel_rfl) (fun _ _ _ h => h) (Or.inl ⟨by rfl, ?hta26⟩) s2 ?rta26
      case hta26 => (intro w hw; obtain ⟨⟨q1, q2⟩, n1, n2⟩ := HRC.out _ hw; go_simp; try (with_reducible rfl))
      try simp only [Act.put, List.setIfInBounds_toArray, List.set_cons_zero, List.set_cons_succ]
      refine takeG (some 114) (i := 27) (v := ?vta27) rfl rfl (by kernel_rfl) (by kernel_rfl) (by kernel_rfl) (fun _ _ _ h => h) (Or.inl ⟨by rfl, ?hta27⟩) s2 ?rta27
      case hta27 => (intro w hw; obtain ⟨⟨q1, q2⟩, n1, n2⟩ := HRC.out _ hw; go_simp; try (with_reducible rfl))
      try simp only [Act.put, List.setIfInBounds_toArray, List.set_cons_zero, List.set_cons_succ]
      refine takeG (some 115) (i := 28) (v := ?vta28) rfl rfl (by kernel_rfl) (by kernel_rfl) (by kernel_rfl) (fun _ _ _ h => h) (Or.inl ⟨by rfl, ?hta28⟩) s2 ?rta28
      case hta28 => (intro w hw; obtain ⟨⟨q1, q2⟩, n1, n2⟩ := HRC.out _ hw; go_simp; try (with_reducible rfl))
      try simp only [Act.put, List.setIfInBounds_toArray, List.set_cons_zero, List.set_cons_succ]
      refine takeG (some 117) (i := 30) (v := ?vta30) rfl rfl (by kernel_rfl) (by kernel_rfl) (by kernel_rfl) (fun _ _ _ h => h) (Or.inl ⟨by rfl, ?hta30⟩) s2 ?rta30
      case hta30 => (intro w hw; obtain ⟨⟨q1, q2⟩, n1, n2⟩ := HRC.out _ hw; go_simp; try (with_reducible rfl))
      try simp only [Act.put, List.setIfInBounds_toArray, List.set_cons_zero, List.set_cons_succ]
      refine wpAnyH_ready (rs := [29]) (by kernel_rfl) (by simp) ?_
      refine AllReadyH.cons rfl (fun K hK => ?_) AllReadyH.nil
      go_simp
      refine (D1.out _ s2).mono ?_
      rintro e y3 ⟨rfl, j3⟩
      show K _ _
      have s3 := below_then s2 j3
      refine hK.out _ _ s3 (fun _ => ?_)
      clear hK K
      refine wpAnyH_ready (rs := [31]) (by kernel_rfl) (by simp) ?_
      refine AllReadyH.cons rfl (fun K hK => ?_) AllReadyH.nil
      go_simp
      refine (D3.out _).mono ?_
      rintro e yz ⟨rfl, rfl⟩
      show K _ _
      refine hK.out _ _ s3 (fun _ => ?_)
      clear hK K
      refine takeG (some 119) (i := 32) (v := ?vta32) rfl rfl (by kernel_rfl) (by kernel_rfl) (by kernel_rfl) (fun _ _ _ h => h) (Or.inl ⟨by rfl, ?hta32⟩) s3 ?rta32
      case hta32 => (intro w hw; obtain ⟨⟨q1, q2⟩, n1, n2⟩ := HRC.out _ hw; go_simp; try (with_reducible rfl))
      try simp only [Act.put, List.setIfInBounds_toArray, List.set_cons_zero, List.set_cons_succ]
      refine wpAnyH_done (by kernel_rfl) ?_ _
      have hb := s3
      clear kd j1 j2 j3 s1 s2 s3 D1 D2 D3
      obtain ⟨⟨q1, q2⟩, n1, n2⟩ := HRC.out _ hb
      go_wp2_with fail
      clear q1 q2 n1 n2
      go_loopw [128] (fun kv wx => ∃ k : Nat, k ≤ L.length ∧ kv = .int .i64 k ∧ Below w8.heap.size w8 wx) (fun kv _ => L.length - (intOf kv).toNat)
      case atStart => exact ⟨0, by omega, rfl, hb⟩
      case round =>
        as_aux_lemma =>
          clear hb
          obtain ⟨k, hk, rfl, hb⟩ := hrel
          by_cases hlk : k < L.length
          · have hkk : (k : Int) < (L.length : Int) := by omega
            obtain ⟨p1, z1, hao1, d0, d1⟩ := (HF1.out _ hb).at hlk
            cases hao1
            obtain ⟨p2, z2, hao2, e0, e1⟩ := (HF2.out _ hb).at hlk
            cases hao2
            have HHF := Lib.hid (HFR.out _ (List.getElem_mem hlk))
            generalize L[k].1 = y at *
            generalize L[k].2 = f at *
            have hbx := hb.alloc hb.size (.cells #[.int .i64 y, .int .i64 f] 95)
            have bx := box_below wr (.cells #[.int .i64 y, .int .i64 f] 95)
            have x0 : (wr.alloc (.cells #[.int .i64 y, .int .i64 f] 95)).cell? ⟨wr.heap.size, 0, none⟩ = some (.int .i64 y) := by rw [cell_of_row _ _ _ _ _ _ (heap_alloc_new wr _)]; rfl
            have x1 : (wr.alloc (.cells #[.int .i64 y, .int .i64 f] 95)).cell? ⟨wr.heap.size, 1, none⟩ = some (.int .i64 f) := by rw [cell_of_row _ _ _ _ _ _ (heap_alloc_new wr _)]; rfl
            have m0 := (bx.cell (p := ⟨p2, z2 + k * 2, none⟩) (block_lt e0)).trans e0
            have m1 := (bx.cell (p := ⟨p2, z2 + k * 2 + 1, none⟩) (block_lt e1)).trans e1
            clear e0 e1 bx
            go_upto_region 19 with fail
            generalize wr.alloc (.cells #[.int .i64 y, .int .i64 f] 95) = w9 at *
            generalize wr.heap.size = p9 at *
            clear d0 d1 hb
            have HSS := Lib.hid (fun wx (hx : Below w9.heap.size w9 wx) => And.intro (HRC.out _ (hbx.trans (hx.mono hbx.size))) (And.intro (And.intro ((hx.cell (p := ⟨p9, 0, none⟩) (block_lt x0)).trans x0) ((hx.cell (p := ⟨p9, 1, none⟩) (block_lt x1)).trans x1)) (And.intro ((hx.cell (p := ⟨p2, z2 + k * 2, none⟩) (block_lt m0)).trans m0) ((hx.cell (p := ⟨p2, z2 + k * 2 + 1, none⟩) (block_lt m1)).trans m1))))
            have HAX := Lib.hid (fun wx (hx : Below w9.heap.size w9 wx) => HA1.out _ (hbx.trans (hx.mono hbx.size)))
            have hnq := neqRd y f
            have hgu := fun o a b (w : World) => guardRd4 o a b y f y f w
            have CQ := Lib.hid (fun wx => rhasR_any (froM h) f (i : Int) wx)
            have kd := (Below.refl w9.heap.size w9).drew
            clear x0 x1 m0 m1
            by_cases hf0 : 0 ≤ f
            · have hd0 : decide (0 ≤ f) = true := decide_eq_true hf0
              rw [HHF.out hf0] at CQ
              refine wp_region_held_drew (S := Below w9.heap.size w9) (by kernel_rfl) kd (fun hS0 => ?_)
              refine takeG (some 133) (i := 0) (v := ?vtb0) rfl rfl (by kernel_rfl) (by kernel_rfl) (by kernel_rfl) (fun _ _ _ h => h) (Or.inl ⟨by rfl, ?htb0⟩) hS0 ?rtb0
              case htb0 => (intro w hw; obtain ⟨⟨⟨q1, q2⟩, n1, n2⟩, ⟨x0, x1⟩, m0, m1⟩ := HSS.out _ hw; go_simp; try (with_reducible rfl))
              try simp only [Act.put, List.setIfInBounds_toArray, List.set_cons_zero, List.set_cons_succ]
              refine takeG (some 134) (i := 1) (v := ?vtb1) rfl rfl (by kernel_rfl) (by kernel_rfl) (by kernel_rfl) (fun _ _ _ h => h) (Or.inl ⟨by rfl, ?htb1⟩) hS0 ?rtb1
              case htb1 => (intro w hw; obtain ⟨⟨⟨q1, q2⟩, n1, n2⟩, ⟨x0, x1⟩, m0, m1⟩ := HSS.out _ hw; go_simp; try (with_reducible rfl))
              try simp only [Act.put, List.setIfInBounds_toArray, List.set_cons_zero, List.set_cons_succ]
              refine takeG (some 135) (i := 2) (v := ?vtb2) rfl rfl (by kernel_rfl) (by kernel_rfl) (by kernel_rfl) (fun _ _ _ h => h) (Or.inl ⟨by rfl, ?htb2⟩) hS0 ?rtb2
              case htb2 => (intro w hw; obtain ⟨⟨⟨q1, q2⟩, n1, n2⟩, ⟨x0, x1⟩, m0, m1⟩ := HSS.out _ hw; go_simp; try (with_reducible rfl))
              try simp only [Act.put, List.setIfInBounds_toArray, List.set_cons_zero, List.set_cons_succ]
              refine takeG (some 136) (i := 3) (v := ?vtb3) rfl rfl (by kernel_rfl) (by kernel_rfl) (by kernel_rfl) (fun _ _ _ h => h) (Or.inl ⟨by rfl, ?htb3⟩) hS0 ?rtb3
              case htb3 => (intro w hw; obtain ⟨⟨⟨q1, q2⟩, n1, n2⟩, ⟨x0, x1⟩, m0, m1⟩ := HSS.out _ hw; go_simp; try (with_reducible rfl))
              try simp only [Act.put, List.setIfInBounds_toArray, List.set_cons_zero, List.set_cons_succ]
              refine takeG (some 137) (i := 4) (v := ?vtb4) rfl rfl (by kernel_rfl) (by kernel_rfl) (by kernel_rfl) (fun _ _ _ h => h) (Or.inl ⟨by rfl, ?htb4⟩) hS0 ?rtb4
              case htb4 => (intro w hw; obtain ⟨⟨⟨q1, q2⟩, n1, n2⟩, ⟨x0, x1⟩, m0, m1⟩ := HSS.out _ hw; go_simp; try (with_reducible rfl))
              try simp only [Act.put, List.setIfInBounds_toArray, List.set_cons_zero, List.set_cons_succ]
              refine takeG (some 138) (i := 5) (v := ?vtb5) rfl rfl (by kernel_rfl) (by kernel_rfl) (by kernel_rfl) (fun _ _ _ h => h) (Or.inl ⟨by rfl, ?htb5⟩) hS0 ?rtb5
              case htb5 => (intro w hw; obtain ⟨⟨⟨q1, q2⟩, n1, n2⟩, ⟨x0, x1⟩, m0, m1⟩ := HSS.out _ hw; go_simp; try (with_reducible rfl))
              try simp only [Act.put, List.setIfInBounds_toArray, List.set_cons_zero, List.set_cons_succ]
              refine takeG (some 139) (i := 6) (v := ?vtb6) rfl rfl (by kernel_rfl) (by kernel_rfl) (by kernel_rfl) (fun _ _ _ h => h) (Or.inl ⟨by rfl, ?htb6⟩) hS0 ?rtb6
              case htb6 => (intro w hw; obtain ⟨⟨⟨q1, q2⟩, n1, n2⟩, ⟨x0, x1⟩, m0, m1⟩ := HSS.out _ hw; go_simp; try (with_reducible rfl))
              try simp only [Act.put, List.setIfInBounds_toArray, List.set_cons_zero, List.set_cons_succ]
              refine takeG (some 140) (i := 7) (v := ?vtb7) rfl rfl (by kernel_rfl) (by kernel_rfl) (by kernel_rfl) (fun _ _ _ h => h) (Or.inl ⟨by rfl, ?htb7⟩) hS0 ?rtb7
              case htb7 => (intro w hw; obtain ⟨⟨⟨q1, q2⟩, n1, n2⟩, ⟨x0, x1⟩, m0, m1⟩ := HSS.out _ hw; go_simp; try (with_reducible rfl))
              try simp only [Act.put, List.setIfInBounds_toArray, List.set_cons_zero, List.set_cons_succ]
              refine takeG (some 141) (i := 8) (v := ?vtb8) rfl rfl (by kernel_rfl) (by kernel_rfl) (by kernel_rfl) (fun _ _ _ h => h) (Or.inl ⟨by rfl, ?htb8⟩) hS0 ?rtb8
              case htb8 => (intro w hw; obtain ⟨⟨⟨q1, q2⟩, n1, n2⟩, ⟨x0, x1⟩, m0, m1⟩ := HSS.out _ hw; go_simp; try (with_reducible rfl))
              try simp only [Act.put, List.setIfInBounds_toArray, List.set_cons_zero, List.set_cons_succ]
              refine takeG (some 142) (i := 9) (v := ?vtb9) rfl rfl (by kernel_rfl) (by kernel_rfl) (by kernel_rfl) (fun _ _ _ h => h) (Or.inl ⟨by rfl, ?htb9⟩) hS0 ?rtb9
              case htb9 => (intro w hw; obtain ⟨⟨⟨q1, q2⟩, n1, n2⟩, ⟨x0, x1⟩, m0, m1⟩ := HSS.out _ hw; go_simp; try (with_reducible rfl))
              try simp only [Act.put, List.setIfInBounds_toArray, List.set_cons_zero, List.set_cons_succ]
              refine takeG (some 143) (i := 10) (v := ?vtb10) rfl rfl (by kernel_rfl) (by kernel_rfl) (by kernel_rfl) (fun _ _ _ h => h) (Or.inl ⟨by rfl, ?htb10⟩) hS0 ?rtb10
              case htb10 => (intro w hw; obtain ⟨⟨⟨q1, q2⟩, n1, n2⟩, ⟨x0, x1⟩, m0, m1⟩ := HSS.out _ hw; go_simp; try (with_reducible rfl))
              try simp only [Act.put, List.setIfInBounds_toArray, List.set_cons_zero, List.set_cons_succ]
              refine takeG (some 144) (i := 11) (v := ?vtb11) rfl rfl (by kernel_rfl) (by kernel_rfl) (by kernel_rfl) (fun _ _ _ h => h) (Or.inl ⟨by rfl, ?htb11⟩) hS0 ?rtb11
              case htb11 => (intro w hw; obtain ⟨⟨⟨q1, q2⟩, n1, n2⟩, ⟨x0, x1⟩, m0, m1⟩ := HSS.out _ hw; go_simp; try (with_reducible rfl))
              try simp only [Act.put, List.setIfInBounds_toArray, List.set_cons_zero, List.set_cons_succ]
              refine takeG (some 145) (i := 12) (v := ?vtb12) rfl rfl (by kernel_rfl) (by kernel_rfl) (by kernel_rfl) (fun _ _ _ h => h) (Or.inl ⟨by rfl, ?htb12⟩) hS0 ?rtb12
              case htb12 => (intro w hw; obtain ⟨⟨⟨q1, q2⟩, n1, n2⟩, ⟨x0, x1⟩, m0, m1⟩ := HSS.out _ hw; go_simp; try (with_reducible rfl))
              try simp only [Act.put, List.setIfInBounds_toArray, List.set_cons_zero, List.set_cons_succ]
              refine takeG (some 146) (i := 13) (v := ?vtb13) rfl rfl (by kernel_rfl) (by kernel_rfl) (by kernel_rfl) (fun _ _ _ h => h) (Or.inl ⟨by rfl, ?htb13⟩) hS0 ?rtb13
              case htb13 => (intro w hw; obtain ⟨⟨⟨q1, q2⟩, n1, n2⟩, ⟨x0, x1⟩, m0, m1⟩ := HSS.out _ hw; go_simp; try (with_reducible rfl))
              try simp only [Act.put, List.setIfInBounds_toArray, List.set_cons_zero, List.set_cons_succ]
              refine takeG (some 147) (i := 14) (v := ?vtb14) rfl rfl (by kernel_rfl) (by kernel_rfl) (by kernel_rfl) (fun _ _ _ h => h) (Or.inl ⟨by rfl, ?htb14⟩) hS0 ?rtb14
              case htb14 => (intro w hw; obtain ⟨⟨⟨q1, q2⟩, n1, n2⟩, ⟨x0, x1⟩, m0, m1⟩ := HSS.out _ hw; go_simp; try (with_reducible rfl))
              try simp only [Act.put, List.setIfInBounds_toArray, List.set_cons_zero, List.set_cons_succ]
              refine takeG (some 148) (i := 15) (v := ?vtb15) rfl rfl (by kernel_rfl) (by kernel_rfl) (by kernel_rfl) (fun _ _ _ h => h) (Or.inl ⟨by rfl, ?htb15⟩) hS0 ?rtb15
              case htb15 => (intro w hw; obtain ⟨⟨⟨q1, q2⟩, n1, n2⟩, ⟨x0, x1⟩, m0, m1⟩ := HSS.out _ hw; go_simp; try (with_reducible rfl))
              try simp only [Act.put, List.setIfInBounds_toArray, List.set_cons_zero, List.set_cons_succ]
              refine takeG (some 149) (i := 16) (v := ?vtb16) rfl rfl (by kernel_rfl) (by kernel_rfl) (by kernel_rfl) (fun _ _ _ h => h) (Or.inl ⟨by rfl, ?htb16⟩) hS0 ?rtb16
              case htb16 => (intro w hw; obtain ⟨⟨⟨q1, q2⟩, n1, n2⟩, ⟨x0, x1⟩, m0, m1⟩ := HSS.out _ hw; go_simp; try (with_reducible rfl))
              try simp only [Act.put, List.setIfInBounds_toArray, List.set_cons_zero, List.set_cons_succ]
              refine takeG (some 150) (i := 17) (v := ?vtb17) rfl rfl (by kernel_rfl) (by kernel_rfl) (by kernel_rfl) (fun _ _ _ h => h) (Or.inl ⟨by rfl, ?htb17⟩) hS0 ?rtb17
              case htb17 => (intro w hw; obtain ⟨⟨⟨q1, q2⟩, n1, n2⟩, ⟨x0, x1⟩, m0, m1⟩ := HSS.out _ hw; go_simp; try (with_reducible rfl))
              try simp only [Act.put, List.setIfInBounds_toArray, List.set_cons_zero, List.set_cons_succ]
              refine takeG (some 151) (i := 18) (v := ?vtb18) rfl rfl (by kernel_rfl) (by kernel_rfl) (by kernel_rfl) (fun _ _ _ h => h) (Or.inl ⟨by rfl, ?htb18⟩) hS0 ?rtb18
              case htb18 => (intro w hw; obtain ⟨⟨⟨q1, q2⟩, n1, n2⟩, ⟨x0, x1⟩, m0, m1⟩ := HSS.out _ hw; go_simp; try (with_reducible rfl))
              try simp only [Act.put, List.setIfInBounds_toArray, List.set_cons_zero, List.set_cons_succ]
              refine takeG (some 152) (i := 19) (v := ?vtb19) rfl rfl (by kernel_rfl) (by kernel_rfl) (by kernel_rfl) (fun _ _ _ h => h) (Or.inl ⟨by rfl, ?htb19⟩) hS0 ?rtb19
              case htb19 => (intro w hw; obtain ⟨⟨⟨q1, q2⟩, n1, n2⟩, ⟨x0, x1⟩, m0, m1⟩ := HSS.out _ hw; go_simp; try (with_reducible rfl))
              try simp only [Act.put, List.setIfInBounds_toArray, List.set_cons_zero, List.set_cons_succ]
              refine takeG (some 153) (i := 20) (v := _) rfl rfl (by kernel_rfl) (by kernel_rfl) (by kernel_rfl) (fun _ _ _ h => h) (yields_load_part (by rfl) _ rfl rfl (fun wx hx => (HAX.out wx hx).rF)) hS0 ?_
              try simp only [Act.put, List.setIfInBounds_toArray, List.set_cons_zero, List.set_cons_succ]
              refine takeG (some 154) (i := 21) (v := ?vtb21) rfl rfl (by kernel_rfl) (by kernel_rfl) (by kernel_rfl) (fun _ _ _ h => h) (Or.inl ⟨by rfl, ?htb21⟩) hS0 ?rtb21
              case htb21 => (intro w hw; obtain ⟨⟨⟨q1, q2⟩, n1, n2⟩, ⟨x0, x1⟩, m0, m1⟩ := HSS.out _ hw; go_simp; try (with_reducible rfl))
              try simp only [Act.put, List.setIfInBounds_toArray, List.set_cons_zero, List.set_cons_succ]
              refine takeG (some 155) (i := 22) (v := ?vtb22) rfl rfl (by kernel_rfl) (by kernel_rfl) (by kernel_rfl) (fun _ _ _ h => h) (Or.inl ⟨by rfl, ?htb22⟩) hS0 ?rtb22
              case htb22 => (intro w hw; obtain ⟨⟨⟨q1, q2⟩, n1, n2⟩, ⟨x0, x1⟩, m0, m1⟩ := HSS.out _ hw; go_simp; try (with_reducible rfl))
              try simp only [Act.put, List.setIfInBounds_toArray, List.set_cons_zero, List.set_cons_succ]
              refine takeG (some 156) (i := 23) (v := ?vtb23) rfl rfl (by kernel_rfl) (by kernel_rfl) (by kernel_rfl) (fun _ _ _ h => h) (Or.inl ⟨by rfl, ?htb23⟩) hS0 ?rtb23
              case htb23 => (intro w hw; obtain ⟨⟨⟨q1, q2⟩, n1, n2⟩, ⟨x0, x1⟩, m0, m1⟩ := HSS.out _ hw; go_simp; try (with_reducible rfl))
              try simp only [Act.put, List.setIfInBounds_toArray, List.set_cons_zero, List.set_cons_succ]
              refine wpAnyH_ready (rs := [24]) (by kernel_rfl) (by simp) ?_
              refine AllReadyH.cons rfl (fun K hK => ?_) AllReadyH.nil
              go_simp
              refine (CQ.out _).mono ?_
              rintro e y1 ⟨rfl, j1⟩
              show K _ _
              have s1 := below_then hS0 j1
              refine hK.out _ _ s1 (fun _ => ?_)
              clear hK K
              refine takeG (some 158) (i := 25) (v := ?vtb25) rfl rfl (by kernel_rfl) (by kernel_rfl) (by kernel_rfl) (fun _ _ _ h => h) (Or.inl ⟨by rfl, ?htb25⟩) s1 ?rtb25
              case htb25 => (intro w hw; obtain ⟨⟨⟨q1, q2⟩, n1, n2⟩, ⟨x0, x1⟩, m0, m1⟩ := HSS.out _ hw; go_simp; try (with_reducible rfl))
              try simp only [Act.put, List.setIfInBounds_toArray, List.set_cons_zero, List.set_cons_succ]
              refine takeG (some 159) (i := 26) (v := ?vtb26) rfl rfl (by kernel_rfl) (by kernel_rfl) (by kernel_rfl) (fun _ _ _ h => h) (Or.inl ⟨by rfl, ?htb26⟩) s1 ?rtb26
              case htb26 => (intro w hw; obtain ⟨⟨⟨q1, q2⟩, n1, n2⟩, ⟨x0, x1⟩, m0, m1⟩ := HSS.out _ hw; go_simp; try (with_reducible rfl))
              try simp only [Act.put, List.setIfInBounds_toArray, List.set_cons_zero, List.set_cons_succ]
              refine takeG (some 160) (i := 27) (v := ?vtb27) rfl rfl (by kernel_rfl) (by kernel_rfl) (by kernel_rfl) (fun _ _ _ h => h) (Or.inl ⟨by rfl, ?htb27⟩) s1 ?rtb27
              case htb27 => (intro w hw; obtain ⟨⟨⟨q1, q2⟩, n1, n2⟩, ⟨x0, x1⟩, m0, m1⟩ := HSS.out _ hw; go_simp; try (with_reducible rfl))
              try simp only [Act.put, List.setIfInBounds_toArray, List.set_cons_zero, List.set_cons_succ]
              refine wpAnyH_done (by kernel_rfl) ?_ _
              have hb := hbx.trans (s1.mono hbx.size)
              clear kd j1 s1 hbx hS0
              go_wp2_with fail
              go_roundw
              case rel => exact ⟨k + 1, by omega, by go_num, hb⟩
              case measure => simp [intOf]; omega
            · have hd0 : decide (0 ≤ f) = false := decide_eq_false hf0
              refine wp_region_held_drew (S := Below w9.heap.size w9) (by kernel_rfl) kd (fun hS0 => ?_)
              refine takeG (some 133) (i := 0) (v := ?vtc0) rfl rfl (by kernel_rfl) (by kernel_rfl) (by kernel_rfl) (fun _ _ _ h => h) (Or.inl ⟨by rfl, ?htc0⟩) hS0 ?rtc0
              case htc0 => (intro w hw; obtain ⟨⟨⟨q1, q2⟩, n1, n2⟩, ⟨x0, x1⟩, m0, m1⟩ := HSS.out _ hw; go_simp; try (with_reducible rfl))
              try simp only [Act.put, List.setIfInBounds_toArray, List.set_cons_zero, List.set_cons_succ]
              refine takeG (some 134) (i := 1) (v := ?vtc1) rfl rfl (by kernel_rfl) (by kernel_rfl) (by kernel_rfl) (fun _ _ _ h => h) (Or.inl ⟨by rfl, ?htc1⟩) hS0 ?rtc1
              case htc1 => (intro w hw; obtain ⟨⟨⟨q1, q2⟩, n1, n2⟩, ⟨x0, x1⟩, m0, m1⟩ := HSS.out _ hw; go_simp; try (with_reducible rfl))
              try simp only [Act.put, List.setIfInBounds_toArray, List.set_cons_zero, List.set_cons_succ]
              refine takeG (some 135) (i := 2) (v := ?vtc2) rfl rfl (by kernel_rfl) (by kernel_rfl) (by kernel_rfl) (fun _ _ _ h => h) (Or.inl ⟨by rfl, ?htc2⟩) hS0 ?rtc2
              case htc2 => (intro w hw; obtain ⟨⟨⟨q1, q2⟩, n1, n2⟩, ⟨x0, x1⟩, m0, m1⟩ := HSS.out _ hw; go_simp; try (with_reducible rfl))
              try simp only [Act.put, List.setIfInBounds_toArray, List.set_cons_zero, List.set_cons_succ]
              refine takeG (some 136) (i := 3) (v := ?vtc3) rfl rfl (by kernel_rfl) (by kernel_rfl) (by kernel_rfl) (fun _ _ _ h => h) (Or.inl ⟨by rfl, ?htc3⟩) hS0 ?rtc3
              case htc3 => (intro w hw; obtain ⟨⟨⟨q1, q2⟩, n1, n2⟩, ⟨x0, x1⟩, m0, m1⟩ := HSS.out _ hw; go_simp; try (with_reducible rfl))
              try simp only [Act.put, List.setIfInBounds_toArray, List.set_cons_zero, List.set_cons_succ]
              refine takeG (some 137) (i := 4) (v := ?vtc4) rfl rfl (by kernel_rfl) (by kernel_rfl) (by kernel_rfl) (fun _ _ _ h => h) (Or.inl ⟨by rfl, ?htc4⟩) hS0 ?rtc4
              case htc4 => (intro w hw; obtain ⟨⟨⟨q1, q2⟩, n1, n2⟩, ⟨x0, x1⟩, m0, m1⟩ := HSS.out _ hw; go_simp; try (with_reducible rfl))
              try simp only [Act.put, List.setIfInBounds_toArray, List.set_cons_zero, List.set_cons_succ]
              refine takeG (some 138) (i := 5) (v := ?vtc5) rfl rfl (by kernel_rfl) (by kernel_rfl) (by kernel_rfl) (fun _ _ _ h => h) (Or.inl ⟨by rfl, ?htc5⟩) hS0 ?rtc5
              case htc5 => (intro w hw; obtain ⟨⟨⟨q1, q2⟩, n1, n2⟩, ⟨x0, x1⟩, m0, m1⟩ := HSS.out _ hw; go_simp; try (with_reducible rfl))
              try simp only [Act.put, List.setIfInBounds_toArray, List.set_cons_zero, List.set_cons_succ]
              refine takeG (some 139) (i := 6) (v := ?vtc6) rfl rfl (by kernel_rfl) (by kernel_rfl) (by kernel_rfl) (fun _ _ _ h => h) (Or.inl ⟨by rfl, ?htc6⟩) hS0 ?rtc6
              case htc6 => (intro w hw; obtain ⟨⟨⟨q1, q2⟩, n1, n2⟩, ⟨x0, x1⟩, m0, m1⟩ := HSS.out _ hw; go_simp; try (with_reducible rfl))
              try simp only [Act.put, List.setIfInBounds_toArray, List.set_cons_zero, List.set_cons_succ]
              refine takeG (some 140) (i := 7) (v := ?vtc7) rfl rfl (by kernel_rfl) (by kernel_rfl) (by kernel_rfl) (fun _ _ _ h => h) (Or.inl ⟨by rfl, ?htc7⟩) hS0 ?rtc7
              case htc7 => (intro w hw; obtain ⟨⟨⟨q1, q2⟩, n1, n2⟩, ⟨x0, x1⟩, m0, m1⟩ := HSS.out _ hw; go_simp; try (with_reducible rfl))
              try simp only [Act.put, List.setIfInBounds_toArray, List.set_cons_zero, List.set_cons_succ]
              refine takeG (some 141) (i := 8) (v := ?vtc8) rfl rfl (by kernel_rfl) (by kernel_rfl) (by kernel_rfl) (fun _ _ _ h => h) (Or.inl ⟨by rfl, ?htc8⟩) hS0 ?rtc8
              case htc8 => (intro w hw; obtain ⟨⟨⟨q1, q2⟩, n1, n2⟩, ⟨x0, x1⟩, m0, m1⟩ := HSS.out _ hw; go_simp; try (with_reducible rfl))
              try simp only [Act.put, List.setIfInBounds_toArray, List.set_cons_zero, List.set_cons_succ]
              refine takeG (some 142) (i := 9) (v := ?vtc9) rfl rfl (by kernel_rfl) (by kernel_rfl) (by kernel_rfl) (fun _ _ _ h => h) (Or.inl ⟨by rfl, ?htc9⟩) hS0 ?rtc9
              case htc9 => (intro w hw; obtain ⟨⟨⟨q1, q2⟩, n1, n2⟩, ⟨x0, x1⟩, m0, m1⟩ := HSS.out _ hw; go_simp; try (with_reducible rfl))
              try simp only [Act.put, List.setIfInBounds_toArray, List.set_cons_zero, List.set_cons_succ]
              refine takeG (some 143) (i := 10) (v := ?vtc10) rfl rfl (by kernel_rfl) (by kernel_rfl) (by kernel_rfl) (fun _ _ _ h => h) (Or.inl ⟨by rfl, ?htc10⟩) hS0 ?rtc10
              case htc10 => (intro w hw; obtain ⟨⟨⟨q1, q2⟩, n1, n2⟩, ⟨x0, x1⟩, m0, m1⟩ := HSS.out _ hw; go_simp; try (with_reducible rfl))
              try simp only [Act.put, List.setIfInBounds_toArray, List.set_cons_zero, List.set_cons_succ]
              refine takeG (some 144) (i := 11) (v := ?vtc11) rfl rfl (by kernel_rfl) (by kernel_rfl) (by kernel_rfl) (fun _ _ _ h => h) (Or.inl ⟨by rfl, ?htc11⟩) hS0 ?rtc11
              case htc11 => (intro w hw; obtain ⟨⟨⟨q1, q2⟩, n1, n2⟩, ⟨x0, x1⟩, m0, m1⟩ := HSS.out _ hw; go_simp; try (with_reducible rfl))
              try simp only [Act.put, List.setIfInBounds_toArray, List.set_cons_zero, List.set_cons_succ]
              refine takeG (some 145) (i := 12) (v := ?vtc12) rfl rfl (by kernel_rfl) (by kernel_rfl) (by kernel_rfl) (fun _ _ _ h => h) (Or.inl ⟨by rfl, ?htc12⟩) hS0 ?rtc12
              case htc12 => (intro w hw; obtain ⟨⟨⟨q1, q2⟩, n1, n2⟩, ⟨x0, x1⟩, m0, m1⟩ := HSS.out _ hw; go_simp; try (with_reducible rfl))
              try simp only [Act.put, List.setIfInBounds_toArray, List.set_cons_zero, List.set_cons_succ]
              refine takeG (some 146) (i := 13) (v := ?vtc13) rfl rfl (by kernel_rfl) (by kernel_rfl) (by kernel_rfl) (fun _ _ _ h => h) (Or.inl ⟨by rfl, ?htc13⟩) hS0 ?rtc13
              case htc13 => (intro w hw; obtain ⟨⟨⟨q1, q2⟩, n1, n2⟩, ⟨x0, x1⟩, m0, m1⟩ := HSS.out _ hw; go_simp; try (with_reducible rfl))
              try simp only [Act.put, List.setIfInBounds_toArray, List.set_cons_zero, List.set_cons_succ]
              refine takeG (some 147) (i := 14) (v := ?vtc14) rfl rfl (by kernel_rfl) (by kernel_rfl) (by kernel_rfl) (fun _ _ _ h => h) (Or.inl ⟨by rfl, ?htc14⟩) hS0 ?rtc14
              case htc14 => (intro w hw; obtain ⟨⟨⟨q1, q2⟩, n1, n2⟩, ⟨x0, x1⟩, m0, m1⟩ := HSS.out _ hw; go_simp; try (with_reducible rfl))
              try simp only [Act.put, List.setIfInBounds_toArray, List.set_cons_zero, List.set_cons_succ]
              refine takeG (some 148) (i := 15) (v := ?vtc15) rfl rfl (by kernel_rfl) (by kernel_rfl) (by kernel_rfl) (fun _ _ _ h => h) (Or.inl ⟨by rfl, ?htc15⟩) hS0 ?rtc15
              case htc15 => (intro w hw; obtain ⟨⟨⟨q1, q2⟩, n1, n2⟩, ⟨x0, x1⟩, m0, m1⟩ := HSS.out _ hw; go_simp; try (with_reducible rfl))
              try simp only [Act.put, List.setIfInBounds_toArray, List.set_cons_zero, List.set_cons_succ]
              refine takeG (some 149) (i := 16) (v := ?vtc16) rfl rfl (by kernel_rfl) (by kernel_rfl) (by kernel_rfl) (fun _ _ _ h => h) (Or.inl ⟨by rfl, ?htc16⟩) hS0 ?rtc16
              case htc16 => (intro w hw; obtain ⟨⟨⟨q1, q2⟩, n1, n2⟩, ⟨x0, x1⟩, m0, m1⟩ := HSS.out _ hw; go_simp; try (with_reducible rfl))
              try simp only [Act.put, List.setIfInBounds_toArray, List.set_cons_zero, List.set_cons_succ]
              refine takeG (some 150) (i := 17) (v := undef) rfl rfl (by kernel_rfl) (by kernel_rfl) (by kernel_rfl) (fun _ _ _ h => h) (Or.inr ⟨by rfl, rfl⟩) hS0 ?_
              try simp only [Act.put, List.setIfInBounds_toArray, List.set_cons_zero, List.set_cons_succ]
              refine takeG (some 151) (i := 18) (v := undef) rfl rfl (by kernel_rfl) (by kernel_rfl) (by kernel_rfl) (fun _ _ _ h => h) (Or.inr ⟨by rfl, rfl⟩) hS0 ?_
              try simp only [Act.put, List.setIfInBounds_toArray, List.set_cons_zero, List.set_cons_succ]
              refine takeG (some 152) (i := 19) (v := undef) rfl rfl (by kernel_rfl) (by kernel_rfl) (by kernel_rfl) (fun _ _ _ h => h) (Or.inr ⟨by rfl, rfl⟩) hS0 ?_
              try simp only [Act.put, List.setIfInBounds_toArray, List.set_cons_zero, List.set_cons_succ]
              refine takeG (some 153) (i := 20) (v := undef) rfl rfl (by kernel_rfl) (by kernel_rfl) (by kernel_rfl) (fun _ _ _ h => h) (Or.inr ⟨by rfl, rfl⟩) hS0 ?_
              try simp only [Act.put, List.setIfInBounds_toArray, List.set_cons_zero, List.set_cons_succ]
              refine takeG (some 154) (i := 21) (v := undef) rfl rfl (by kernel_rfl) (by kernel_rfl) (by kernel_rfl) (fun _ _ _ h => h) (Or.inr ⟨by rfl, rfl⟩) hS0 ?_
              try simp only [Act.put, List.setIfInBounds_toArray, List.set_cons_zero, List.set_cons_succ]
              refine takeG (some 155) (i := 22) (v := undef) rfl rfl (by kernel_rfl) (by kernel_rfl) (by kernel_rfl) (fun _ _ _ h => h) (Or.inr ⟨by rfl, rfl⟩) hS0 ?_
              try simp only [Act.put, List.setIfInBounds_toArray, List.set_cons_zero, List.set_cons_succ]
              refine takeG (some 156) (i := 23) (v := undef) rfl rfl (by kernel_rfl) (by kernel_rfl) (by kernel_rfl) (fun _ _ _ h => h) (Or.inr ⟨by rfl, rfl⟩) hS0 ?_
              try simp only [Act.put, List.setIfInBounds_toArray, List.set_cons_zero, List.set_cons_succ]
              refine takeG (some 157) (i := 24) (v := undef) rfl rfl (by kernel_rfl) (by kernel_rfl) (by kernel_rfl) (fun _ _ _ h => h) (Or.inr ⟨by rfl, rfl⟩) hS0 ?_
              try simp only [Act.put, List.setIfInBounds_toArray, List.set_cons_zero, List.set_cons_succ]
              refine takeG (some 158) (i := 25) (v := undef) rfl rfl (by kernel_rfl) (by kernel_rfl) (by kernel_rfl) (fun _ _ _ h => h) (Or.inr ⟨by rfl, rfl⟩) hS0 ?_
              try simp only [Act.put, List.setIfInBounds_toArray, List.set_cons_zero, List.set_cons_succ]
              refine takeG (some 159) (i := 26) (v := ?vtc26) rfl rfl (by kernel_rfl) (by kernel_rfl) (by kernel_rfl) (fun _ _ _ h => h) (Or.inl ⟨by rfl, ?htc26⟩) hS0 ?rtc26
              case htc26 => (intro w hw; obtain ⟨⟨⟨q1, q2⟩, n1, n2⟩, ⟨x0, x1⟩, m0, m1⟩ := HSS.out _ hw; go_simp; try (with_reducible rfl))
              try simp only [Act.put, List.setIfInBounds_toArray, List.set_cons_zero, List.set_cons_succ]
              refine takeG (some 160) (i := 27) (v := ?vtc27) rfl rfl (by kernel_rfl) (by kernel_rfl) (by kernel_rfl) (fun _ _ _ h => h) (Or.inl ⟨by rfl, ?htc27⟩) hS0 ?rtc27
              case htc27 => (intro w hw; obtain ⟨⟨⟨q1, q2⟩, n1, n2⟩, ⟨x0, x1⟩, m0, m1⟩ := HSS.out _ hw; go_simp; try (with_reducible rfl))
              try simp only [Act.put, List.setIfInBounds_toArray, List.set_cons_zero, List.set_cons_succ]
              refine wpAnyH_done (by kernel_rfl) ?_ _
              have hb := hbx.trans (kd.mono hbx.size)
              clear kd hbx hS0
              go_wp2_with fail
              go_roundw
              case rel => exact ⟨k + 1, by omega, by go_num, hb⟩
              case measure => simp [intOf]; omega
          · have hkn : ¬ (k : Int) < (L.length : Int) := by omega
            go_wp2_with fail
            go_roundw
            case rel => exact ⟨i + 1, by omega, by go_num, hb⟩
            case measure => simp [intOf]; omega
    · have hin : ¬ (i : Int) < (h.length : Int) := by omega
      have kd := hb.drew
      have CW := Lib.hid (fun wx => withinR_any (sesM h) (timM h) wx)
      rw [HIN.out] at CW
      have CC := Lib.hid (fun wx => rclos_any (timM h) wx)
      have CY := Lib.hid (fun wx => acyclic_any (timM h) wx)
      rw [HAC.out] at CY
      have HSD := Lib.hid (fun wx (hx : Below w8.heap.size w8 wx) => And.intro (HA1.out wx hx).cS (HA2.out wx hx).2.2.2)
      generalize soundTo h h.length = sd at *
      clear hi hlt
      go_upto_region 23 with fail
      cases sd with
      | true =>
        as_aux_lemma =>
          refine wp_region_held_drew (S := Below w8.heap.size w8) (by kernel_rfl) kd (fun hS0 => ?_)
          refine takeG (some 163) (i := 0) (v := ?vtdt0) rfl rfl (by kernel_rfl) (by kernel_rfl) (by kernel_rfl) (fun _ _ _ h => h) (Or.inl ⟨by rfl, ?htdt0⟩) hS0 ?rtdt0
          case htdt0 => (intro w hw; obtain ⟨n0, n1⟩ := HSD.out _ hw; go_simp; try (with_reducible rfl))
          try simp only [Act.put, List.setIfInBounds_toArray, List.set_cons_zero, List.set_cons_succ]
          refine takeG (some 164) (i := 1) (v := ?vtdt1) rfl rfl (by kernel_rfl) (by kernel_rfl) (by kernel_rfl) (fun _ _ _ h => h) (Or.inl ⟨by rfl, ?htdt1⟩) hS0 ?rtdt1
          case htdt1 => (intro w hw; obtain ⟨n0, n1⟩ := HSD.out _ hw; go_simp; try (with_reducible rfl))
          try simp only [Act.put, List.setIfInBounds_toArray, List.set_cons_zero, List.set_cons_succ]
          refine takeG (some 165) (i := 2) (v := ?vtdt2) rfl rfl (by kernel_rfl) (by kernel_rfl) (by kernel_rfl) (fun _ _ _ h => h) (Or.inl ⟨by rfl, ?htdt2⟩) hS0 ?rtdt2
          case htdt2 => (intro w hw; obtain ⟨n0, n1⟩ := HSD.out _ hw; go_simp; try (with_reducible rfl))
          try simp only [Act.put, List.setIfInBounds_toArray, List.set_cons_zero, List.set_cons_succ]
          refine takeG (some 166) (i := 3) (v := _) rfl rfl (by kernel_rfl) (by kernel_rfl) (by kernel_rfl) (fun _ _ _ h => h) (yields_load_part (by rfl) _ rfl rfl (fun wx hx => (HA1.out wx hx).rS)) hS0 ?_
          try simp only [Act.put, List.setIfInBounds_toArray, List.set_cons_zero, List.set_cons_succ]
          refine takeG (some 167) (i := 4) (v := ?vtdt4) rfl rfl (by kernel_rfl) (by kernel_rfl) (by kernel_rfl) (fun _ _ _ h => h) (Or.inl ⟨by rfl, ?htdt4⟩) hS0 ?rtdt4
          case htdt4 => (intro w hw; obtain ⟨n0, n1⟩ := HSD.out _ hw; go_simp; try (with_reducible rfl))
          try simp only [Act.put, List.setIfInBounds_toArray, List.set_cons_zero, List.set_cons_succ]
          refine takeG (some 168) (i := 5) (v := ?vtdt5) rfl rfl (by kernel_rfl) (by kernel_rfl) (by kernel_rfl) (fun _ _ _ h => h) (Or.inl ⟨by rfl, ?htdt5⟩) hS0 ?rtdt5
          case htdt5 => (intro w hw; obtain ⟨n0, n1⟩ := HSD.out _ hw; go_simp; try (with_reducible rfl))
          try simp only [Act.put, List.setIfInBounds_toArray, List.set_cons_zero, List.set_cons_succ]
          refine takeG (some 169) (i := 6) (v := ?vtdt6) rfl rfl (by kernel_rfl) (by kernel_rfl) (by kernel_rfl) (fun _ _ _ h => h) (Or.inl ⟨by rfl, ?htdt6⟩) hS0 ?rtdt6
          case htdt6 => (intro w hw; obtain ⟨n0, n1⟩ := HSD.out _ hw; go_simp; try (with_reducible rfl))
          try simp only [Act.put, List.setIfInBounds_toArray, List.set_cons_zero, List.set_cons_succ]
          refine takeG (some 170) (i := 7) (v := _) rfl rfl (by kernel_rfl) (by kernel_rfl) (by kernel_rfl) (fun _ _ _ h => h) (yields_load_part (by rfl) _ rfl rfl (fun wx hx => (HA2.out wx hx).1)) hS0 ?_
          try simp only [Act.put, List.setIfInBounds_toArray, List.set_cons_zero, List.set_cons_succ]
          refine takeG (some 171) (i := 8) (v := _) rfl rfl (by kernel_rfl) (by kernel_rfl) (by kernel_rfl) (fun _ _ _ h => h) (yields_eql2 (by rfl) _ _ rfl rfl rfl (rfl)) hS0 ?_
          try simp only [Act.put, List.setIfInBounds_toArray, List.set_cons_zero, List.set_cons_succ]
          refine takeG (some 172) (i := 9) (v := ?vtdt9) rfl rfl (by kernel_rfl) (by kernel_rfl) (by kernel_rfl) (fun _ _ _ h => h) (Or.inl ⟨by rfl, ?htdt9⟩) hS0 ?rtdt9
          case htdt9 => (intro w hw; obtain ⟨n0, n1⟩ := HSD.out _ hw; go_simp; try (with_reducible rfl))
          try simp only [Act.put, List.setIfInBounds_toArray, List.set_cons_zero, List.set_cons_succ]
          refine takeG (some 173) (i := 10) (v := ?vtdt10) rfl rfl (by kernel_rfl) (by kernel_rfl) (by kernel_rfl) (fun _ _ _ h => h) (Or.inl ⟨by rfl, ?htdt10⟩) hS0 ?rtdt10
          case htdt10 => (intro w hw; obtain ⟨n0, n1⟩ := HSD.out _ hw; go_simp; try (with_reducible rfl))
          try simp only [Act.put, List.setIfInBounds_toArray, List.set_cons_zero, List.set_cons_succ]
          refine takeG (some 174) (i := 11) (v := ?vtdt11) rfl rfl (by kernel_rfl) (by kernel_rfl) (by kernel_rfl) (fun _ _ _ h => h) (Or.inl ⟨by rfl, ?htdt11⟩) hS0 ?rtdt11
          case htdt11 => (intro w hw; obtain ⟨n0, n1⟩ := HSD.out _ hw; go_simp; try (with_reducible rfl))
          try simp only [Act.put, List.setIfInBounds_toArray, List.set_cons_zero, List.set_cons_succ]
          refine takeG (some 175) (i := 12) (v := ?vtdt12) rfl rfl (by kernel_rfl) (by kernel_rfl) (by kernel_rfl) (fun _ _ _ h => h) (Or.inl ⟨by rfl, ?htdt12⟩) hS0 ?rtdt12
          case htdt12 => (intro w hw; obtain ⟨n0, n1⟩ := HSD.out _ hw; go_simp; try (with_reducible rfl))
          try simp only [Act.put, List.setIfInBounds_toArray, List.set_cons_zero, List.set_cons_succ]
          refine takeG (some 176) (i := 13) (v := _) rfl rfl (by kernel_rfl) (by kernel_rfl) (by kernel_rfl) (fun _ _ _ h => h) (yields_load_part (by rfl) _ rfl rfl (fun wx hx => (HA1.out wx hx).rT)) hS0 ?_
          try simp only [Act.put, List.setIfInBounds_toArray, List.set_cons_zero, List.set_cons_succ]
          refine takeG (some 177) (i := 14) (v := ?vtdt14) rfl rfl (by kernel_rfl) (by kernel_rfl) (by kernel_rfl) (fun _ _ _ h => h) (Or.inl ⟨by rfl, ?htdt14⟩) hS0 ?rtdt14
          case htdt14 => (intro w hw; obtain ⟨n0, n1⟩ := HSD.out _ hw; go_simp; try (with_reducible rfl))
          try simp only [Act.put, List.setIfInBounds_toArray, List.set_cons_zero, List.set_cons_succ]
          refine takeG (some 178) (i := 15) (v := ?vtdt15) rfl rfl (by kernel_rfl) (by kernel_rfl) (by kernel_rfl) (fun _ _ _ h => h) (Or.inl ⟨by rfl, ?htdt15⟩) hS0 ?rtdt15
          case htdt15 => (intro w hw; obtain ⟨n0, n1⟩ := HSD.out _ hw; go_simp; try (with_reducible rfl))
          try simp only [Act.put, List.setIfInBounds_toArray, List.set_cons_zero, List.set_cons_succ]
          refine takeG (some 179) (i := 16) (v := ?vtdt16) rfl rfl (by kernel_rfl) (by kernel_rfl) (by kernel_rfl) (fun _ _ _ h => h) (Or.inl ⟨by rfl, ?htdt16⟩) hS0 ?rtdt16
          case htdt16 => (intro w hw; obtain ⟨n0, n1⟩ := HSD.out _ hw; go_simp; try (with_reducible rfl))
          try simp only [Act.put, List.setIfInBounds_toArray, List.set_cons_zero, List.set_cons_succ]
          refine takeG (some 180) (i := 17) (v := _) rfl rfl (by kernel_rfl) (by kernel_rfl) (by kernel_rfl) (fun _ _ _ h => h) (yields_load_part (by rfl) _ rfl rfl (fun wx hx => (HA2.out wx hx).2.1)) hS0 ?_
          try simp only [Act.put, List.setIfInBounds_toArray, List.set_cons_zero, List.set_cons_succ]
          refine takeG (some 181) (i := 18) (v := _) rfl rfl (by kernel_rfl) (by kernel_rfl) (by kernel_rfl) (fun _ _ _ h => h) (yields_eql2 (by rfl) _ _ rfl rfl rfl (rfl)) hS0 ?_
          try simp only [Act.put, List.setIfInBounds_toArray, List.set_cons_zero, List.set_cons_succ]
          refine takeG (some 182) (i := 19) (v := ?vtdt19) rfl rfl (by kernel_rfl) (by kernel_rfl) (by kernel_rfl) (fun _ _ _ h => h) (Or.inl ⟨by rfl, ?htdt19⟩) hS0 ?rtdt19
          case htdt19 => (intro w hw; obtain ⟨n0, n1⟩ := HSD.out _ hw; go_simp; try (with_reducible rfl))
          try simp only [Act.put, List.setIfInBounds_toArray, List.set_cons_zero, List.set_cons_succ]
          refine takeG (some 183) (i := 20) (v := ?vtdt20) rfl rfl (by kernel_rfl) (by kernel_rfl) (by kernel_rfl) (fun _ _ _ h => h) (Or.inl ⟨by rfl, ?htdt20⟩) hS0 ?rtdt20
          case htdt20 => (intro w hw; obtain ⟨n0, n1⟩ := HSD.out _ hw; go_simp; try (with_reducible rfl))
          try simp only [Act.put, List.setIfInBounds_toArray, List.set_cons_zero, List.set_cons_succ]
          refine takeG (some 184) (i := 21) (v := ?vtdt21) rfl rfl (by kernel_rfl) (by kernel_rfl) (by kernel_rfl) (fun _ _ _ h => h) (Or.inl ⟨by rfl, ?htdt21⟩) hS0 ?rtdt21
          case htdt21 => (intro w hw; obtain ⟨n0, n1⟩ := HSD.out _ hw; go_simp; try (with_reducible rfl))
          try simp only [Act.put, List.setIfInBounds_toArray, List.set_cons_zero, List.set_cons_succ]
          refine takeG (some 185) (i := 22) (v := ?vtdt22) rfl rfl (by kernel_rfl) (by kernel_rfl) (by kernel_rfl) (fun _ _ _ h => h) (Or.inl ⟨by rfl, ?htdt22⟩) hS0 ?rtdt22
          case htdt22 => (intro w hw; obtain ⟨n0, n1⟩ := HSD.out _ hw; go_simp; try (with_reducible rfl))
          try simp only [Act.put, List.setIfInBounds_toArray, List.set_cons_zero, List.set_cons_succ]
          refine takeG (some 186) (i := 23) (v := ?vtdt23) rfl rfl (by kernel_rfl) (by kernel_rfl) (by kernel_rfl) (fun _ _ _ h => h) (Or.inl ⟨by rfl, ?htdt23⟩) hS0 ?rtdt23
          case htdt23 => (intro w hw; obtain ⟨n0, n1⟩ := HSD.out _ hw; go_simp; try (with_reducible rfl))
          try simp only [Act.put, List.setIfInBounds_toArray, List.set_cons_zero, List.set_cons_succ]
          refine takeG (some 187) (i := 24) (v := _) rfl rfl (by kernel_rfl) (by kernel_rfl) (by kernel_rfl) (fun _ _ _ h => h) (yields_load_part (by rfl) _ rfl rfl (fun wx hx => (HA1.out wx hx).rF)) hS0 ?_
          try simp only [Act.put, List.setIfInBounds_toArray, List.set_cons_zero, List.set_cons_succ]
          refine takeG (some 188) (i := 25) (v := ?vtdt25) rfl rfl (by kernel_rfl) (by kernel_rfl) (by kernel_rfl) (fun _ _ _ h => h) (Or.inl ⟨by rfl, ?htdt25⟩) hS0 ?rtdt25
          case htdt25 => (intro w hw; obtain ⟨n0, n1⟩ := HSD.out _ hw; go_simp; try (with_reducible rfl))
          try simp only [Act.put, List.setIfInBounds_toArray, List.set_cons_zero, List.set_cons_succ]
          refine takeG (some 189) (i := 26) (v := ?vtdt26) rfl rfl (by kernel_rfl) (by kernel_rfl) (by kernel_rfl) (fun _ _ _ h => h) (Or.inl ⟨by rfl, ?htdt26⟩) hS0 ?rtdt26
          case htdt26 => (intro w hw; obtain ⟨n0, n1⟩ := HSD.out _ hw; go_simp; try (with_reducible rfl))
          try simp only [Act.put, List.setIfInBounds_toArray, List.set_cons_zero, List.set_cons_succ]
          refine takeG (some 190) (i := 27) (v := ?vtdt27) rfl rfl (by kernel_rfl) (by kernel_rfl) (by kernel_rfl) (fun _ _ _ h => h) (Or.inl ⟨by rfl, ?htdt27⟩) hS0 ?rtdt27
          case htdt27 => (intro w hw; obtain ⟨n0, n1⟩ := HSD.out _ hw; go_simp; try (with_reducible rfl))
          try simp only [Act.put, List.setIfInBounds_toArray, List.set_cons_zero, List.set_cons_succ]
          refine takeG (some 191) (i := 28) (v := _) rfl rfl (by kernel_rfl) (by kernel_rfl) (by kernel_rfl) (fun _ _ _ h => h) (yields_load_part (by rfl) _ rfl rfl (fun wx hx => (HA2.out wx hx).2.2.1)) hS0 ?_
          try simp only [Act.put, List.setIfInBounds_toArray, List.set_cons_zero, List.set_cons_succ]
          refine takeG (some 192) (i := 29) (v := _) rfl rfl (by kernel_rfl) (by kernel_rfl) (by kernel_rfl) (fun _ _ _ h => h) (yields_eql2 (by rfl) _ _ rfl rfl rfl (rfl)) hS0 ?_
          try simp only [Act.put, List.setIfInBounds_toArray, List.set_cons_zero, List.set_cons_succ]
          refine takeG (some 193) (i := 30) (v := ?vtdt30) rfl rfl (by kernel_rfl) (by kernel_rfl) (by kernel_rfl) (fun _ _ _ h => h) (Or.inl ⟨by rfl, ?htdt30⟩) hS0 ?rtdt30
          case htdt30 => (intro w hw; obtain ⟨n0, n1⟩ := HSD.out _ hw; go_simp; try (with_reducible rfl))
          try simp only [Act.put, List.setIfInBounds_toArray, List.set_cons_zero, List.set_cons_succ]
          refine takeG (some 194) (i := 31) (v := ?vtdt31) rfl rfl (by kernel_rfl) (by kernel_rfl) (by kernel_rfl) (fun _ _ _ h => h) (Or.inl ⟨by rfl, ?htdt31⟩) hS0 ?rtdt31
          case htdt31 => (intro w hw; obtain ⟨n0, n1⟩ := HSD.out _ hw; go_simp; try (with_reducible rfl))
          try simp only [Act.put, List.setIfInBounds_toArray, List.set_cons_zero, List.set_cons_succ]
          refine takeG (some 195) (i := 32) (v := ?vtdt32) rfl rfl (by kernel_rfl) (by kernel_rfl) (by kernel_rfl) (fun _ _ _ h => h) (Or.inl ⟨by rfl, ?htdt32⟩) hS0 ?rtdt32
          case htdt32 => (intro w hw; obtain ⟨n0, n1⟩ := HSD.out _ hw; go_simp; try (with_reducible rfl))
          try simp only [Act.put, List.setIfInBounds_toArray, List.set_cons_zero, List.set_cons_succ]
          refine takeG (some 196) (i := 33) (v := ?vtdt33) rfl rfl (by kernel_rfl) (by kernel_rfl) (by kernel_rfl) (fun _ _ _ h => h) (Or.inl ⟨by rfl, ?htdt33⟩) hS0 ?rtdt33
          case htdt33 => (intro w hw; obtain ⟨n0, n1⟩ := HSD.out _ hw; go_simp; try (with_reducible rfl))
          try simp only [Act.put, List.setIfInBounds_toArray, List.set_cons_zero, List.set_cons_succ]
          refine takeG (some 197) (i := 34) (v := ?vtdt34) rfl rfl (by kernel_rfl) (by kernel_rfl) (by kernel_rfl) (fun _ _ _ h => h) (Or.inl ⟨by rfl, ?htdt34⟩) hS0 ?rtdt34
          case htdt34 => (intro w hw; obtain ⟨n0, n1⟩ := HSD.out _ hw; go_simp; try (with_reducible rfl))
          try simp only [Act.put, List.setIfInBounds_toArray, List.set_cons_zero, List.set_cons_succ]
          refine takeG (some 198) (i := 35) (v := ?vtdt35) rfl rfl (by kernel_rfl) (by kernel_rfl) (by kernel_rfl) (fun _ _ _ h => h) (Or.inl ⟨by rfl, ?htdt35⟩) hS0 ?rtdt35
          case htdt35 => (intro w hw; obtain ⟨n0, n1⟩ := HSD.out _ hw; go_simp; try (with_reducible rfl))
          try simp only [Act.put, List.setIfInBounds_toArray, List.set_cons_zero, List.set_cons_succ]
          refine takeG (some 199) (i := 36) (v := ?vtdt36) rfl rfl (by kernel_rfl) (by kernel_rfl) (by kernel_rfl) (fun _ _ _ h => h) (Or.inl ⟨by rfl, ?htdt36⟩) hS0 ?rtdt36
          case htdt36 => (intro w hw; obtain ⟨n0, n1⟩ := HSD.out _ hw; go_simp; try (with_reducible rfl))
          try simp only [Act.put, List.setIfInBounds_toArray, List.set_cons_zero, List.set_cons_succ]
          refine takeG (some 200) (i := 37) (v := ?vtdt37) rfl rfl (by kernel_rfl) (by kernel_rfl) (by kernel_rfl) (fun _ _ _ h => h) (Or.inl ⟨by rfl, ?htdt37⟩) hS0 ?rtdt37
          case htdt37 => (intro w hw; obtain ⟨n0, n1⟩ := HSD.out _ hw; go_simp; try (with_reducible rfl))
          try simp only [Act.put, List.setIfInBounds_toArray, List.set_cons_zero, List.set_cons_succ]
          refine takeG (some 201) (i := 38) (v := ?vtdt38) rfl rfl (by kernel_rfl) (by kernel_rfl) (by kernel_rfl) (fun _ _ _ h => h) (Or.inl ⟨by rfl, ?htdt38⟩) hS0 ?rtdt38
          case htdt38 => (intro w hw; obtain ⟨n0, n1⟩ := HSD.out _ hw; go_simp; try (with_reducible rfl))
          try simp only [Act.put, List.setIfInBounds_toArray, List.set_cons_zero, List.set_cons_succ]
          refine takeG (some 202) (i := 39) (v := ?vtdt39) rfl rfl (by kernel_rfl) (by kernel_rfl) (by kernel_rfl) (fun _ _ _ h => h) (Or.inl ⟨by rfl, ?htdt39⟩) hS0 ?rtdt39
          case htdt39 => (intro w hw; obtain ⟨n0, n1⟩ := HSD.out _ hw; go_simp; try (with_reducible rfl))
          try simp only [Act.put, List.setIfInBounds_toArray, List.set_cons_zero, List.set_cons_succ]
          refine takeG (some 203) (i := 40) (v := ?vtdt40) rfl rfl (by kernel_rfl) (by kernel_rfl) (by kernel_rfl) (fun _ _ _ h => h) (Or.inl ⟨by rfl, ?htdt40⟩) hS0 ?rtdt40
          case htdt40 => (intro w hw; obtain ⟨n0, n1⟩ := HSD.out _ hw; go_simp; try (with_reducible rfl))
          try simp only [Act.put, List.setIfInBounds_toArray, List.set_cons_zero, List.set_cons_succ]
          refine takeG (some 204) (i := 41) (v := ?vtdt41) rfl rfl (by kernel_rfl) (by kernel_rfl) (by kernel_rfl) (fun _ _ _ h => h) (Or.inl ⟨by rfl, ?htdt41⟩) hS0 ?rtdt41
          case htdt41 => (intro w hw; obtain ⟨n0, n1⟩ := HSD.out _ hw; go_simp; try (with_reducible rfl))
          try simp only [Act.put, List.setIfInBounds_toArray, List.set_cons_zero, List.set_cons_succ]
          refine takeG (some 205) (i := 42) (v := ?vtdt42) rfl rfl (by kernel_rfl) (by kernel_rfl) (by kernel_rfl) (fun _ _ _ h => h) (Or.inl ⟨by rfl, ?htdt42⟩) hS0 ?rtdt42
          case htdt42 => (intro w hw; obtain ⟨n0, n1⟩ := HSD.out _ hw; go_simp; try (with_reducible rfl))
          try simp only [Act.put, List.setIfInBounds_toArray, List.set_cons_zero, List.set_cons_succ]
          refine takeG (some 206) (i := 43) (v := ?vtdt43) rfl rfl (by kernel_rfl) (by kernel_rfl) (by kernel_rfl) (fun _ _ _ h => h) (Or.inl ⟨by rfl, ?htdt43⟩) hS0 ?rtdt43
          case htdt43 => (intro w hw; obtain ⟨n0, n1⟩ := HSD.out _ hw; go_simp; try (with_reducible rfl))
          try simp only [Act.put, List.setIfInBounds_toArray, List.set_cons_zero, List.set_cons_succ]
          refine takeG (some 207) (i := 44) (v := ?vtdt44) rfl rfl (by kernel_rfl) (by kernel_rfl) (by kernel_rfl) (fun _ _ _ h => h) (Or.inl ⟨by rfl, ?htdt44⟩) hS0 ?rtdt44
          case htdt44 => (intro w hw; obtain ⟨n0, n1⟩ := HSD.out _ hw; go_simp; try (with_reducible rfl))
          try simp only [Act.put, List.setIfInBounds_toArray, List.set_cons_zero, List.set_cons_succ]
          refine takeG (some 208) (i := 45) (v := ?vtdt45) rfl rfl (by kernel_rfl) (by kernel_rfl) (by kernel_rfl) (fun _ _ _ h => h) (Or.inl ⟨by rfl, ?htdt45⟩) hS0 ?rtdt45
          case htdt45 => (intro w hw; obtain ⟨n0, n1⟩ := HSD.out _ hw; go_simp; try (with_reducible rfl))
          try simp only [Act.put, List.setIfInBounds_toArray, List.set_cons_zero, List.set_cons_succ]
          refine takeG (some 209) (i := 46) (v := _) rfl rfl (by kernel_rfl) (by kernel_rfl) (by kernel_rfl) (fun _ _ _ h => h) (yields_load_part (by rfl) _ rfl rfl (fun wx hx => (HA1.out wx hx).rS)) hS0 ?_
          try simp only [Act.put, List.setIfInBounds_toArray, List.set_cons_zero, List.set_cons_succ]
          refine takeG (some 210) (i := 47) (v := ?vtdt47) rfl rfl (by kernel_rfl) (by kernel_rfl) (by kernel_rfl) (fun _ _ _ h => h) (Or.inl ⟨by rfl, ?htdt47⟩) hS0 ?rtdt47
          case htdt47 => (intro w hw; obtain ⟨n0, n1⟩ := HSD.out _ hw; go_simp; try (with_reducible rfl))
          try simp only [Act.put, List.setIfInBounds_toArray, List.set_cons_zero, List.set_cons_succ]
          refine takeG (some 211) (i := 48) (v := ?vtdt48) rfl rfl (by kernel_rfl) (by kernel_rfl) (by kernel_rfl) (fun _ _ _ h => h) (Or.inl ⟨by rfl, ?htdt48⟩) hS0 ?rtdt48
          case htdt48 => (intro w hw; obtain ⟨n0, n1⟩ := HSD.out _ hw; go_simp; try (with_reducible rfl))
          try simp only [Act.put, List.setIfInBounds_toArray, List.set_cons_zero, List.set_cons_succ]
          refine takeG (some 212) (i := 49) (v := ?vtdt49) rfl rfl (by kernel_rfl) (by kernel_rfl) (by kernel_rfl) (fun _ _ _ h => h) (Or.inl ⟨by rfl, ?htdt49⟩) hS0 ?rtdt49
          case htdt49 => (intro w hw; obtain ⟨n0, n1⟩ := HSD.out _ hw; go_simp; try (with_reducible rfl))
          try simp only [Act.put, List.setIfInBounds_toArray, List.set_cons_zero, List.set_cons_succ]
          refine takeG (some 213) (i := 50) (v := _) rfl rfl (by kernel_rfl) (by kernel_rfl) (by kernel_rfl) (fun _ _ _ h => h) (yields_load_part (by rfl) _ rfl rfl (fun wx hx => (HA1.out wx hx).rT)) hS0 ?_
          try simp only [Act.put, List.setIfInBounds_toArray, List.set_cons_zero, List.set_cons_succ]
          refine wpAnyH_ready (rs := [51]) (by kernel_rfl) (by simp) ?_
          refine AllReadyH.cons rfl (fun K hK => ?_) AllReadyH.nil
          go_simp
          refine (CW.out _).mono ?_
          rintro e y1 ⟨rfl, j1⟩
          show K _ _
          have s1 := below_then hS0 j1
          refine hK.out _ _ s1 (fun _ => ?_)
          clear hK K
          refine takeG (some 215) (i := 52) (v := ?vtdt52) rfl rfl (by kernel_rfl) (by kernel_rfl) (by kernel_rfl) (fun _ _ _ h => h) (Or.inl ⟨by rfl, ?htdt52⟩) s1 ?rtdt52
          case htdt52 => (intro w hw; obtain ⟨n0, n1⟩ := HSD.out _ hw; go_simp; try (with_reducible rfl))
          try simp only [Act.put, List.setIfInBounds_toArray, List.set_cons_zero, List.set_cons_succ]
          refine takeG (some 216) (i := 53) (v := ?vtdt53) rfl rfl (by kernel_rfl) (by kernel_rfl) (by kernel_rfl) (fun _ _ _ h => h) (Or.inl ⟨by rfl, ?htdt53⟩) s1 ?rtdt53
          case htdt53 => (intro w hw; obtain ⟨n0, n1⟩ := HSD.out _ hw; go_simp; try (with_reducible rfl))
          try simp only [Act.put, List.setIfInBounds_toArray, List.set_cons_zero, List.set_cons_succ]
          refine takeG (some 217) (i := 54) (v := ?vtdt54) rfl rfl (by kernel_rfl) (by kernel_rfl) (by kernel_rfl) (fun _ _ _ h => h) (Or.inl ⟨by rfl, ?htdt54⟩) s1 ?rtdt54
          case htdt54 => (intro w hw; obtain ⟨n0, n1⟩ := HSD.out _ hw; go_simp; try (with_reducible rfl))
          try simp only [Act.put, List.setIfInBounds_toArray, List.set_cons_zero, List.set_cons_succ]
          refine takeG (some 218) (i := 55) (v := ?vtdt55) rfl rfl (by kernel_rfl) (by kernel_rfl) (by kernel_rfl) (fun _ _ _ h => h) (Or.inl ⟨by rfl, ?htdt55⟩) s1 ?rtdt55
          case htdt55 => (intro w hw; obtain ⟨n0, n1⟩ := HSD.out _ hw; go_simp; try (with_reducible rfl))
          try simp only [Act.put, List.setIfInBounds_toArray, List.set_cons_zero, List.set_cons_succ]
          refine takeG (some 219) (i := 56) (v := ?vtdt56) rfl rfl (by kernel_rfl) (by kernel_rfl) (by kernel_rfl) (fun _ _ _ h => h) (Or.inl ⟨by rfl, ?htdt56⟩) s1 ?rtdt56
          case htdt56 => (intro w hw; obtain ⟨n0, n1⟩ := HSD.out _ hw; go_simp; try (with_reducible rfl))
          try simp only [Act.put, List.setIfInBounds_toArray, List.set_cons_zero, List.set_cons_succ]
          refine takeG (some 220) (i := 57) (v := _) rfl rfl (by kernel_rfl) (by kernel_rfl) (by kernel_rfl) (fun _ _ _ h => h) (yields_load_part (by rfl) _ rfl rfl (fun wx hx => (HA1.out wx hx).rT)) s1 ?_
          try simp only [Act.put, List.setIfInBounds_toArray, List.set_cons_zero, List.set_cons_succ]
          refine takeG (some 222) (i := 59) (v := ?vtdt59) rfl rfl (by kernel_rfl) (by kernel_rfl) (by kernel_rfl) (fun _ _ _ h => h) (Or.inl ⟨by rfl, ?htdt59⟩) s1 ?rtdt59
          case htdt59 => (intro w hw; obtain ⟨n0, n1⟩ := HSD.out _ hw; go_simp; try (with_reducible rfl))
          try simp only [Act.put, List.setIfInBounds_toArray, List.set_cons_zero, List.set_cons_succ]
          refine takeG (some 223) (i := 60) (v := ?vtdt60) rfl rfl (by kernel_rfl) (by kernel_rfl) (by kernel_rfl) (fun _ _ _ h => h) (Or.inl ⟨by rfl, ?htdt60⟩) s1 ?rtdt60
          case htdt60 => (intro w hw; obtain ⟨n0, n1⟩ := HSD.out _ hw; go_simp; try (with_reducible rfl))
          try simp only [Act.put, List.setIfInBounds_toArray, List.set_cons_zero, List.set_cons_succ]
          refine takeG (some 224) (i := 61) (v := ?vtdt61) rfl rfl (by kernel_rfl) (by kernel_rfl) (by kernel_rfl) (fun _ _ _ h => h) (Or.inl ⟨by rfl, ?htdt61⟩) s1 ?rtdt61
          case htdt61 => (intro w hw; obtain ⟨n0, n1⟩ := HSD.out _ hw; go_simp; try (with_reducible rfl))
          try simp only [Act.put, List.setIfInBounds_toArray, List.set_cons_zero, List.set_cons_succ]
          refine takeG (some 225) (i := 62) (v := _) rfl rfl (by kernel_rfl) (by kernel_rfl) (by kernel_rfl) (fun _ _ _ h => h) (yields_load_part (by rfl) _ rfl rfl (fun wx hx => (HA1.out wx hx).rT)) s1 ?_
          try simp only [Act.put, List.setIfInBounds_toArray, List.set_cons_zero, List.set_cons_succ]
          refine wpAnyH_ready (rs := [58]) (by kernel_rfl) (by simp) ?_
          refine AllReadyH.cons rfl (fun K hK => ?_) AllReadyH.nil
          go_simp
          refine (CC.out _).mono ?_
          rintro e y2 ⟨rfl, j2⟩
          show K _ _
          have s2 := below_then s1 j2
          refine hK.out _ _ s2 (fun _ => ?_)
          clear hK K
          refine takeG (some 226) (i := 63) (v := _) rfl rfl (by kernel_rfl) (by kernel_rfl) (by kernel_rfl) (fun _ _ _ h => h) (yields_eql2 (by rfl) _ _ rfl rfl rfl (HCL.out)) s2 ?_
          try simp only [Act.put, List.setIfInBounds_toArray, List.set_cons_zero, List.set_cons_succ]
          refine takeG (some 227) (i := 64) (v := ?vtdt64) rfl rfl (by kernel_rfl) (by kernel_rfl) (by kernel_rfl) (fun _ _ _ h => h) (Or.inl ⟨by rfl, ?htdt64⟩) s2 ?rtdt64
          case htdt64 => (intro w hw; obtain ⟨n0, n1⟩ := HSD.out _ hw; go_simp; try (with_reducible rfl))
          try simp only [Act.put, List.setIfInBounds_toArray, List.set_cons_zero, List.set_cons_succ]
          refine takeG (some 228) (i := 65) (v := ?vtdt65) rfl rfl (by kernel_rfl) (by kernel_rfl) (by kernel_rfl) (fun _ _ _ h => h) (Or.inl ⟨by rfl, ?htdt65⟩) s2 ?rtdt65
          case htdt65 => (intro w hw; obtain ⟨n0, n1⟩ := HSD.out _ hw; go_simp; try (with_reducible rfl))
          try simp only [Act.put, List.setIfInBounds_toArray, List.set_cons_zero, List.set_cons_succ]
          refine takeG (some 229) (i := 66) (v := ?vtdt66) rfl rfl (by kernel_rfl) (by kernel_rfl) (by kernel_rfl) (fun _ _ _ h => h) (Or.inl ⟨by rfl, ?htdt66⟩) s2 ?rtdt66
          case htdt66 => (intro w hw; obtain ⟨n0, n1⟩ := HSD.out _ hw; go_simp; try (with_reducible rfl))
          try simp only [Act.put, List.setIfInBounds_toArray, List.set_cons_zero, List.set_cons_succ]
          refine takeG (some 230) (i := 67) (v := ?vtdt67) rfl rfl (by kernel_rfl) (by kernel_rfl) (by kernel_rfl) (fun _ _ _ h => h) (Or.inl ⟨by rfl, ?htdt67⟩) s2 ?rtdt67
          case htdt67 => (intro w hw; obtain ⟨n0, n1⟩ := HSD.out _ hw; go_simp; try (with_reducible rfl))
          try simp only [Act.put, List.setIfInBounds_toArray, List.set_cons_zero, List.set_cons_succ]
          refine takeG (some 231) (i := 68) (v := ?vtdt68) rfl rfl (by kernel_rfl) (by kernel_rfl) (by kernel_rfl) (fun _ _ _ h => h) (Or.inl ⟨by rfl, ?htdt68⟩) s2 ?rtdt68
          case htdt68 => (intro w hw; obtain ⟨n0, n1⟩ := HSD.out _ hw; go_simp; try (with_reducible rfl))
          try simp only [Act.put, List.setIfInBounds_toArray, List.set_cons_zero, List.set_cons_succ]
          refine takeG (some 232) (i := 69) (v := _) rfl rfl (by kernel_rfl) (by kernel_rfl) (by kernel_rfl) (fun _ _ _ h => h) (yields_load_part (by rfl) _ rfl rfl (fun wx hx => (HA1.out wx hx).rT)) s2 ?_
          try simp only [Act.put, List.setIfInBounds_toArray, List.set_cons_zero, List.set_cons_succ]
          refine wpAnyH_ready (rs := [70]) (by kernel_rfl) (by simp) ?_
          refine AllReadyH.cons rfl (fun K hK => ?_) AllReadyH.nil
          go_simp
          refine (CY.out _).mono ?_
          rintro e y3 ⟨rfl, j3⟩
          show K _ _
          have s3 := below_then s2 j3
          refine hK.out _ _ s3 (fun _ => ?_)
          clear hK K
          refine takeG (some 234) (i := 71) (v := ?vtdt71) rfl rfl (by kernel_rfl) (by kernel_rfl) (by kernel_rfl) (fun _ _ _ h => h) (Or.inl ⟨by rfl, ?htdt71⟩) s3 ?rtdt71
          case htdt71 => (intro w hw; obtain ⟨n0, n1⟩ := HSD.out _ hw; go_simp; try (with_reducible rfl))
          try simp only [Act.put, List.setIfInBounds_toArray, List.set_cons_zero, List.set_cons_succ]
          refine takeG (some 2) (i := 72) (v := ?vtdt72) rfl rfl (by kernel_rfl) (by kernel_rfl) (by kernel_rfl) (fun _ _ _ h => h) (Or.inl ⟨by rfl, ?htdt72⟩) s3 ?rtdt72
          case htdt72 => (intro w hw; obtain ⟨n0, n1⟩ := HSD.out _ hw; go_simp; try (with_reducible rfl))
          try simp only [Act.put, List.setIfInBounds_toArray, List.set_cons_zero, List.set_cons_succ]
          refine wpAnyH_done (by kernel_rfl) ?_ _
          go_wp2_with fail
          go_ret
          exact ⟨rfl, HF.out _ s3⟩
      | false =>
        as_aux_lemma =>
          refine wp_region_held_drew (S := Below w8.heap.size w8) (by kernel_rfl) kd (fun hS0 => ?_)
          refine takeG (some 163) (i := 0) (v := ?vtdf0) rfl rfl (by kernel_rfl) (by kernel_rfl) (by kernel_rfl) (fun _ _ _ h => h) (Or.inl ⟨by rfl, ?htdf0⟩) hS0 ?rtdf0
          case htdf0 => (intro w hw; obtain ⟨n0, n1⟩ := HSD.out _ hw; go_simp; try (with_reducible rfl))
          try simp only [Act.put, List.setIfInBounds_toArray, List.set_cons_zero, List.set_cons_succ]
          refine takeG (some 164) (i := 1) (v := ?vtdf1) rfl rfl (by kernel_rfl) (by kernel_rfl) (by kernel_rfl) (fun _ _ _ h => h) (Or.inl ⟨by rfl, ?htdf1⟩) hS0 ?rtdf1
          case htdf1 => (intro w hw; obtain ⟨n0, n1⟩ := HSD.out _ hw; go_simp; try (with_reducible rfl))
          try simp only [Act.put, List.setIfInBounds_toArray, List.set_cons_zero, List.set_cons_succ]
          refine takeG (some 165) (i := 2) (v := ?vtdf2) rfl rfl (by kernel_rfl) (by kernel_rfl) (by kernel_rfl) (fun _ _ _ h => h) (Or.inl ⟨by rfl, ?htdf2⟩) hS0 ?rtdf2
          case htdf2 => (intro w hw; obtain ⟨n0, n1⟩ := HSD.out _ hw; go_simp; try (with_reducible rfl))
          try simp only [Act.put, List.setIfInBounds_toArray, List.set_cons_zero, List.set_cons_succ]
          refine takeG (some 166) (i := 3) (v := _) rfl rfl (by kernel_rfl) (by kernel_rfl) (by kernel_rfl) (fun _ _ _ h => h) (yields_load_part (by rfl) _ rfl rfl (fun wx hx => (HA1.out wx hx).rS)) hS0 ?_
          try simp only [Act.put, List.setIfInBounds_toArray, List.set_cons_zero, List.set_cons_succ]
          refine takeG (some 167) (i := 4) (v := ?vtdf4) rfl rfl (by kernel_rfl) (by kernel_rfl) (by kernel_rfl) (fun _ _ _ h => h) (Or.inl ⟨by rfl, ?htdf4⟩) hS0 ?rtdf4
          case htdf4 => (intro w hw; obtain ⟨n0, n1⟩ := HSD.out _ hw; go_simp; try (with_reducible rfl))
          try simp only [Act.put, List.setIfInBounds_toArray, List.set_cons_zero, List.set_cons_succ]
          refine takeG (some 168) (i := 5) (v := ?vtdf5) rfl rfl (by kernel_rfl) (by kernel_rfl) (by kernel_rfl) (fun _ _ _ h => h) (Or.inl ⟨by rfl, ?htdf5⟩) hS0 ?rtdf5
          case htdf5 => (intro w hw; obtain ⟨n0, n1⟩ := HSD.out _ hw; go_simp; try (with_reducible rfl))
          try simp only [Act.put, List.setIfInBounds_toArray, List.set_cons_zero, List.set_cons_succ]
          refine takeG (some 169) (i := 6) (v := ?vtdf6) rfl rfl (by kernel_rfl) (by kernel_rfl) (by kernel_rfl) (fun _ _ _ h => h) (Or.inl ⟨by rfl, ?htdf6⟩) hS0 ?rtdf6
          case htdf6 => (intro w hw; obtain ⟨n0, n1⟩ := HSD.out _ hw; go_simp; try (with_reducible rfl))
          try simp only [Act.put, List.setIfInBounds_toArray, List.set_cons_zero, List.set_cons_succ]
          refine takeG (some 170) (i := 7) (v := _) rfl rfl (by kernel_rfl) (by kernel_rfl) (by kernel_rfl) (fun _ _ _ h => h) (yields_load_part (by rfl) _ rfl rfl (fun wx hx => (HA2.out wx hx).1)) hS0 ?_
          try simp only [Act.put, List.setIfInBounds_toArray, List.set_cons_zero, List.set_cons_succ]
          refine takeG (some 171) (i := 8) (v := _) rfl rfl (by kernel_rfl) (by kernel_rfl) (by kernel_rfl) (fun _ _ _ h => h) (yields_eql2 (by rfl) _ _ rfl rfl rfl (rfl)) hS0 ?_
          try simp only [Act.put, List.setIfInBounds_toArray, List.set_cons_zero, List.set_cons_succ]
          refine takeG (some 172) (i := 9) (v := ?vtdf9) rfl rfl (by kernel_rfl) (by kernel_rfl) (by kernel_rfl) (fun _ _ _ h => h) (Or.inl ⟨by rfl, ?htdf9⟩) hS0 ?rtdf9
          case htdf9 => (intro w hw; obtain ⟨n0, n1⟩ := HSD.out _ hw; go_simp; try (with_reducible rfl))
          try simp only [Act.put, List.setIfInBounds_toArray, List.set_cons_zero, List.set_cons_succ]
          refine takeG (some 173) (i := 10) (v := ?vtdf10) rfl rfl (by kernel_rfl) (by kernel_rfl) (by kernel_rfl) (fun _ _ _ h => h) (Or.inl ⟨by rfl, ?htdf10⟩) hS0 ?rtdf10
          case htdf10 => (intro w hw; obtain ⟨n0, n1⟩ := HSD.out _ hw; go_simp; try (with_reducible rfl))
          try simp only [Act.put, List.setIfInBounds_toArray, List.set_cons_zero, List.set_cons_succ]
          refine takeG (some 174) (i := 11) (v := ?vtdf11) rfl rfl (by kernel_rfl) (by kernel_rfl) (by kernel_rfl) (fun _ _ _ h => h) (Or.inl ⟨by rfl, ?htdf11⟩) hS0 ?rtdf11
          case htdf11 => (intro w hw; obtain ⟨n0, n1⟩ := HSD.out _ hw; go_simp; try (with_reducible rfl))
          try simp only [Act.put, List.setIfInBounds_toArray, List.set_cons_zero, List.set_cons_succ]
          refine takeG (some 175) (i := 12) (v := ?vtdf12) rfl rfl (by kernel_rfl) (by kernel_rfl) (by kernel_rfl) (fun _ _ _ h => h) (Or.inl ⟨by rfl, ?htdf12⟩) hS0 ?rtdf12
          case htdf12 => (intro w hw; obtain ⟨n0, n1⟩ := HSD.out _ hw; go_simp; try (with_reducible rfl))
          try simp only [Act.put, List.setIfInBounds_toArray, List.set_cons_zero, List.set_cons_succ]
          refine takeG (some 176) (i := 13) (v := _) rfl rfl (by kernel_rfl) (by kernel_rfl) (by kernel_rfl) (fun _ _ _ h => h) (yields_load_part (by rfl) _ rfl rfl (fun wx hx => (HA1.out wx hx).rT)) hS0 ?_
          try simp only [Act.put, List.setIfInBounds_toArray, List.set_cons_zero, List.set_cons_succ]
          refine takeG (some 177) (i := 14) (v := ?vtdf14) rfl rfl (by kernel_rfl) (by kernel_rfl) (by kernel_rfl) (fun _ _ _ h => h) (Or.inl ⟨by rfl, ?htdf14⟩) hS0 ?rtdf14
          case htdf14 => (intro w hw; obtain ⟨n0, n1⟩ := HSD.out _ hw; go_simp; try (with_reducible rfl))
          try simp only [Act.put, List.setIfInBounds_toArray, List.set_cons_zero, List.set_cons_succ]
          refine takeG (some 178) (i := 15) (v := ?vtdf15) rfl rfl (by kernel_rfl) (by kernel_rfl) (by kernel_rfl) (fun _ _ _ h => h) (Or.inl ⟨by rfl, ?htdf15⟩) hS0 ?rtdf15
          case htdf15 => (intro w hw; obtain ⟨n0, n1⟩ := HSD.out _ hw; go_simp; try (with_reducible rfl))
          try simp only [Act.put, List.setIfInBounds_toArray, List.set_cons_zero, List.set_cons_succ]
          refine takeG (some 179) (i := 16) (v := ?vtdf16) rfl rfl (by kernel_rfl) (by kernel_rfl) (by kernel_rfl) (fun _ _ _ h => h) (Or.inl ⟨by rfl, ?htdf16⟩) hS0 ?rtdf16
          case htdf16 => (intro w hw; obtain ⟨n0, n1⟩ := HSD.out _ hw; go_simp; try (with_reducible rfl))
          try simp only [Act.put, List.setIfInBounds_toArray, List.set_cons_zero, List.set_cons_succ]
          refine takeG (some 180) (i := 17) (v := _) rfl rfl (by kernel_rfl) (by kernel_rfl) (by kernel_rfl) (fun _ _ _ h => h) (yields_load_part (by rfl) _ rfl rfl (fun wx hx => (HA2.out wx hx).2.1)) hS0 ?_
          try simp only [Act.put, List.setIfInBounds_toArray, List.set_cons_zero, List.set_cons_succ]
          refine takeG (some 181) (i := 18) (v := _) rfl rfl (by kernel_rfl) (by kernel_rfl) (by kernel_rfl) (fun _ _ _ h => h) (yields_eql2 (by rfl) _ _ rfl rfl rfl (rfl)) hS0 ?_
          try simp only [Act.put, List.setIfInBounds_toArray, List.set_cons_zero, List.set_cons_succ]
          refine takeG (some 182) (i := 19) (v := ?vtdf19) rfl rfl (by kernel_rfl) (by kernel_rfl) (by kernel_rfl) (fun _ _ _ h => h) (Or.inl ⟨by rfl, ?htdf19⟩) hS0 ?rtdf19
          case htdf19 => (intro w hw; obtain ⟨n0, n1⟩ := HSD.out _ hw; go_simp; try (with_reducible rfl))
          try simp only [Act.put, List.setIfInBounds_toArray, List.set_cons_zero, List.set_cons_succ]
          refine takeG (some 183) (i := 20) (v := ?vtdf20) rfl rfl (by kernel_rfl) (by kernel_rfl) (by kernel_rfl) (fun _ _ _ h => h) (Or.inl ⟨by rfl, ?htdf20⟩) hS0 ?rtdf20
          case htdf20 => (intro w hw; obtain ⟨n0, n1⟩ := HSD.out _ hw; go_simp; try (with_reducible rfl))
          try simp only [Act.put, List.setIfInBounds_toArray, List.set_cons_zero, List.set_cons_succ]
          refine takeG (some 184) (i := 21) (v := ?vtdf21) rfl rfl (by kernel_rfl) (by kernel_rfl) (by kernel_rfl) (fun _ _ _ h => h) (Or.inl ⟨by rfl, ?htdf21⟩) hS0 ?rtdf21
          case htdf21 => (intro w hw; obtain ⟨n0, n1⟩ := HSD.out _ hw; go_simp; try (with_reducible rfl))
          try simp only [Act.put, List.setIfInBounds_toArray, List.set_cons_zero, List.set_cons_succ]
          refine takeG (some 185) (i := 22) (v := ?vtdf22) rfl rfl (by kernel_rfl) (by kernel_rfl) (by kernel_rfl) (fun _ _ _ h => h) (Or.inl ⟨by rfl, ?htdf22⟩) hS0 ?rtdf22
          case htdf22 => (intro w hw; obtain ⟨n0, n1⟩ := HSD.out _ hw; go_simp; try (with_reducible rfl))
          try simp only [Act.put, List.setIfInBounds_toArray, List.set_cons_zero, List.set_cons_succ]
          refine takeG (some 186) (i := 23) (v := ?vtdf23) rfl rfl (by kernel_rfl) (by kernel_rfl) (by kernel_rfl) (fun _ _ _ h => h) (Or.inl ⟨by rfl, ?htdf23⟩) hS0 ?rtdf23
          case htdf23 => (intro w hw; obtain ⟨n0, n1⟩ := HSD.out _ hw; go_simp; try (with_reducible rfl))
          try simp only [Act.put, List.setIfInBounds_toArray, List.set_cons_zero, List.set_cons_succ]
          refine takeG (some 187) (i := 24) (v := _) rfl rfl (by kernel_rfl) (by kernel_rfl) (by kernel_rfl) (fun _ _ _ h => h) (yields_load_part (by rfl) _ rfl rfl (fun wx hx => (HA1.out wx hx).rF)) hS0 ?_
          try simp only [Act.put, List.setIfInBounds_toArray, List.set_cons_zero, List.set_cons_succ]
          refine takeG (some 188) (i := 25) (v := ?vtdf25) rfl rfl (by kernel_rfl) (by kernel_rfl) (by kernel_rfl) (fun _ _ _ h => h) (Or.inl ⟨by rfl, ?htdf25⟩) hS0 ?rtdf25
          case htdf25 => (intro w hw; obtain ⟨n0, n1⟩ := HSD.out _ hw; go_simp; try (with_reducible rfl))
          try simp only [Act.put, List.setIfInBounds_toArray, List.set_cons_zero, List.set_cons_succ]
          refine takeG (some 189) (i := 26) (v := ?vtdf26) rfl rfl (by kernel_rfl) (by kernel_rfl) (by kernel_rfl) (fun _ _ _ h => h) (Or.inl ⟨by rfl, ?htdf26⟩) hS0 ?rtdf26
          case htdf26 => (intro w hw; obtain ⟨n0, n1⟩ := HSD.out _ hw; go_simp; try (with_reducible rfl))
          try simp only [Act.put, List.setIfInBounds_toArray, List.set_cons_zero, List.set_cons_succ]
          refine takeG (some 190) (i := 27) (v := ?vtdf27) rfl rfl (by kernel_rfl) (by kernel_rfl) (by kernel_rfl) (fun _ _ _ h => h) (Or.inl ⟨by rfl, ?htdf27⟩) hS0 ?rtdf27
          case htdf27 => (intro w hw; obtain ⟨n0, n1⟩ := HSD.out _ hw; go_simp; try (with_reducible rfl))
          try simp only [Act.put, List.setIfInBounds_toArray, List.set_cons_zero, List.set_cons_succ]
          refine takeG (some 191) (i := 28) (v := _) rfl rfl (by kernel_rfl) (by kernel_rfl) (by kernel_rfl) (fun _ _ _ h => h) (yields_load_part (by rfl) _ rfl rfl (fun wx hx => (HA2.out wx hx).2.2.1)) hS0 ?_
          try simp only [Act.put, List.setIfInBounds_toArray, List.set_cons_zero, List.set_cons_succ]
          refine takeG (some 192) (i := 29) (v := _) rfl rfl (by kernel_rfl) (by kernel_rfl) (by kernel_rfl) (fun _ _ _ h => h) (yields_eql2 (by rfl) _ _ rfl rfl rfl (rfl)) hS0 ?_
          try simp only [Act.put, List.setIfInBounds_toArray, List.set_cons_zero, List.set_cons_succ]
          refine takeG (some 193) (i := 30) (v := ?vtdf30) rfl rfl (by kernel_rfl) (by kernel_rfl) (by kernel_rfl) (fun _ _ _ h => h) (Or.inl ⟨by rfl, ?htdf30⟩) hS0 ?rtdf30
          case htdf30 => (intro w hw; obtain ⟨n0, n1⟩ := HSD.out _ hw; go_simp; try (with_reducible rfl))
          try simp only [Act.put, List.setIfInBounds_toArray, List.set_cons_zero, List.set_cons_succ]
          refine takeG (some 194) (i := 31) (v := ?vtdf31) rfl rfl (by kernel_rfl) (by kernel_rfl) (by kernel_rfl) (fun _ _ _ h => h) (Or.inl ⟨by rfl, ?htdf31⟩) hS0 ?rtdf31
          case htdf31 => (intro w hw; obtain ⟨n0, n1⟩ := HSD.out _ hw; go_simp; try (with_reducible rfl))
          try simp only [Act.put, List.setIfInBounds_toArray, List.set_cons_zero, List.set_cons_succ]
          refine takeG (some 195) (i := 32) (v := ?vtdf32) rfl rfl (by kernel_rfl) (by kernel_rfl) (by kernel_rfl) (fun _ _ _ h => h) (Or.inl ⟨by rfl, ?htdf32⟩) hS0 ?rtdf32
          case htdf32 => (intro w hw; obtain ⟨n0, n1⟩ := HSD.out _ hw; go_simp; try (with_reducible rfl))
          try simp only [Act.put, List.setIfInBounds_toArray, List.set_cons_zero, List.set_cons_succ]
          refine takeG (some 196) (i := 33) (v := ?vtdf33) rfl rfl (by kernel_rfl) (by kernel_rfl) (by kernel_rfl) (fun _ _ _ h => h) (Or.inl ⟨by rfl, ?htdf33⟩) hS0 ?rtdf33
          case htdf33 => (intro w hw; obtain ⟨n0, n1⟩ := HSD.out _ hw; go_simp; try (with_reducible rfl))
          try simp only [Act.put, List.setIfInBounds_toArray, List.set_cons_zero, List.set_cons_succ]
          refine takeG (some 197) (i := 34) (v := ?vtdf34) rfl rfl (by kernel_rfl) (by kernel_rfl) (by kernel_rfl) (fun _ _ _ h => h) (Or.inl ⟨by rfl, ?htdf34⟩) hS0 ?rtdf34
          case htdf34 => (intro w hw; obtain ⟨n0, n1⟩ := HSD.out _ hw; go_simp; try (with_reducible rfl))
          try simp only [Act.put, List.setIfInBounds_toArray, List.set_cons_zero, List.set_cons_succ]
          refine takeG (some 198) (i := 35) (v := ?vtdf35) rfl rfl (by kernel_rfl) (by kernel_rfl) (by kernel_rfl) (fun _ _ _ h => h) (Or.inl ⟨by rfl, ?htdf35⟩) hS0 ?rtdf35
          case htdf35 => (intro w hw; obtain ⟨n0, n1⟩ := HSD.out _ hw; go_simp; try (with_reducible rfl))
          try simp only [Act.put, List.setIfInBounds_toArray, List.set_cons_zero, List.set_cons_succ]
          refine takeG (some 199) (i := 36) (v := ?vtdf36) rfl rfl (by kernel_rfl) (by kernel_rfl) (by kernel_rfl) (fun _ _ _ h => h) (Or.inl ⟨by rfl, ?htdf36⟩) hS0 ?rtdf36
          case htdf36 => (intro w hw; obtain ⟨n0, n1⟩ := HSD.out _ hw; go_simp; try (with_reducible rfl))
          try simp only [Act.put, List.setIfInBounds_toArray, List.set_cons_zero, List.set_cons_succ]
          refine takeG (some 200) (i := 37) (v := ?vtdf37) rfl rfl (by kernel_rfl) (by kernel_rfl) (by kernel_rfl) (fun _ _ _ h => h) (Or.inl ⟨by rfl, ?htdf37⟩) hS0 ?rtdf37
          case htdf37 => (intro w hw; obtain ⟨n0, n1⟩ := HSD.out _ hw; go_simp; try (with_reducible rfl))
          try simp only [Act.put, List.setIfInBounds_toArray, List.set_cons_zero, List.set_cons_succ]
          refine takeG (some 201) (i := 38) (v := ?vtdf38) rfl rfl (by kernel_rfl) (by kernel_rfl) (by kernel_rfl) (fun _ _ _ h => h) (Or.inl ⟨by rfl, ?htdf38⟩) hS0 ?rtdf38
          case htdf38 => (intro w hw; obtain ⟨n0, n1⟩ := HSD.out _ hw; go_simp; try (with_reducible rfl))
          try simp only [Act.put, List.setIfInBounds_toArray, List.set_cons_zero, List.set_cons_succ]
          refine takeG (some 202) (i := 39) (v := ?vtdf39) rfl rfl (by kernel_rfl) (by kernel_rfl) (by kernel_rfl) (fun _ _ _ h => h) (Or.inl ⟨by rfl, ?htdf39⟩) hS0 ?rtdf39
          case htdf39 => (intro w hw; obtain ⟨n0, n1⟩ := HSD.out _ hw; go_simp; try (with_reducible rfl))
          try simp only [Act.put, List.setIfInBounds_toArray, List.set_cons_zero, List.set_cons_succ]
          refine takeG (some 203) (i := 40) (v := ?vtdf40) rfl rfl (by kernel_rfl) (by kernel_rfl) (by kernel_rfl) (fun _ _ _ h => h) (Or.inl ⟨by rfl, ?htdf40⟩) hS0 ?rtdf40
          case htdf40 => (intro w hw; obtain ⟨n0, n1⟩ := HSD.out _ hw; go_simp; try (with_reducible rfl))
          try simp only [Act.put, List.setIfInBounds_toArray, List.set_cons_zero, List.set_cons_succ]
          refine takeG (some 204) (i := 41) (v := ?vtdf41) rfl rfl (by kernel_rfl) (by kernel_rfl) (by kernel_rfl) (fun _ _ _ h => h) (Or.inl ⟨by rfl, ?htdf41⟩) hS0 ?rtdf41
          case htdf41 => (intro w hw; obtain ⟨n0, n1⟩ := HSD.out _ hw; go_simp; try (with_reducible rfl))
          try simp only [Act.put, List.setIfInBounds_toArray, List.set_cons_zero, List.set_cons_succ]
          refine takeG (some 205) (i := 42) (v := ?vtdf42) rfl rfl (by kernel_rfl) (by kernel_rfl) (by kernel_rfl) (fun _ _ _ h => h) (Or.inl ⟨by rfl, ?htdf42⟩) hS0 ?rtdf42
          case htdf42 => (intro w hw; obtain ⟨n0, n1⟩ := HSD.out _ hw; go_simp; try (with_reducible rfl))
          try simp only [Act.put, List.setIfInBounds_toArray, List.set_cons_zero, List.set_cons_succ]
          refine takeG (some 206) (i := 43) (v := ?vtdf43) rfl rfl (by kernel_rfl) (by kernel_rfl) (by kernel_rfl) (fun _ _ _ h => h) (Or.inl ⟨by rfl, ?htdf43⟩) hS0 ?rtdf43
          case htdf43 => (intro w hw; obtain ⟨n0, n1⟩ := HSD.out _ hw; go_simp; try (with_reducible rfl))
          try simp only [Act.put, List.setIfInBounds_toArray, List.set_cons_zero, List.set_cons_succ]
          refine takeG (some 207) (i := 44) (v := ?vtdf44) rfl rfl (by kernel_rfl) (by kernel_rfl) (by kernel_rfl) (fun _ _ _ h => h) (Or.inl ⟨by rfl, ?htdf44⟩) hS0 ?rtdf44
          case htdf44 => (intro w hw; obtain ⟨n0, n1⟩ := HSD.out _ hw; go_simp; try (with_reducible rfl))
          try simp only [Act.put, List.setIfInBounds_toArray, List.set_cons_zero, List.set_cons_succ]
          refine takeG (some 208) (i := 45) (v := ?vtdf45) rfl rfl (by kernel_rfl) (by kernel_rfl) (by kernel_rfl) (fun _ _ _ h => h) (Or.inl ⟨by rfl, ?htdf45⟩) hS0 ?rtdf45
          case htdf45 => (intro w hw; obtain ⟨n0, n1⟩ := HSD.out _ hw; go_simp; try (with_reducible rfl))
          try simp only [Act.put, List.setIfInBounds_toArray, List.set_cons_zero, List.set_cons_succ]
          refine takeG (some 209) (i := 46) (v := _) rfl rfl (by kernel_rfl) (by kernel_rfl) (by kernel_rfl) (fun _ _ _ h => h) (yields_load_part (by rfl) _ rfl rfl (fun wx hx => (HA1.out wx hx).rS)) hS0 ?_
          try simp only [Act.put, List.setIfInBounds_toArray, List.set_cons_zero, List.set_cons_succ]
          refine takeG (some 210) (i := 47) (v := ?vtdf47) rfl rfl (by kernel_rfl) (by kernel_rfl) (by kernel_rfl) (fun _ _ _ h => h) (Or.inl ⟨by rfl, ?htdf47⟩) hS0 ?rtdf47
          case htdf47 => (intro w hw; obtain ⟨n0, n1⟩ := HSD.out _ hw; go_simp; try (with_reducible rfl))
          try simp only [Act.put, List.setIfInBounds_toArray, List.set_cons_zero, List.set_cons_succ]
          refine takeG (some 211) (i := 48) (v := ?vtdf48) rfl rfl (by kernel_rfl) (by kernel_rfl) (by kernel_rfl) (fun _ _ _ h => h) (Or.inl ⟨by rfl, ?htdf48⟩) hS0 ?rtdf48
          case htdf48 => (intro w hw; obtain ⟨n0, n1⟩ := HSD.out _ hw; go_simp; try (with_reducible rfl))
          try simp only [Act.put, List.setIfInBounds_toArray, List.set_cons_zero, List.set_cons_succ]
          refine takeG (some 212) (i := 49) (v := ?vtdf49) rfl rfl (by kernel_rfl) (by kernel_rfl) (by kernel_rfl) (fun _ _ _ h => h) (Or.inl ⟨by rfl, ?htdf49⟩) hS0 ?rtdf49
          case htdf49 => (intro w hw; obtain ⟨n0, n1⟩ := HSD.out _ hw; go_simp; try (with_reducible rfl))
          try simp only [Act.put, List.setIfInBounds_toArray, List.set_cons_zero, List.set_cons_succ]
          refine takeG (some 213) (i := 50) (v := _) rfl rfl (by kernel_rfl) (by kernel_rfl) (by kernel_rfl) (fun _ _ _ h => h) (yields_load_part (by rfl) _ rfl rfl (fun wx hx => (HA1.out wx hx).rT)) hS0 ?_
          try simp only [Act.put, List.setIfInBounds_toArray, List.set_cons_zero, List.set_cons_succ]
          refine wpAnyH_ready (rs := [51]) (by kernel_rfl) (by simp) ?_
          refine AllReadyH.cons rfl (fun K hK => ?_) AllReadyH.nil
          go_simp
          refine (CW.out _).mono ?_
          rintro e y1 ⟨rfl, j1⟩
          show K _ _
          have s1 := below_then hS0 j1
          refine hK.out _ _ s1 (fun _ => ?_)
          clear hK K
          refine takeG (some 215) (i := 52) (v := ?vtdf52) rfl rfl (by kernel_rfl) (by kernel_rfl) (by kernel_rfl) (fun _ _ _ h => h) (Or.inl ⟨by rfl, ?htdf52⟩) s1 ?rtdf52
          case htdf52 => (intro w hw; obtain ⟨n0, n1⟩ := HSD.out _ hw; go_simp; try (with_reducible rfl))
          try simp only [Act.put, List.setIfInBounds_toArray, List.set_cons_zero, List.set_cons_succ]
          refine takeG (some 216) (i := 53) (v := ?vtdf53) rfl rfl (by kernel_rfl) (by kernel_rfl) (by kernel_rfl) (fun _ _ _ h => h) (Or.inl ⟨by rfl, ?htdf53⟩) s1 ?rtdf53
          case htdf53 => (intro w hw; obtain ⟨n0, n1⟩ := HSD.out _ hw; go_simp; try (with_reducible rfl))
          try simp only [Act.put, List.setIfInBounds_toArray, List.set_cons_zero, List.set_cons_succ]
          refine takeG (some 217) (i := 54) (v := ?vtdf54) rfl rfl (by kernel_rfl) (by kernel_rfl) (by kernel_rfl) (fun _ _ _ h => h) (Or.inl ⟨by rfl, ?htdf54⟩) s1 ?rtdf54
          case htdf54 => (intro w hw; obtain ⟨n0, n1⟩ := HSD.out _ hw; go_simp; try (with_reducible rfl))
          try simp only [Act.put, List.setIfInBounds_toArray, List.set_cons_zero, List.set_cons_succ]
          refine takeG (some 218) (i := 55) (v := ?vtdf55) rfl rfl (by kernel_rfl) (by kernel_rfl) (by kernel_rfl) (fun _ _ _ h => h) (Or.inl ⟨by rfl, ?htdf55⟩) s1 ?rtdf55
          case htdf55 => (intro w hw; obtain ⟨n0, n1⟩ := HSD.out _ hw; go_simp; try (with_reducible rfl))
          try simp only [Act.put, List.setIfInBounds_toArray, List.set_cons_zero, List.set_cons_succ]
          refine takeG (some 219) (i := 56) (v := ?vtdf56) rfl rfl (by kernel_rfl) (by kernel_rfl) (by kernel_rfl) (fun _ _ _ h => h) (Or.inl ⟨by rfl, ?htdf56⟩) s1 ?rtdf56
          case htdf56 => (intro w hw; obtain ⟨n0, n1⟩ := HSD.out _ hw; go_simp; try (with_reducible rfl))
          try simp only [Act.put, List.setIfInBounds_toArray, List.set_cons_zero, List.set_cons_succ]
          refine takeG (some 220) (i := 57) (v := _) rfl rfl (by kernel_rfl) (by kernel_rfl) (by kernel_rfl) (fun _ _ _ h => h) (yields_load_part (by rfl) _ rfl rfl (fun wx hx => (HA1.out wx hx).rT)) s1 ?_
          try simp only [Act.put, List.setIfInBounds_toArray, List.set_cons_zero, List.set_cons_succ]
          refine takeG (some 222) (i := 59) (v := ?vtdf59) rfl rfl (by kernel_rfl) (by kernel_rfl) (by kernel_rfl) (fun _ _ _ h => h) (Or.inl ⟨by rfl, ?htdf59⟩) s1 ?rtdf59
          case htdf59 => (intro w hw; obtain ⟨n0, n1⟩ := HSD.out _ hw; go_simp; try (with_reducible rfl))
          try simp only [Act.put, List.setIfInBounds_toArray, List.set_cons_zero, List.set_cons_succ]
          refine takeG (some 223) (i := 60) (v := ?vtdf60) rfl rfl (by kernel_rfl) (by kernel_rfl) (by kernel_rfl) (fun _ _ _ h => h) (Or.inl ⟨by rfl, ?htdf60⟩) s1 ?rtdf60
          case htdf60 => (intro w hw; obtain ⟨n0, n1⟩ := HSD.out _ hw; go_simp; try (with_reducible rfl))
          try simp only [Act.put, List.setIfInBounds_toArray, List.set_cons_zero, List.set_cons_succ]
          refine takeG (some 224) (i := 61) (v := ?vtdf61) rfl rfl (by kernel_rfl) (by kernel_rfl) (by kernel_rfl) (fun _ _ _ h => h) (Or.inl ⟨by rfl, ?htdf61⟩) s1 ?rtdf61
          case htdf61 => (intro w hw; obtain ⟨n0, n1⟩ := HSD.out _ hw; go_simp; try (with_reducible rfl))
          try simp only [Act.put, List.setIfInBounds_toArray, List.set_cons_zero, List.set_cons_succ]
          refine takeG (some 225) (i := 62) (v := _) rfl rfl (by kernel_rfl) (by kernel_rfl) (by kernel_rfl) (fun _ _ _ h => h) (yields_load_part (by rfl) _ rfl rfl (fun wx hx => (HA1.out wx hx).rT)) s1 ?_
          try simp only [Act.put, List.setIfInBounds_toArray, List.set_cons_zero, List.set_cons_succ]
          refine wpAnyH_ready (rs := [58]) (by kernel_rfl) (by simp) ?_
          refine AllReadyH.cons rfl (fun K hK => ?_) AllReadyH.nil
          go_simp
          refine (CC.out _).mono ?_
          rintro e y2 ⟨rfl, j2⟩
          show K _ _
          have s2 := below_then s1 j2
          refine hK.out _ _ s2 (fun _ => ?_)
          clear hK K
          refine takeG (some 226) (i := 63) (v := _) rfl rfl (by kernel_rfl) (by kernel_rfl) (by kernel_rfl) (fun _ _ _ h => h) (yields_eql2 (by rfl) _ _ rfl rfl rfl (HCL.out)) s2 ?_
          try simp only [Act.put, List.setIfInBounds_toArray, List.set_cons_zero, List.set_cons_succ]
          refine takeG (some 227) (i := 64) (v := ?vtdf64) rfl rfl (by kernel_rfl) (by kernel_rfl) (by kernel_rfl) (fun _ _ _ h => h) (Or.inl ⟨by rfl, ?htdf64⟩) s2 ?rtdf64
          case htdf64 => (intro w hw; obtain ⟨n0, n1⟩ := HSD.out _ hw; go_simp; try (with_reducible rfl))
          try simp only [Act.put, List.setIfInBounds_toArray, List.set_cons_zero, List.set_cons_succ]
          refine takeG (some 228) (i := 65) (v := ?vtdf65) rfl rfl (by kernel_rfl) (by kernel_rfl) (by kernel_rfl) (fun _ _ _ h => h) (Or.inl ⟨by rfl, ?htdf65⟩) s2 ?rtdf65
          case htdf65 => (intro w hw; obtain ⟨n0, n1⟩ := HSD.out _ hw; go_simp; try (with_reducible rfl))
          try simp only [Act.put, List.setIfInBounds_toArray, List.set_cons_zero, List.set_cons_succ]
          refine takeG (some 229) (i := 66) (v := ?vtdf66) rfl rfl (by kernel_rfl) (by kernel_rfl) (by kernel_rfl) (fun _ _ _ h => h) (Or.inl ⟨by rfl, ?htdf66⟩) s2 ?rtdf66
          case htdf66 => (intro w hw; obtain ⟨n0, n1⟩ := HSD.out _ hw; go_simp; try (with_reducible rfl))
          try simp only [Act.put, List.setIfInBounds_toArray, List.set_cons_zero, List.set_cons_succ]
          refine takeG (some 230) (i := 67) (v := ?vtdf67) rfl rfl (by kernel_rfl) (by kernel_rfl) (by kernel_rfl) (fun _ _ _ h => h) (Or.inl ⟨by rfl, ?htdf67⟩) s2 ?rtdf67
          case htdf67 => (intro w hw; obtain ⟨n0, n1⟩ := HSD.out _ hw; go_simp; try (with_reducible rfl))
          try simp only [Act.put, List.setIfInBounds_toArray, List.set_cons_zero, List.set_cons_succ]
          refine takeG (some 231) (i := 68) (v := ?vtdf68) rfl rfl (by kernel_rfl) (by kernel_rfl) (by kernel_rfl) (fun _ _ _ h => h) (Or.inl ⟨by rfl, ?htdf68⟩) s2 ?rtdf68
          case htdf68 => (intro w hw; obtain ⟨n0, n1⟩ := HSD.out _ hw; go_simp; try (with_reducible rfl))
          try simp only [Act.put, List.setIfInBounds_toArray, List.set_cons_zero, List.set_cons_succ]
          refine takeG (some 232) (i := 69) (v := _) rfl rfl (by kernel_rfl) (by kernel_rfl) (by kernel_rfl) (fun _ _ _ h => h) (yields_load_part (by rfl) _ rfl rfl (fun wx hx => (HA1.out wx hx).rT)) s2 ?_
          try simp only [Act.put, List.setIfInBounds_toArray, List.set_cons_zero, List.set_cons_succ]
          refine wpAnyH_ready (rs := [70]) (by kernel_rfl) (by simp) ?_
          refine AllReadyH.cons rfl (fun K hK => ?_) AllReadyH.nil
          go_simp
          refine (CY.out _).mono ?_
          rintro e y3 ⟨rfl, j3⟩
          show K _ _
          have s3 := below_then s2 j3
          refine hK.out _ _ s3 (fun _ => ?_)
          clear hK K
          refine takeG (some 234) (i := 71) (v := ?vtdf71) rfl rfl (by kernel_rfl) (by kernel_rfl) (by kernel_rfl) (fun _ _ _ h => h) (Or.inl ⟨by rfl, ?htdf71⟩) s3 ?rtdf71
          case htdf71 => (intro w hw; obtain ⟨n0, n1⟩ := HSD.out _ hw; go_simp; try (with_reducible rfl))
          try simp only [Act.put, List.setIfInBounds_toArray, List.set_cons_zero, List.set_cons_succ]
          refine takeG (some 2) (i := 72) (v := ?vtdf72) rfl rfl (by kernel_rfl) (by kernel_rfl) (by kernel_rfl) (fun _ _ _ h => h) (Or.inl ⟨by rfl, ?htdf72⟩) s3 ?rtdf72
          case htdf72 => (intro w hw; obtain ⟨n0, n1⟩ := HSD.out _ hw; go_simp; try (with_reducible rfl))
          try simp only [Act.put, List.setIfInBounds_toArray, List.set_cons_zero, List.set_cons_succ]
          refine wpAnyH_done (by kernel_rfl) ?_ _
          go_wp2_with fail
          go_ret
          exact ⟨rfl, HF.out _ s3⟩
end Go.Proofs.YtflalehpdngklaaGreatDoor
