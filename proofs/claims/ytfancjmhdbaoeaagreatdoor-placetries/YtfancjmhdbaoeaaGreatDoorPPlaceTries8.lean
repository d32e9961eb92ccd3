/- Walks and plain facts that the proof of the statement PlaceTries uses, joined: PlaV PlaW PlaX LevD PlaY. Conditions: each theorem's own. -/
import Derived.Deep.AppendLies
import Derived.ArgAppend
import Derived.Test.YtfancjmhdbaoeaaGreatDoorPPlaceTries0
import Derived.Test.YtfancjmhdbaoeaaGreatDoorPPlaceTries4
import Derived.Test.YtfancjmhdbaoeaaGreatDoorPPlaceTries6
import Derived.Test.YtfancjmhdbaoeaaGreatDoorPPlaceTries7
namespace Go.Proofs.YtfancjmhdbaoeaaGreatDoor
set_option maxRecDepth 100000
open Go.RowKit

section
variable {h : List TxnV} {x : Nat} {r : List Nat} {k : Nat}
theorem must_irr (hc : checkI h = 0) (hk : k < h.length) : mustB h x k k = false := by
  unfold mustB sesP timP
  rw [froR_irr, decide_eq_false (Nat.lt_irrefl k), cAt_eq hk, bAt_eq hk, decide_eq_false (show ¬ h[k].c < h[k].b by have := bc_of hc hk; omega)]
  simp
theorem try_base_no (hc : checkI h = 0) (hx : x < 64) (hlt : ∀ a ∈ r, a < 64) {i : Nat} (hi : i < h.length) (hk : k < h.length) (hm : mustB h x i k = true) (hir : i ∉ r) : tryP h x r k = false := by
  rw [must_base hc hx hi hk] at hm
  unfold tryP
  cases e : inB (baseN h x k) (plS r) with
  | false => simp
  | true => exact (hir (plS_mem hlt ((inB_bits (baseN_set h x k)).1 e i hm))).elim
theorem base_all (hc : checkI h = 0) (hx : x < 64) (hlt : ∀ a ∈ r, a < 64) (hk : k < h.length) (hm : ∀ i, i < h.length → i ≠ k → mustB h x i k = true → i ∈ r) : ∀ j, (baseN h x k).testBit j = true → (plS r).testBit j = true := by
  intro j hj
  have h64 := (check_zero hc).1
  obtain ⟨j64, hb⟩ := (baseN_bit (show k < 64 by omega)).1 hj
  have hjn := (baseM_lt (by omega) j64 (show k < 64 by omega) hb).1
  have hmu : mustB h x j k = true := by rw [must_base hc hx hjn hk]; exact hj
  have hne : j ≠ k := by rintro rfl; rw [must_irr hc hk] at hmu; cases hmu
  rw [plS_bit j r hlt, decide_eq_true_eq]
  exact hm j hjn hne hmu
theorem try_reads (hk : k < h.length) (hkr : k ∉ r) (hb : ∀ j, (baseN h x k).testBit j = true → (plS r).testBit j = true) : tryP h x r k = readsP h (aheadL r) (nextN h x r k) k := by
  unfold tryP
  rw [decide_eq_true hk, decide_eq_false hkr, (inB_bits (baseN_set h x k)).2 hb]; rfl
theorem reads_may (hc : checkI h = 0) (hx : x < 64) (g : RowG h x r) (hlt : ∀ a ∈ r, a < h.length) (hk : k < h.length) (hb : ∀ j, (baseN h x k).testBit j = true → (plS r).testBit j = true) {m : List Pr} (hR : Rep (seesR h x (k :: r)) m) :
    readsP h (aheadL r) (nextN h x r k) k = (rdR h (k : Int) (refReads h[k].l)).all (rdOkR h (r.reverse.map Int.ofNat) m k) := by
  have h64 := (check_zero hc).1
  unfold readsP
  rw [← reads_same hc hk]
  refine all_congr _ fun rd hrd => ?_
  have e := lstR_same hc hR (show k < 64 by omega) rd.1 (r.map Int.ofNat) (fun a ha => by
    obtain ⟨q, hq, rfl⟩ := List.mem_map.1 ha
    have := hlt q hq
    exact ⟨Int.natCast_nonneg q, by show (q : Int) < _; omega⟩)
  rw [← List.map_reverse, sees_col (show k < 64 by omega), show plSee h x (k :: r) k = nextN h x r k by rw [plSee, if_pos rfl]; rfl] at e
  unfold rdOkR
  rw [e]
  refine (read_last hc g.nd g.lt hk (fun j hj => plS_mem g.lt (next_in g hb hj)) hrd fun n en => ?_).symm
  unfold nextN
  refine wld4_base ?_
  rcases read_from hc hk hrd with q | ⟨m', hm, q, _, _⟩
  · rw [en] at q; omega
  · have : n = m' := by rw [en] at q; exact Int.ofNat.inj q
    subst this
    exact from_base (by omega) h64 hk hm hrd q
end
set_option maxRecDepth 100000 in
set_option maxHeartbeats 32000000 in
theorem may14_any (va vr vm : Value) (h : List TxnV) (x : Nat) (hx : x < 64) (r : List Nat) (m : List Pr) (i : Int) (hc : checkI h = 0) (hlt : ∀ a ∈ r, a < h.length) (g : RowG h x r) (w : World) (hT : Txns w va h) (hl : Ints w vr (r.reverse.map Int.ofNat)) (hm : Prs w vm m) (hR : Rep (seesR h x r) m) :
    Calls Tryz.prog 29 #[va, .int .i64 x, vr, vm, .int .i64 i] w fun e w' => e = .returned (.bool (tryI h x r i)) ∧ Below w.heap.size w w' := by
  have CPL := Lib.hid (fun (j : Int) wx (hb : Below w.heap.size w wx) => rplace_any vr (r.reverse.map Int.ofNat) j wx (hl.below hb))
  have CM := Lib.hid (fun (j k : Nat) (hj : j < h.length) (hk : k < h.length) wx (hb : Below w.heap.size w wx) => must14_any va h x hx j k hj hk wx (hT.below hb))
  have CW := Lib.hid (fun (k : Nat) (hk : k < h.length) (hkr : k ∉ r) (hbs : ∀ j, (baseN h x k).testBit j = true → (plS r).testBit j = true) wx (hb : Below w.heap.size w wx) => with14_any va vr vm h x hx r m k hc hk hkr hlt g hbs wx (hT.below hb) (hl.below hb) (hm.below hb) hR)
  have CR := Lib.hid (fun (k : Nat) (hk : k < h.length) wx (hb : Below w.heap.size w wx) => rreads8_any va h k hk wx (hT.below hb))
  have CWR := Lib.hid (fun (j : Nat) (key : Int) (hj : j < h.length) wx (hb : Below w.heap.size w wx) => rwrts8_any va h j key hj wx (hT.below hb))
  have HI := Lib.hid (fun wx (hx : Below w.heap.size w wx) => hl.below hx)
  have HPL := Lib.hid (fun j : Nat => show 0 ≤ placeI (r.reverse.map Int.ofNat) (j : Int) ↔ j ∈ r by
    rw [placeI_nn, List.mem_map]
    exact ⟨fun ⟨a, ha, e⟩ => by have : a = j := Int.ofNat.inj e; subst this; exact List.mem_reverse.1 ha, fun hj => ⟨j, List.mem_reverse.2 hj, rfl⟩⟩)
  have HNO := Lib.hid (fun (j k : Nat) (hj : j < h.length) (hk : k < h.length) => try_base_no (k := k) hc hx g.lt hj hk)
  have HALL := Lib.hid (fun (k : Nat) (hk : k < h.length) => base_all hc hx g.lt hk)
  have HTR := Lib.hid (fun (k : Nat) (hk : k < h.length) (hkr : k ∉ r) hbs => try_reads (x := x) hk hkr hbs)
  have HRM := Lib.hid (fun (k : Nat) (hk : k < h.length) hbs (m' : List Pr) (hR' : Rep (seesR h x (k :: r)) m') => reads_may hc hx g hlt hk hbs hR')
  have HLT := Lib.hid hlt
  obtain ⟨L, hL⟩ : ∃ L, L = r.reverse := ⟨_, rfl⟩
  have HMEM := Lib.hid (fun (i : Nat) => show i ∈ L ↔ i ∈ r by rw [hL]; exact List.mem_reverse)
  rw [← hL] at hl CPL HI HPL HRM
  obtain ⟨ao, cap, rfl, hal⟩ := hT.form
  obtain ⟨ro, rcap, rfl, hrl⟩ := hl.form
  obtain ⟨mo, mcap, rfl, hml⟩ := hm.form
  rw [List.length_map] at hrl CPL HI CW ⊢
  have hb := Below.refl w.heap.size w
  have HTI : Hid (∀ k : Nat, tryI h x r (k : Int) = tryP h x r k) := Lib.hid (tryI_nat h x r)
  have HT0 : Hid (i < 0 → tryI h x r i = false) := Lib.hid (fun e => by unfold tryI; rw [decide_eq_false (by omega)]; rfl)
  have HT1 : Hid (∀ k : Nat, h.length ≤ k → tryP h x r k = false) := Lib.hid (fun k e => by unfold tryP; rw [decide_eq_false (by omega)]; rfl)
  have HT2 : Hid (∀ k : Nat, k ∈ r → tryP h x r k = false) := Lib.hid (fun k e => tryP_in e)
  clear hT hl hm hR g hlt hL hc
  go_enter Tryz.func29, Tryz.ntmps29
  by_cases h0 : i < 0
  · have HV := Lib.hid (HT0.out h0)
    have hd0 : decide (i < 0) = true := decide_eq_true h0
    go_wp2_with fail
    go_ret
    exact ⟨ret_b HV.out.symm, hb⟩
  obtain ⟨k, rfl⟩ := Int.eq_ofNat_of_zero_le (show 0 ≤ i by omega)
  rw [HTI.out k]
  have h0' : ¬ (k : Int) < 0 := by omega
  have hd0 : decide ((k : Int) < 0) = false := decide_eq_false h0'
  clear HT0 h0
  by_cases h1 : k < h.length
  rotate_left
  · have HV := Lib.hid (HT1.out k (by omega))
    have hd1 : decide ((h.length : Int) ≤ (k : Int)) = true := decide_eq_true (by omega)
    have hd1n : decide (h.length ≤ k) = true := decide_eq_true (by omega)
    have h1' : h.length ≤ k := by omega
    clear h1
    go_wp2_with fail
    go_ret
    exact ⟨ret_b HV.out.symm, hb⟩
  have h1' : ¬ h.length ≤ k := by omega
  have hd1 : decide ((h.length : Int) ≤ (k : Int)) = false := decide_eq_false (by omega)
  have hd1n : decide (h.length ≤ k) = false := decide_eq_false (by omega)
  have D0 := Lib.hid (CPL.out (k : Int) _ hb)
  by_cases hkr : k ∈ r
  · have HV := Lib.hid (HT2.out k hkr)
    have hp : 0 ≤ placeI (L.map Int.ofNat) (k : Int) := (HPL.out k).2 hkr
    generalize placeI (L.map Int.ofNat) (k : Int) = pk at *
    have hdp : decide (0 ≤ pk) = true := decide_eq_true hp
    go_wp2_with fail
    refine (D0.out).mono ?_
    rintro e w1 ⟨rfl, rfl⟩
    go_wp2_with fail
    go_ret
    exact ⟨ret_b HV.out.symm, hb⟩
  have HKR := Lib.hid hkr
  have hp : ¬ 0 ≤ placeI (L.map Int.ofNat) (k : Int) := fun q => hkr ((HPL.out k).1 q)
  generalize placeI (L.map Int.ofNat) (k : Int) = pk at *
  have hdp : decide (0 ≤ pk) = false := decide_eq_false hp
  clear HTI HT1 HT2 hkr
  go_wp2_with fail
  refine (D0.out).mono ?_
  rintro e w1 ⟨rfl, rfl⟩
  clear D0
  go_wp2_with fail
  go_loopw [11] (fun iv wr => ∃ j : Nat, j ≤ h.length ∧ iv = .int .i64 j ∧ Hid (∀ t, t < j → t ≠ k → mustB h x t k = true → t ∈ r) ∧ Below w.heap.size w wr) (fun iv _ => h.length - (intOf iv).toNat)
  case atStart => exact ⟨0, by omega, rfl, Lib.hid (fun t ht => by omega), hb⟩
  case round =>
    clear hb
    obtain ⟨j, hj, rfl, HA, hb⟩ := hrel
    by_cases hjl : j < h.length
    · have hjj : (j : Int) < (h.length : Int) := by omega
      have HSTEP : Hid ((j ≠ k → mustB h x j k = true → j ∈ r) → ∀ t, t < j + 1 → t ≠ k → mustB h x t k = true → t ∈ r) := Lib.hid (fun q t ht => by
        by_cases e : t = j
        · subst e; exact q
        · exact HA.out t (by omega))
      have HF := Lib.hid (HNO.out j k hjl h1)
      have D1 := Lib.hid (CM.out j k hjl h1 _ hb)
      have D2 := Lib.hid (CPL.out (j : Int))
      have HQ := Lib.hid (HPL.out j)
      clear HA
      by_cases hjk : j = k
      · have hje : (j : Int) = (k : Int) := by omega
        have hjb : ((j : Int) != (k : Int)) = false := by rw [hje]; simp
        have HS := Lib.hid (HSTEP.out (fun q => absurd hjk q))
        clear HSTEP HF D1 D2 HQ hjk
        go_wp2_with fail
        go_roundw
        case rel => exact ⟨j + 1, by omega, by go_num, HS, hb⟩
        case measure => simp [intOf]; omega
      · have hje : ¬ (j : Int) = (k : Int) := by omega
        have hjb : ((j : Int) != (k : Int)) = true := by rw [bne_iff_ne]; exact hje
        generalize mustB h x j k = q1 at *
        generalize placeI (L.map Int.ofNat) (j : Int) = pj at *
        go_wp2_with fail
        refine (D1.out).mono ?_
        rintro e w2 ⟨rfl, hn⟩
        have hb2 := below_then hb hn
        clear hn D1 hb
        cases q1 with
        | false =>
          have HS := Lib.hid (HSTEP.out (fun _ q => by cases q))
          clear HSTEP HF D2 HQ
          go_wp2_with fail
          go_roundw
          case rel => exact ⟨j + 1, by omega, by go_num, HS, hb2⟩
          case measure => simp [intOf]; omega
        | true =>
          have D2 := Lib.hid (D2.out _ hb2)
          by_cases hpj : pj < 0
          · have HV := Lib.hid (HF.out rfl (fun q => by have := HQ.out.2 q; omega))
            have hdj : decide (pj < 0) = true := decide_eq_true hpj
            clear HSTEP HF HQ
            go_wp2_with fail
            refine (D2.out).mono ?_
            rintro e w3 ⟨rfl, rfl⟩
            go_wp2_with fail
            go_ret
            exact ⟨ret_b HV.out.symm, hb2⟩
          · have HS := Lib.hid (HSTEP.out (fun _ _ => HQ.out.1 (by omega)))
            have hdj : decide (pj < 0) = false := decide_eq_false hpj
            clear HSTEP HF HQ
            go_wp2_with fail
            refine (D2.out).mono ?_
            rintro e w3 ⟨rfl, rfl⟩
            go_wp2_with fail
            go_roundw
            case rel => exact ⟨j + 1, by omega, by go_num, HS, hb2⟩
            case measure => simp [intOf]; omega
    · have hjn : j = h.length := by omega
      subst hjn
      have hbs := HALL.out k h1 HA.out
      have D3 := Lib.hid (CW.out k h1 HKR.out hbs _ hb)
      have HTR := Lib.hid (HTR.out k h1 HKR.out hbs)
      have HRM := Lib.hid (HRM.out k h1 hbs)
      clear HA HALL HNO CM CPL HPL CW hbs
      go_wp2_with fail
      refine (D3.out).mono ?_
      rintro e w2 ⟨⟨v2, m2, rfl, hm2, hR2, _⟩, hn⟩
      have hb2 := below_then hb hn
      have HTR : Hid (tryP h x r k = (rdR h (k : Int) (refReads h[k].l)).all (rdOkR h (L.map Int.ofNat) m2 k)) := Lib.hid (HTR.out.trans (HRM.out m2 hR2))
      have D4 := Lib.hid (CR.out k h1 _ hb2)
      obtain ⟨mo2, mcap2, rfl, hml2⟩ := hm2.form
      clear HRM D3 CR hn hb hR2
      generalize rdR h (k : Int) (refReads h[k].l) = RD at *
      go_wp2_with fail
      refine (D4.out).mono ?_
      rintro e w3 ⟨v3, rfl, hO3, hn⟩
      have hF3 : Frs w3 v3 RD := Row.of_owns hO3
      have hb3 := below_then hb2 hn
      have hm3 := hm2.below hn
      obtain ⟨a3, cap3, rfl, hll⟩ := hF3.form
      have HB := Lib.hid (fun wx (hx : Below w3.heap.size w3 wx) => hb3.trans (hx.mono hb3.size))
      have HFR := Lib.hid (fun wx (hx : Below w3.heap.size w3 wx) => hF3.below hx)
      have HPM := Lib.hid (fun wx (hx : Below w3.heap.size w3 wx) => hm3.below hx)
      have hb := Below.refl w3.heap.size w3
      clear D4 hn hb2 hm2 hO3 hF3 hm3
      go_wp2_with fail
      go_loopw [13] (fun kv wr => ∃ t : Nat, t ≤ RD.length ∧ kv = .int .i64 t ∧ Hid ((RD.take t).all (rdOkR h (L.map Int.ofNat) m2 k) = true) ∧ Below w3.heap.size w3 wr) (fun kv _ => RD.length - (intOf kv).toNat)
      case atStart => exact ⟨0, by omega, rfl, Lib.hid rfl, hb⟩
      case round =>
        clear hb hb3
        obtain ⟨t, ht, rfl, HA, hb⟩ := hrel
        by_cases htl : t < RD.length
        · have htt : (t : Int) < (RD.length : Int) := by omega
          have HYY := Lib.hid (fun hp : rdOkR h (L.map Int.ofNat) m2 k RD[t] = true => all_take htl HA.out hp)
          have HNN := Lib.hid (fun hp : rdOkR h (L.map Int.ofNat) m2 k RD[t] = false => show tryP h x r k = false from HTR.out.trans (all_no htl hp))
          have HQ : Hid (rdOkR h (L.map Int.ofNat) m2 k RD[t] = decide (lstR h m2 (k : Int) RD[t].1 (L.map Int.ofNat) = RD[t].2)) := Lib.hid rfl
          have HRD := Lib.hid (fun wx (hx : Below w3.heap.size w3 wx) => (HFR.out wx hx).at htl)
          obtain ⟨key, hkey⟩ : ∃ y, y = RD[t].1 := ⟨_, rfl⟩
          obtain ⟨frm, hfrm⟩ : ∃ y, y = RD[t].2 := ⟨_, rfl⟩
          rw [← hkey, ← hfrm] at HQ HRD
          clear hkey hfrm HA
          go_wp2_with fail
          go_loopw [14, 15] (fun ov jv wx => ∃ j : Nat, j ≤ L.length ∧ jv = .int .i64 j ∧ ov = .int .i64 (lstR h m2 (k : Int) key ((L.map Int.ofNat).take j)) ∧ Below w3.heap.size w3 wx) (fun _ jv _ => L.length - (intOf jv).toNat)
          case atStart => exact ⟨0, by omega, rfl, rfl, hb⟩
          case round =>
            clear hb
            obtain ⟨j, hj, rfl, rfl, hb⟩ := hrel
            by_cases hjl : j < L.length
            · have hjj : (j : Int) < (L.length : Int) := by omega
              obtain ⟨gb, o, hao, c1⟩ := ints_at (HI.out _ (HB.out _ hb)) hjl
              cases hao
              obtain ⟨gk, ok, hao, d1, d2⟩ := HRD.out _ hb
              cases hao
              have HS := Lib.hid (lstR_take h m2 (k : Int) key (L.map Int.ofNat) j (by rw [List.length_map]; exact hjl))
              rw [List.getElem_map] at HS
              have hyn := HLT.out _ ((HMEM.out _).1 (List.getElem_mem hjl))
              have HS : Hid (lstR h m2 (k : Int) key ((L.map Int.ofNat).take (j + 1)) = if (hasP m2 (L[j] : Int) (k : Int) && wrsR h L[j] key) = true then (L[j] : Int) else lstR h m2 (k : Int) key ((L.map Int.ofNat).take j)) := Lib.hid (by rw [HS.out]; simp)
              have D1 := Lib.hid (fun wx (hx : Below w3.heap.size w3 wx) => phas_any _ m2 (L[j] : Int) (k : Int) wx (HPM.out wx hx))
              have D2 := Lib.hid (fun wx (hx : Below w3.heap.size w3 wx) => CWR.out L[j] key hyn wx (HB.out wx hx))
              have hlo1 := block_lt c1
              have hlo2 := block_lt d1
              simp only at hlo1 hlo2
              generalize hasP m2 (L[j] : Int) (k : Int) = q1 at *
              generalize wrsR h L[j] key = q2 at *
              generalize L[j] = y at *
              generalize lstR h m2 (k : Int) key ((L.map Int.ofNat).take j) = f0 at *
              clear HYY HNN HQ HTR
              have CC1 := Lib.hid (fun wx (hx : Below wr.heap.size wr wx) => (hx.cell (p := ⟨gb, o + j, none⟩) hlo1).trans c1)
              have CC2 := Lib.hid (fun wx (hx : Below wr.heap.size wr wx) => (hx.cell (p := ⟨gk, ok + t * 2, none⟩) hlo2).trans d1)
              cases q1 with
              | true =>
                go_upto_region 17 with fail
                have kd := (Below.refl wr.heap.size wr).drew
                refine wp_region_held_drew (S := Below wr.heap.size wr) (by kernel_rfl) kd (fun hS0 => ?_)
                refine takeG (some 73) (i := 0) (v := ?vpv0x1) rfl rfl (by kernel_rfl) (by kernel_rfl) (by kernel_rfl) (fun _ _ _ h => h) (Or.inl ⟨by rfl, ?hpv0x1⟩) hS0 ?rpv0x1
                case hpv0x1 => (intro w _; go_simp; try (with_reducible rfl))
                try simp only [Act.put, List.setIfInBounds_toArray, List.set_cons_zero, List.set_cons_succ]
                refine takeG (some 74) (i := 1) (v := ?vpv1x2) rfl rfl (by kernel_rfl) (by kernel_rfl) (by kernel_rfl) (fun _ _ _ h => h) (Or.inl ⟨by rfl, ?hpv1x2⟩) hS0 ?rpv1x2
                case hpv1x2 => (intro w _; go_simp; try (with_reducible rfl))
                try simp only [Act.put, List.setIfInBounds_toArray, List.set_cons_zero, List.set_cons_succ]
                refine takeG (some 75) (i := 2) (v := ?vpv2x3) rfl rfl (by kernel_rfl) (by kernel_rfl) (by kernel_rfl) (fun _ _ _ h => h) (Or.inl ⟨by rfl, ?hpv2x3⟩) hS0 ?rpv2x3
                case hpv2x3 => (intro w _; go_simp; try (with_reducible rfl))
                try simp only [Act.put, List.setIfInBounds_toArray, List.set_cons_zero, List.set_cons_succ]
                refine takeG (some 76) (i := 3) (v := ?vpv3x4) rfl rfl (by kernel_rfl) (by kernel_rfl) (by kernel_rfl) (fun _ _ _ h => h) (Or.inl ⟨by rfl, ?hpv3x4⟩) hS0 ?rpv3x4
                case hpv3x4 => (intro w _; go_simp; try (with_reducible rfl))
                try simp only [Act.put, List.setIfInBounds_toArray, List.set_cons_zero, List.set_cons_succ]
                refine takeG (some 77) (i := 4) (v := ?vpv4x5) rfl rfl (by kernel_rfl) (by kernel_rfl) (by kernel_rfl) (fun _ _ _ h => h) (Or.inl ⟨by rfl, ?hpv4x5⟩) hS0 ?rpv4x5
                case hpv4x5 => (intro w hz; have c1 := CC1.out w hz; go_simp; try (with_reducible rfl))
                try simp only [Act.put, List.setIfInBounds_toArray, List.set_cons_zero, List.set_cons_succ]
                refine takeG (some 78) (i := 5) (v := ?vpv5x6) rfl rfl (by kernel_rfl) (by kernel_rfl) (by kernel_rfl) (fun _ _ _ h => h) (Or.inl ⟨by rfl, ?hpv5x6⟩) hS0 ?rpv5x6
                case hpv5x6 => (intro w _; go_simp; try (with_reducible rfl))
                try simp only [Act.put, List.setIfInBounds_toArray, List.set_cons_zero, List.set_cons_succ]
                refine wpAnyH_ready (rs := [6]) (by kernel_rfl) (by simp) ?_
                refine AllReadyH.cons rfl (fun K hK => ?_) AllReadyH.nil
                go_simp
                refine (D1.out _ (below_then hb hS0)).mono ?_
                rintro e yq ⟨rfl, rfl⟩
                show K _ _
                refine hK.out _ _ hS0 (fun _ => ?_)
                clear hK K
                refine takeG (some 80) (i := 7) (v := ?vpv7x8) rfl rfl (by kernel_rfl) (by kernel_rfl) (by kernel_rfl) (fun _ _ _ h => h) (Or.inl ⟨by rfl, ?hpv7x8⟩) hS0 ?rpv7x8
                case hpv7x8 => (intro w _; go_simp; try (with_reducible rfl))
                try simp only [Act.put, List.setIfInBounds_toArray, List.set_cons_zero, List.set_cons_succ]
                refine takeG (some 81) (i := 8) (v := ?vpv8x9) rfl rfl (by kernel_rfl) (by kernel_rfl) (by kernel_rfl) (fun _ _ _ h => h) (Or.inl ⟨by rfl, ?hpv8x9⟩) hS0 ?rpv8x9
                case hpv8x9 => (intro w _; go_simp; try (with_reducible rfl))
                try simp only [Act.put, List.setIfInBounds_toArray, List.set_cons_zero, List.set_cons_succ]
                refine takeG (some 82) (i := 9) (v := ?vpv9x10) rfl rfl (by kernel_rfl) (by kernel_rfl) (by kernel_rfl) (fun _ _ _ h => h) (Or.inl ⟨by rfl, ?hpv9x10⟩) hS0 ?rpv9x10
                case hpv9x10 => (intro w _; go_simp; try (with_reducible rfl))
                try simp only [Act.put, List.setIfInBounds_toArray, List.set_cons_zero, List.set_cons_succ]
                refine takeG (some 83) (i := 10) (v := ?vpv10x11) rfl rfl (by kernel_rfl) (by kernel_rfl) (by kernel_rfl) (fun _ _ _ h => h) (Or.inl ⟨by rfl, ?hpv10x11⟩) hS0 ?rpv10x11
                case hpv10x11 => (intro w _; go_simp; try (with_reducible rfl))
                try simp only [Act.put, List.setIfInBounds_toArray, List.set_cons_zero, List.set_cons_succ]
                refine takeG (some 84) (i := 11) (v := ?vpv11x12) rfl rfl (by kernel_rfl) (by kernel_rfl) (by kernel_rfl) (fun _ _ _ h => h) (Or.inl ⟨by rfl, ?hpv11x12⟩) hS0 ?rpv11x12
                case hpv11x12 => (intro w _; go_simp; try (with_reducible rfl))
                try simp only [Act.put, List.setIfInBounds_toArray, List.set_cons_zero, List.set_cons_succ]
                refine takeG (some 85) (i := 12) (v := ?vpv12x13) rfl rfl (by kernel_rfl) (by kernel_rfl) (by kernel_rfl) (fun _ _ _ h => h) (Or.inl ⟨by rfl, ?hpv12x13⟩) hS0 ?rpv12x13
                case hpv12x13 => (intro w hz; have c1 := CC1.out w hz; go_simp; try (with_reducible rfl))
                try simp only [Act.put, List.setIfInBounds_toArray, List.set_cons_zero, List.set_cons_succ]
                refine takeG (some 86) (i := 13) (v := ?vpv13x14) rfl rfl (by kernel_rfl) (by kernel_rfl) (by kernel_rfl) (fun _ _ _ h => h) (Or.inl ⟨by rfl, ?hpv13x14⟩) hS0 ?rpv13x14
                case hpv13x14 => (intro w _; go_simp; try (with_reducible rfl))
                try simp only [Act.put, List.setIfInBounds_toArray, List.set_cons_zero, List.set_cons_succ]
                refine takeG (some 87) (i := 14) (v := ?vpv14x15) rfl rfl (by kernel_rfl) (by kernel_rfl) (by kernel_rfl) (fun _ _ _ h => h) (Or.inl ⟨by rfl, ?hpv14x15⟩) hS0 ?rpv14x15
                case hpv14x15 => (intro w _; go_simp; try (with_reducible rfl))
                try simp only [Act.put, List.setIfInBounds_toArray, List.set_cons_zero, List.set_cons_succ]
                refine takeG (some 88) (i := 15) (v := ?vpv15x16) rfl rfl (by kernel_rfl) (by kernel_rfl) (by kernel_rfl) (fun _ _ _ h => h) (Or.inl ⟨by rfl, ?hpv15x16⟩) hS0 ?rpv15x16
                case hpv15x16 => (intro w _; go_simp; try (with_reducible rfl))
                try simp only [Act.put, List.setIfInBounds_toArray, List.set_cons_zero, List.set_cons_succ]
                refine takeG (some 89) (i := 16) (v := ?vpv16x17) rfl rfl (by kernel_rfl) (by kernel_rfl) (by kernel_rfl) (fun _ _ _ h => h) (Or.inl ⟨by rfl, ?hpv16x17⟩) hS0 ?rpv16x17
                case hpv16x17 => (intro w _; go_simp; try (with_reducible rfl))
                try simp only [Act.put, List.setIfInBounds_toArray, List.set_cons_zero, List.set_cons_succ]
                refine takeG (some 90) (i := 17) (v := ?vpv17x18) rfl rfl (by kernel_rfl) (by kernel_rfl) (by kernel_rfl) (fun _ _ _ h => h) (Or.inl ⟨by rfl, ?hpv17x18⟩) hS0 ?rpv17x18
                case hpv17x18 => (intro w hz; have d1 := CC2.out w hz; go_simp; try (with_reducible rfl))
                try simp only [Act.put, List.setIfInBounds_toArray, List.set_cons_zero, List.set_cons_succ]
                refine wpAnyH_ready (rs := [18]) (by kernel_rfl) (by simp) ?_
                refine AllReadyH.cons rfl (fun K hK => ?_) AllReadyH.nil
                go_simp
                refine (D2.out _ (below_then hb hS0)).mono ?_
                rintro e y19 ⟨rfl, j19⟩
                show K _ _
                have s19 := below_then hS0 j19
                refine hK.out _ _ s19 (fun _ => ?_)
                clear hK K
                refine takeG (some 92) (i := 19) (v := ?vpv19x20) rfl rfl (by kernel_rfl) (by kernel_rfl) (by kernel_rfl) (fun _ _ _ h => h) (Or.inl ⟨by rfl, ?hpv19x20⟩) s19 ?rpv19x20
                case hpv19x20 => (intro w _; go_simp; try (with_reducible rfl))
                try simp only [Act.put, List.setIfInBounds_toArray, List.set_cons_zero, List.set_cons_succ]
                refine wpAnyH_done (by kernel_rfl) ?_ _
                have hb2 := below_then hb s19
                have c1 := CC1.out _ s19
                clear CC1 CC2 D1 D2 HRD
                cases q2 with
                | true =>
                  have HN : Hid (lstR h m2 (k : Int) key ((L.map Int.ofNat).take (j + 1)) = (y : Int)) := Lib.hid (by rw [HS.out]; rfl)
                  go_wp2_with fail
                  go_roundw
                  case rel => exact ⟨j + 1, by omega, by go_num, by rw [HN.out], hb2⟩
                  case measure => simp [intOf]; omega
                | false =>
                  have HN : Hid (lstR h m2 (k : Int) key ((L.map Int.ofNat).take (j + 1)) = f0) := Lib.hid (by rw [HS.out]; rfl)
                  go_wp2_with fail
                  go_roundw
                  case rel => exact ⟨j + 1, by omega, by go_num, by rw [HN.out], hb2⟩
                  case measure => simp [intOf]; omega
              | false =>
                go_upto_region 17 with fail
                have kd := (Below.refl wr.heap.size wr).drew
                refine wp_region_held_drew (S := Below wr.heap.size wr) (by kernel_rfl) kd (fun hS0 => ?_)
                refine takeG (some 73) (i := 0) (v := ?vpw0x1) rfl rfl (by kernel_rfl) (by kernel_rfl) (by kernel_rfl) (fun _ _ _ h => h) (Or.inl ⟨by rfl, ?hpw0x1⟩) hS0 ?rpw0x1
                case hpw0x1 => (intro w _; go_simp; try (with_reducible rfl))
                try simp only [Act.put, List.setIfInBounds_toArray, List.set_cons_zero, List.set_cons_succ]
                refine takeG (some 74) (i := 1) (v := ?vpw1x2) rfl rfl (by kernel_rfl) (by kernel_rfl) (by kernel_rfl) (fun _ _ _ h => h) (Or.inl ⟨by rfl, ?hpw1x2⟩) hS0 ?rpw1x2
                case hpw1x2 => (intro w _; go_simp; try (with_reducible rfl))
                try simp only [Act.put, List.setIfInBounds_toArray, List.set_cons_zero, List.set_cons_succ]
                refine takeG (some 75) (i := 2) (v := ?vpw2x3) rfl rfl (by kernel_rfl) (by kernel_rfl) (by kernel_rfl) (fun _ _ _ h => h) (Or.inl ⟨by rfl, ?hpw2x3⟩) hS0 ?rpw2x3
                case hpw2x3 => (intro w _; go_simp; try (with_reducible rfl))
                try simp only [Act.put, List.setIfInBounds_toArray, List.set_cons_zero, List.set_cons_succ]
                refine takeG (some 76) (i := 3) (v := ?vpw3x4) rfl rfl (by kernel_rfl) (by kernel_rfl) (by kernel_rfl) (fun _ _ _ h => h) (Or.inl ⟨by rfl, ?hpw3x4⟩) hS0 ?rpw3x4
                case hpw3x4 => (intro w _; go_simp; try (with_reducible rfl))
                try simp only [Act.put, List.setIfInBounds_toArray, List.set_cons_zero, List.set_cons_succ]
                refine takeG (some 77) (i := 4) (v := ?vpw4x5) rfl rfl (by kernel_rfl) (by kernel_rfl) (by kernel_rfl) (fun _ _ _ h => h) (Or.inl ⟨by rfl, ?hpw4x5⟩) hS0 ?rpw4x5
                case hpw4x5 => (intro w hz; have c1 := CC1.out w hz; go_simp; try (with_reducible rfl))
                try simp only [Act.put, List.setIfInBounds_toArray, List.set_cons_zero, List.set_cons_succ]
                refine takeG (some 78) (i := 5) (v := ?vpw5x6) rfl rfl (by kernel_rfl) (by kernel_rfl) (by kernel_rfl) (fun _ _ _ h => h) (Or.inl ⟨by rfl, ?hpw5x6⟩) hS0 ?rpw5x6
                case hpw5x6 => (intro w _; go_simp; try (with_reducible rfl))
                try simp only [Act.put, List.setIfInBounds_toArray, List.set_cons_zero, List.set_cons_succ]
                refine wpAnyH_ready (rs := [6]) (by kernel_rfl) (by simp) ?_
                refine AllReadyH.cons rfl (fun K hK => ?_) AllReadyH.nil
                go_simp
                refine (D1.out _ (below_then hb hS0)).mono ?_
                rintro e yq ⟨rfl, rfl⟩
                show K _ _
                refine hK.out _ _ hS0 (fun _ => ?_)
                clear hK K
                refine takeG (some 80) (i := 7) (v := ?vpw7x8) rfl rfl (by kernel_rfl) (by kernel_rfl) (by kernel_rfl) (fun _ _ _ h => h) (Or.inl ⟨by rfl, ?hpw7x8⟩) hS0 ?rpw7x8
                case hpw7x8 => (intro w _; go_simp; try (with_reducible rfl))
                try simp only [Act.put, List.setIfInBounds_toArray, List.set_cons_zero, List.set_cons_succ]
                refine takeG (some 81) (i := 8) (v := undef) rfl rfl (by kernel_rfl) (by kernel_rfl) (by kernel_rfl) (fun _ _ _ h => h) (Or.inr ⟨by rfl, rfl⟩) hS0 ?_
                try simp only [Act.put, List.setIfInBounds_toArray, List.set_cons_zero, List.set_cons_succ]
                refine takeG (some 82) (i := 9) (v := undef) rfl rfl (by kernel_rfl) (by kernel_rfl) (by kernel_rfl) (fun _ _ _ h => h) (Or.inr ⟨by rfl, rfl⟩) hS0 ?_
                try simp only [Act.put, List.setIfInBounds_toArray, List.set_cons_zero, List.set_cons_succ]
                refine takeG (some 83) (i := 10) (v := undef) rfl rfl (by kernel_rfl) (by kernel_rfl) (by kernel_rfl) (fun _ _ _ h => h) (Or.inr ⟨by rfl, rfl⟩) hS0 ?_
                try simp only [Act.put, List.setIfInBounds_toArray, List.set_cons_zero, List.set_cons_succ]
                refine takeG (some 84) (i := 11) (v := undef) rfl rfl (by kernel_rfl) (by kernel_rfl) (by kernel_rfl) (fun _ _ _ h => h) (Or.inr ⟨by rfl, rfl⟩) hS0 ?_
                try simp only [Act.put, List.setIfInBounds_toArray, List.set_cons_zero, List.set_cons_succ]
                refine takeG (some 85) (i := 12) (v := undef) rfl rfl (by kernel_rfl) (by kernel_rfl) (by kernel_rfl) (fun _ _ _ h => h) (Or.inr ⟨by rfl, rfl⟩) hS0 ?_
                try simp only [Act.put, List.setIfInBounds_toArray, List.set_cons_zero, List.set_cons_succ]
                refine takeG (some 86) (i := 13) (v := undef) rfl rfl (by kernel_rfl) (by kernel_rfl) (by kernel_rfl) (fun _ _ _ h => h) (Or.inr ⟨by rfl, rfl⟩) hS0 ?_
                try simp only [Act.put, List.setIfInBounds_toArray, List.set_cons_zero, List.set_cons_succ]
                refine takeG (some 87) (i := 14) (v := undef) rfl rfl (by kernel_rfl) (by kernel_rfl) (by kernel_rfl) (fun _ _ _ h => h) (Or.inr ⟨by rfl, rfl⟩) hS0 ?_
                try simp only [Act.put, List.setIfInBounds_toArray, List.set_cons_zero, List.set_cons_succ]
                refine takeG (some 88) (i := 15) (v := undef) rfl rfl (by kernel_rfl) (by kernel_rfl) (by kernel_rfl) (fun _ _ _ h => h) (Or.inr ⟨by rfl, rfl⟩) hS0 ?_
                try simp only [Act.put, List.setIfInBounds_toArray, List.set_cons_zero, List.set_cons_succ]
                refine takeG (some 89) (i := 16) (v := undef) rfl rfl (by kernel_rfl) (by kernel_rfl) (by kernel_rfl) (fun _ _ _ h => h) (Or.inr ⟨by rfl, rfl⟩) hS0 ?_
                try simp only [Act.put, List.setIfInBounds_toArray, List.set_cons_zero, List.set_cons_succ]
                refine takeG (some 90) (i := 17) (v := undef) rfl rfl (by kernel_rfl) (by kernel_rfl) (by kernel_rfl) (fun _ _ _ h => h) (Or.inr ⟨by rfl, rfl⟩) hS0 ?_
                try simp only [Act.put, List.setIfInBounds_toArray, List.set_cons_zero, List.set_cons_succ]
                refine takeG (some 91) (i := 18) (v := undef) rfl rfl (by kernel_rfl) (by kernel_rfl) (by kernel_rfl) (fun _ _ _ h => h) (Or.inr ⟨by rfl, rfl⟩) hS0 ?_
                try simp only [Act.put, List.setIfInBounds_toArray, List.set_cons_zero, List.set_cons_succ]
                refine takeG (some 92) (i := 19) (v := ?vpw19x20) rfl rfl (by kernel_rfl) (by kernel_rfl) (by kernel_rfl) (fun _ _ _ h => h) (Or.inl ⟨by rfl, ?hpw19x20⟩) hS0 ?rpw19x20
                case hpw19x20 => (intro w _; go_simp; try (with_reducible rfl))
                try simp only [Act.put, List.setIfInBounds_toArray, List.set_cons_zero, List.set_cons_succ]
                refine wpAnyH_done (by kernel_rfl) ?_ _
                have hb2 := below_then hb hS0
                clear CC1 CC2 D1 D2 HRD
                have HN : Hid (lstR h m2 (k : Int) key ((L.map Int.ofNat).take (j + 1)) = f0) := Lib.hid (by rw [HS.out]; rfl)
                go_wp2_with fail
                go_roundw
                case rel => exact ⟨j + 1, by omega, by go_num, by rw [HN.out], hb2⟩
                case measure => simp [intOf]; omega
            · have hjn : j = L.length := by omega
              subst hjn
              obtain ⟨gk, ok, hao, d1, d2⟩ := HRD.out _ hb
              cases hao
              have HQ2 := HQ.out
              rw [show lstR h m2 (k : Int) key ((L.map Int.ofNat).take L.length) = lstR h m2 (k : Int) key (L.map Int.ofNat) by rw [← List.length_map (f := Int.ofNat), List.take_length]]
              generalize lstR h m2 (k : Int) key (L.map Int.ofNat) = f0 at *
              by_cases hf : f0 = frm
              · have HV := Lib.hid (HYY.out (by rw [HQ2, decide_eq_true hf]))
                have hfb : (f0 != frm) = false := by rw [hf]; simp
                clear HYY HNN HQ HQ2 hf
                go_wp2_with fail
                go_roundw
                case rel => exact ⟨t + 1, by omega, by go_num, HV, hb⟩
                case measure => simp [intOf]; omega
              · have HV : Hid (false = tryP h x r k) := Lib.hid (HNN.out (by rw [HQ2, decide_eq_false hf])).symm
                have hfb : (f0 != frm) = true := by rw [bne_iff_ne]; exact hf
                have hz := HB.out _ hb
                clear HYY HNN HQ HQ2
                go_wp2_with fail
                go_ret
                exact ⟨ret_b HV.out, hz⟩
        · have htn : t = RD.length := by omega
          subst htn
          have HV : Hid (true = tryP h x r k) := Lib.hid (by rw [HTR.out]; have := HA.out; rw [List.take_length] at this; exact this.symm)
          have hz := HB.out _ hb
          clear HA HTR
          go_wp2_with fail
          go_ret
          exact ⟨ret_b HV.out, hz⟩
end Go.Proofs.YtfancjmhdbaoeaaGreatDoor

namespace Go.Proofs.YtfancjmhdbaoeaaGreatDoor
set_option maxRecDepth 100000
open Go.RowKit

theorem ofL_row {r : List Nat} (hlt : ∀ a ∈ r, a < 64) : ofL (r.reverse.map Int.ofNat) = plS r := by
  refine set_ext (isSet_ofL _) (plS_set r) fun i hi => ?_
  rw [testBit_ofL, decide_eq_true hi, Bool.true_and, plS_bit i r hlt, Bool.eq_iff_iff, decide_eq_true_eq]
  unfold hasL
  simp only [List.any_eq_true, List.mem_map, List.mem_reverse]
  constructor
  · rintro ⟨a, ⟨b, hb, rfl⟩, e⟩
    have : b = i := by
      have e' : ((b : Int) == (i : Int)) = true := e
      rw [beq_iff_eq] at e'; omega
    rw [← this]; exact hb
  · intro hi'
    exact ⟨_, ⟨i, hi', rfl⟩, by simp⟩
theorem plSeeI_nat {h : List TxnV} {C : Nat} {r : List Nat} (hlt : ∀ a ∈ r, a < 64) (k : Nat) : plSeeI h C r (k : Int) = plSee h C r k := by
  by_cases hk : k ∈ r
  · unfold plSeeI
    rw [hasB_nat (hlt k hk), plS_bit k r hlt, decide_eq_true hk, Int.toNat_natCast]; rfl
  · rw [plSeeI_out hlt hk, plSee_out hk]
theorem plSeeI_neg {h : List TxnV} {C : Nat} {r : List Nat} : plSeeI h C r (-1) = 0 := by
  unfold plSeeI
  have : hasB (plS r) (-1) = false := by unfold hasB; rfl
  rw [this]; rfl
set_option maxRecDepth 100000 in
set_option maxHeartbeats 1600000 in
theorem same14_any {W : World} {S B b : Nat} {h : List TxnV} {C : Nat} {r : List Nat} {vb vr : Value} {aF sF : Nat → Nat} {w : World} (p : PlIs W S B b h C r vb vr aF sF w) (h64 : h.length ≤ 64) (va vl vm : Value) (m : List Pr) (hT : Txns w va h) (hl : Ints w vl (r.reverse.map Int.ofNat)) (hm : Prs w vm m) (hR : Rep (seesR h C r) m) :
    Calls Tryz.prog 32 #[.pointer (some ⟨S, 0, none⟩), va, vl, vm] w fun e w' => e = .returned (.bool true) ∧ Below w.heap.size w w' := by
  have hlt : ∀ a ∈ r, a < 64 := fun a ha => by have := p.lt a ha; omega
  have C1 := Lib.hid (prow_any p h64)
  have C2 := Lib.hid (fun v1 wx (hb : Below w.heap.size w wx) (h1 : Ints wx v1 (r.reverse.map Int.ofNat)) => same_any v1 vl _ _ wx h1 (hl.below hb))
  rw [show sameL (r.reverse.map Int.ofNat) (r.reverse.map Int.ofNat) = true by unfold sameL; simp] at C2
  have C3 := Lib.hid (fun wx (hb : Below w.heap.size w wx) => pplaced_any (p.below hb))
  have C4 := Lib.hid (fun wx (hb : Below w.heap.size w wx) => rof_any vl _ wx (hl.below hb))
  rw [ofL_row hlt] at C4
  have C5 := Lib.hid (fun wx (hb : Below w.heap.size w wx) => pdone_any (p.below hb))
  have C6 := Lib.hid (fun wx (hb : Below w.heap.size w wx) => psees_any (-1) (p.below hb) h64)
  rw [plSeeI_neg] at C6
  have C7 := Lib.hid (fun (k : Nat) wx (hb : Below w.heap.size w wx) => psees_any (k : Int) (p.below hb) h64)
  have C8 := Lib.hid (fun (k i : Nat) wx => has_any (plSeeI h C r (k : Int)) (i : Int) wx (plSeeI_set h C r _))
  have C9 := Lib.hid (fun (k i : Nat) wx (hb : Below w.heap.size w wx) => phas_any vm m (i : Int) (k : Int) wx (hm.below hb))
  have HEQ := Lib.hid (fun (k i : Nat) (hk : k < h.length) (hi : i < h.length) => show hasB (plSeeI h C r (k : Int)) (i : Int) = hasP m (i : Int) (k : Int) by
    rw [hasP_rep hR (show i < 64 by omega) (show k < 64 by omega), plSeeI_nat hlt, hasB_nat (show i < 64 by omega)]; rfl)
  have HBE : Hid ((((r.length : Int) == (h.length : Int)) : Bool) = decide (r.length = h.length)) := Lib.hid (by
    rw [Bool.eq_iff_iff, beq_iff_eq, decide_eq_true_eq]; omega)
  obtain ⟨ao, cap, rfl, hal⟩ := hT.form
  obtain ⟨ro, rcap, rfl, hrl⟩ := hl.form
  obtain ⟨mo, mcap, rfl, hml⟩ := hm.form
  have hrr : (r.reverse.map Int.ofNat).length = r.length := by simp
  rw [hrr] at hrl C2 C4 ⊢
  have HRR := Lib.hid hrr
  have hb := Below.refl w.heap.size w
  clear p hT hl hm hR hlt hrr
  generalize plS r = pl at *
  generalize plSeeI h C r = PS at *
  go_enter Tryz.func32, Tryz.ntmps32
  go_wp2_with fail
  refine (C1.out).mono ?_
  rintro e w1 ⟨v1, rfl, hI, hn⟩
  have hb1 := below_then hb hn
  clear C1 hn hb
  have C2 := Lib.hid (C2.out v1 _ hb1 hI)
  obtain ⟨o1, c1, rfl, hl1⟩ := hI.form
  rw [HRR.out] at hl1 C2 ⊢
  clear hI
  go_wp2_with fail
  refine (C2.out).mono ?_
  rintro e w2 ⟨rfl, hn⟩
  have hb2 := below_then hb1 hn
  clear C2 hn hb1
  go_wp2_with fail
  refine (C3.out _ hb2).mono ?_
  rintro e w3 ⟨rfl, rfl⟩
  go_wp2_with fail
  refine (C4.out _ hb2).mono ?_
  rintro e w3 ⟨rfl, rfl⟩
  go_wp2_with fail
  refine (C5.out _ hb2).mono ?_
  rintro e w3 ⟨rfl, hn⟩
  have hb3 := below_then hb2 hn
  clear C3 C4 C5 hn hb2
  rw [← HBE.out]
  go_wp2_with fail
  refine (C6.out _ hb3).mono ?_
  rintro e w4 ⟨rfl, rfl⟩
  clear C6 HBE
  go_wp2_with fail
  go_loopw [40] (fun kv wr => ∃ k : Nat, k ≤ h.length ∧ kv = .int .i64 k ∧ Below w.heap.size w wr) (fun kv _ => h.length - (intOf kv).toNat)
  case atStart => exact ⟨0, by omega, rfl, hb3⟩
  case round =>
    clear hb3
    obtain ⟨k, hk, rfl, hb⟩ := hrel
    by_cases hkl : k < h.length
    · have hkk : (k : Int) < (h.length : Int) := by omega
      go_wp2_with fail
      go_loopw [45] (fun iv wr => ∃ i : Nat, i ≤ h.length ∧ iv = .int .i64 i ∧ Below w.heap.size w wr) (fun iv _ => h.length - (intOf iv).toNat)
      case atStart => exact ⟨0, by omega, rfl, hb⟩
      case round =>
        clear hb
        obtain ⟨i, hi, rfl, hb⟩ := hrel
        by_cases hil : i < h.length
        · have hii : (i : Int) < (h.length : Int) := by omega
          have D7 := Lib.hid (C7.out k _ hb)
          have D8 := Lib.hid (C8.out k i)
          have D9 := Lib.hid (C9.out k i _ hb)
          rw [← HEQ.out k i hkl hil] at D9
          generalize hasB (PS (k : Int)) (i : Int) = q at *
          generalize PS (k : Int) = sk at *
          clear C7 C8 C9 HEQ
          go_wp2_with fail
          refine (D7.out).mono ?_
          rintro e w5 ⟨rfl, rfl⟩
          go_wp2_with fail
          refine (D8.out _).mono ?_
          rintro e w5 ⟨rfl, rfl⟩
          go_wp2_with fail
          refine (D9.out).mono ?_
          rintro e w5 ⟨rfl, rfl⟩
          go_wp2_with fail
          go_roundw
          case rel => exact ⟨i + 1, by omega, by go_num, hb⟩
          case measure => simp [intOf]; omega
        · have hin : ¬ (i : Int) < (h.length : Int) := by omega
          go_wp2_with fail
          go_roundw
          case rel => exact ⟨k + 1, by omega, by go_num, hb⟩
          case measure => simp [intOf]; omega
    · have hkn : ¬ (k : Int) < (h.length : Int) := by omega
      go_wp2_with fail
      go_ret
      exact ⟨rfl, hb⟩
end Go.Proofs.YtfancjmhdbaoeaaGreatDoor

namespace Go.Proofs.YtfancjmhdbaoeaaGreatDoor
set_option maxRecDepth 100000
open Go.RowKit

/-- What is left of what is seen, without what one sees. -/
def leftP (i : Int) (m : List Pr) : List Pr := m.filter fun p => p.2 != i
theorem left_take (i : Int) (m : List Pr) (k : Nat) (hk : k < m.length) : leftP i (m.take (k + 1)) = if m[k].2 = i then leftP i (m.take k) else leftP i (m.take k) ++ [m[k]] := by
  unfold leftP
  rw [List.take_succ_eq_append_getElem hk, List.filter_append]
  by_cases e : m[k].2 = i
  · rw [if_pos e]; simp [e]
  · rw [if_neg e]; simp [e]
theorem left_len (i : Int) (m : List Pr) : (leftP i m).length ≤ m.length := List.length_filter_le _ _
theorem rep_left {h : List TxnV} {C : Nat} {r : List Nat} {i : Nat} {m : List Pr} (hi : i ∉ r) (hR : Rep (seesR h C (i :: r)) m) : Rep (seesR h C r) (leftP (i : Int) m) := by
  refine ⟨hR.1.filter _, fun a b => ?_⟩
  unfold leftP
  rw [List.mem_filter, hR.2]
  constructor
  · rintro ⟨⟨s, t, hs, ht, rfl, rfl, hv⟩, hb⟩
    have hti : t ≠ i := by
      have : ((t : Int) != (i : Int)) = true := hb
      rw [bne_iff_ne] at this
      omega
    refine ⟨s, t, hs, ht, rfl, rfl, ?_⟩
    unfold seesR at hv ⊢
    rwa [plSee_tail hti] at hv
  · rintro ⟨s, t, hs, ht, rfl, rfl, hv⟩
    unfold seesR at hv
    have hti : t ≠ i := by
      rintro rfl
      rw [plSee_out hi] at hv; simp at hv
    refine ⟨⟨s, t, hs, ht, rfl, rfl, ?_⟩, ?_⟩
    · unfold seesR; rwa [plSee_tail hti]
    · show ((t : Int) != (i : Int)) = true
      rw [bne_iff_ne]; omega
theorem rep_start (h : List TxnV) (C : Nat) : Rep (seesR h C []) [] := ⟨List.nodup_nil, fun a b => by simp [seesR, plSee]⟩
section
variable {W : World} {S B b : Nat} {h : List TxnV} {C : Nat} {r : List Nat} {vb vr : Value} {aF sF : Nat → Nat} {w w' : World}
theorem PlIs.rowG (p : PlIs W S B b h C r vb vr aF sF w) (h64 : h.length ≤ 64) : RowG h C r := ⟨p.nd, fun k hk => by have := p.lt k hk; omega, p.base⟩
/-- The law's own row: it lies in a block of its own, or is full. -/
def RowL (base : Nat) (vl : Value) (l : List Nat) (w : World) : Prop := w.ownsRow base 3 1 vl l.length (l.map fun i : Nat => .int .i64 (i : Int)) ∨ ((∃ ao, vl = .slice ao l.length l.length) ∧ Row w vl l.length 1 (l.map fun i : Nat => .int .i64 (i : Int)) ∧ ∀ g, vl.ownBlock = some g → base ≤ g)
theorem RowL.ints {base : Nat} {vl : Value} {l : List Nat} (hr : RowL base vl l w) : Ints w vl (l.map Int.ofNat) := by
  rcases hr with q | ⟨_, q, _⟩
  · exact Ints.of_nats q
  · unfold Ints
    rw [ints_nat] at q
    rw [List.length_map]; exact q
theorem RowL.ge {base : Nat} {vl : Value} {l : List Nat} (hr : RowL base vl l w) : ∀ g, vl.ownBlock = some g → base ≤ g := by
  rcases hr with q | ⟨_, _, q⟩
  · exact fun g hg => (q.lt g hg).1
  · exact q
theorem RowL.less {base : Nat} {ro : Option Addr} {n rc i : Nat} {l : List Nat} (hr : RowL base (.slice ro n rc) (l ++ [i]) w) : RowL base (.slice ro l.length l.length) l w := by
  refine .inr ⟨⟨ro, rfl⟩, ?_, fun g hg => hr.ge g (by rw [own_len ro n l.length rc l.length]; exact hg)⟩
  have hI := hr.ints
  obtain ⟨_, ao', cap', e, hm, hno, hc⟩ := hI
  obtain ⟨rfl, _, _⟩ : ro = ao' ∧ n = _ ∧ rc = cap' := by simpa using e
  have hlen : ((l ++ [i]).map Int.ofNat).length = l.length + 1 := by simp
  rw [hlen] at hm hno hc
  refine ⟨by simp, ro, l.length, rfl, ⟨Nat.le_refl _, by omega⟩, fun e => by have := (hno e).1; omega, fun _ => ?_⟩
  obtain ⟨b, off, e2, hcell⟩ := hc (by omega)
  refine ⟨b, off, e2, fun j hj => (hcell j (by omega)).trans ?_⟩
  have hj' : j < l.length := by omega
  simp [List.getElem?_append_left, hj']
/-- All of it: the state, the row, and what is seen, each where the others are not. -/
structure LawSt (W : World) (S B b : Nat) (h : List TxnV) (C : Nat) (r : List Nat) (vb vr : Value) (aF sF : Nat → Nat) (vl vm : Value) (m : List Pr) (w : World) : Prop where
  p : PlIs W S B b h C r vb vr aF sF w
  row : RowL W.heap.size vl r.reverse w
  see : Prs w vm m
  rep : Rep (seesR h C r) m
  rx : ∀ g, vl.ownBlock = some g → g ≠ S ∧ vr.ownBlock ≠ some g ∧ vb.ownBlock ≠ some g
  sx : 0 < m.length → ∀ g, vm.ownBlock = some g → g ≠ S ∧ vr.ownBlock ≠ some g ∧ vl.ownBlock ≠ some g
  rlt : ∀ g, vl.ownBlock = some g → g < w.heap.size
theorem Prs.lt {vm : Value} {m : List Pr} (h : Prs w vm m) (hm : 0 < m.length) : ∀ g, vm.ownBlock = some g → g < w.heap.size := fun g hg => by
  obtain ⟨ao, cap, rfl, _⟩ := h.form
  obtain ⟨q, off, rfl, hc, _⟩ := h.at hm
  obtain rfl : q = g := by injection hg
  exact block_lt hc
/-- A block that is neither the state's nor one of its slices' may change. -/
theorem PlIs.far {row : Option Nat} (p : PlIs W S B b h C r vb vr aF sF w) (hg : w.grownBy w' row) (h1 : row ≠ some S) (h2 : ∀ g, vr.ownBlock = some g → row ≠ some g) (h3 : ∀ g, vb.ownBlock = some g → row ≠ some g) (h4 : ∀ g, row = some g → W.heap.size ≤ g) : PlIs W S B b h C r vb vr aF sF w' :=
  have k : ∀ v : Value, (∀ g, v.ownBlock = some g → row ≠ some g) → v.ownBlock = none ∨ v.ownBlock ≠ row := fun v hv => by
    rcases e : v.ownBlock with _ | g
    · exact .inl rfl
    · exact .inr (fun q => hv g e q.symm)
  ⟨p.o, p.t, p.bel.grown hg p.bel.size (fun k hk => h4 k hk), p.low, p.a.grown hg (fun e => h1 e.symm), p.ba.kept hg (k _ h3), p.rw.kept hg (k _ h2), p.ne, p.set, p.eq, p.nd, p.lt, p.base⟩
theorem RowL.kept {base : Nat} {vl : Value} {l : List Nat} (hr : RowL base vl l w) (hk : ∀ g, vl.ownBlock = some g → w'.heap[g]? = w.heap[g]?) : RowL base vl l w' := by
  rcases hr with ⟨q0, q⟩ | ⟨q0, ⟨q1, ao, cap, e, q2, q3, q4⟩, q5⟩
  · refine .inl ⟨q0, ?_⟩
    rcases q with q | ⟨g, cap, cur, e, h1, h2, h3⟩
    · exact .inl q
    · exact .inr ⟨g, cap, cur, e, h1, by rw [hk g (by rw [e]; rfl)]; exact h2, h3⟩
  · refine .inr ⟨q0, ⟨q1, ao, cap, e, q2, q3, fun hn => ?_⟩, q5⟩
    obtain ⟨g, off, e2, hc⟩ := q4 hn
    refine ⟨g, off, e2, fun i hi => ?_⟩
    rw [← hc i hi]
    have := hk g (by rw [e, e2]; rfl)
    simp only [World.cell?]
    rw [this]
theorem Prs.kept {vm : Value} {m : List Pr} (hr : Prs w vm m) (hk : 0 < m.length → ∀ g, vm.ownBlock = some g → w'.heap[g]? = w.heap[g]?) : Prs w' vm m := by
  obtain ⟨q1, ao, cap, e, q2, q3, q4⟩ := hr
  refine ⟨q1, ao, cap, e, q2, q3, fun hn => ?_⟩
  obtain ⟨g, off, e2, hc⟩ := q4 hn
  refine ⟨g, off, e2, fun i hi => ?_⟩
  rw [← hc i hi]
  have := hk hn g (by rw [e, e2]; rfl)
  simp only [World.cell?]
  rw [this]
/-- A step of the state leaves the law's own as it was. -/
theorem LawSt.step {vr2 vl vm : Value} {m : List Pr} (s : LawSt W S B b h C r vb vr aF sF vl vm m w) (k : PlStep S vr vr2 w w') :
    RowL W.heap.size vl r.reverse w' ∧ Prs w' vm m ∧ (∀ g, vl.ownBlock = some g → g ≠ S ∧ vr2.ownBlock ≠ some g ∧ vb.ownBlock ≠ some g) ∧ (0 < m.length → ∀ g, vm.ownBlock = some g → g ≠ S ∧ vr2.ownBlock ≠ some g ∧ vl.ownBlock ≠ some g) ∧ ∀ g, vl.ownBlock = some g → g < w'.heap.size := by
  have hn : ∀ g, vr.ownBlock ≠ some g → g < w.heap.size → vr2.ownBlock ≠ some g := fun g h1 h2 e => by
    rcases k.own g e with q | q
    · exact h1 q
    · omega
  refine ⟨s.row.kept fun g hg => k.block g (s.rlt g hg) (s.rx g hg).1 (s.rx g hg).2.1, s.see.kept fun hm g hg => k.block g (s.see.lt hm g hg) (s.sx hm g hg).1 (s.sx hm g hg).2.1, fun g hg => ⟨(s.rx g hg).1, hn g (s.rx g hg).2.1 (s.rlt g hg), (s.rx g hg).2.2⟩, fun hm g hg => ⟨(s.sx hm g hg).1, hn g (s.sx hm g hg).2.1 (s.see.lt hm g hg), (s.sx hm g hg).2.2⟩, fun g hg => Nat.lt_of_lt_of_le (s.rlt g hg) k.size⟩
theorem LawSt.below {vl vm : Value} {m : List Pr} (s : LawSt W S B b h C r vb vr aF sF vl vm m w) (hb : Below w.heap.size w w') : LawSt W S B b h C r vb vr aF sF vl vm m w' := by
  obtain ⟨a1, a2, a3, a4, a5⟩ := s.step (PlStep.of_below (S := S) (vr := vr) hb)
  exact ⟨s.p.below hb, a1, a2, s.rep, a3, a4, a5⟩
theorem LawSt.form {vl vm : Value} {m : List Pr} (s : LawSt W S B b h C r vb vr aF sF vl vm m w) : ∃ ao cap mo mcap, vl = .slice ao r.length cap ∧ vm = .slice mo m.length mcap ∧ r.length ≤ 9223372036854775807 ∧ m.length ≤ 4096 := by
  obtain ⟨ao, cap, e1, h1⟩ := s.row.ints.form
  obtain ⟨mo, mcap, e2, _⟩ := s.see.form
  rw [List.length_map, List.length_reverse] at e1 h1
  exact ⟨ao, cap, mo, mcap, e1, e2, h1, rep_len s.rep⟩
end
theorem run_append_rowl {w : World} {base : Nat} {vl : Value} {l : List Nat} (ty : TypeId) (hr : RowL base vl l w) (ad : Addr) (c k : Nat) (hnew : w.cell? ad = some (.int .i64 (k : Int))) (hl : l.length ≤ 1000) (hbase : base ≤ w.heap.size) :
    ∃ v' w', (Builtin.append_ #[32, 32] ty #[vl, .slice (some ad) 1 c]).run Tryz.prog w = .ok v' w' ∧ w'.ownsRow base 3 1 v' (l ++ [k]).length ((l ++ [k]).map fun i : Nat => .int .i64 (i : Int)) ∧ w.grownBy w' vl.ownBlock ∧ ∀ g, v'.ownBlock = some g → vl.ownBlock = some g ∨ w.heap.size ≤ g := by
  obtain ⟨i0, hi0, hz0, hz1, hz2⟩ := info_parts infoInt
  have hnews : ∀ j u, [Value.int .i64 (k : Int)][j]? = some u → w.cell? (ad.add j) = some u := fun j u hu => by
    cases j with
    | zero => simp at hu; subst hu; simpa [Addr.add] using hnew
    | succ j => simp at hu
  have hlen : (l ++ [k]).length = l.length + 1 := by simp
  have hmap : ((l ++ [k]).map fun i : Nat => Value.int .i64 (i : Int)) = (l.map fun i : Nat => Value.int .i64 (i : Int)) ++ [Value.int .i64 (k : Int)] := by simp
  rw [hlen, hmap]
  rcases hr with q | ⟨⟨ao, rfl⟩, ⟨hcl, ao', cap', e, hm, hno, hc⟩, hge⟩
  · obtain ⟨g, cap, w', hr, h2, h3, h4, h5⟩ := run_append_lies (P := Tryz.prog) w 32 ty base 3 i0 (.int .i64 0) 1 8 Tryz.underlying32 hi0 hz0 hz1 hz2 rfl (by decide) vl l.length _ q ad 1 c _ rfl hnews (by intro u hu; simp at hu; subst hu; rfl) (by decide) (by unfold maxLen; omega) (by omega) hbase _ rfl
    refine ⟨_, w', hr, h2, h3, fun g' hg' => ?_⟩
    obtain rfl : g = g' := by injection hg'
    exact h4.imp id (fun e => by omega)
  · obtain ⟨rfl, _⟩ : ao = ao' ∧ l.length = cap' := by simpa using e
    cases ao with
    | none =>
      have h0 := (hno rfl).1
      have hl0 : l = [] := List.length_eq_zero_iff.1 h0
      subst hl0
      obtain ⟨g, cap, w', hr, h2, h3, h4, h5⟩ := run_append_lies (P := Tryz.prog) w 32 ty base 3 i0 (.int .i64 0) 1 8 Tryz.underlying32 hi0 hz0 hz1 hz2 rfl (by decide) (.slice none 0 0) 0 [] (World.ownsRow_nil _ _ _ _) ad 1 c _ rfl hnews (by intro u hu; simp at hu; subst hu; rfl) (by decide) (by unfold maxLen; omega) (by omega) hbase _ rfl
      refine ⟨_, w', hr, h2, h3, fun g' hg' => ?_⟩
      obtain rfl : g = g' := by injection hg'
      exact h4.imp id (fun e => by omega)
    | some b =>
      have holds : ∀ j u, (l.map fun i : Nat => Value.int .i64 (i : Int))[j]? = some u → w.cell? (b.add j) = some u := fun j u hu => by
        have hj : j < l.length := by
          have := (List.getElem?_eq_some_iff.1 hu).1
          simpa using this
        obtain ⟨g, off, e2, hcell⟩ := hc (by omega)
        obtain rfl : b = ⟨g, off, none⟩ := by injection e2
        rw [Addr.add_lit]
        exact (hcell j (by omega)).trans hu
      obtain ⟨v', w', hr, h2, h3⟩ := run_append_arg_grows (P := Tryz.prog) w 32 ty 3 i0 (.int .i64 0) 1 8 Tryz.underlying32 hi0 hz0 hz1 hz2 rfl (by decide) b l.length l.length _ (by simp) holds ad 1 c _ rfl hnews (by omega) (by unfold maxLen; omega) (by omega)
      refine ⟨v', w', hr, ⟨h2.1, h2.2.imp id fun ⟨g, cap, cur, a1, a2, a3⟩ => ⟨g, cap, cur, a1, Nat.le_trans hbase a2, a3⟩⟩, ⟨h3.os, h3.tape, h3.output, h3.size, fun j hj _ => h3.block j hj (by simp)⟩, fun g hg => .inr (h2.lt g hg).1⟩
/-- Append to the law's own row, for the walk. -/
theorem wpList_append_rowl (w : World) {ops : Array Oper} {rest : List Oper} {o : Oper} {a : Act} {Q : Exit → Act → World → Prop} (hgd : o.guard = none) (s x : Operand)
    (ho : o.op = .call { callee := .builtin .append, args := #[s, x], argTypes := #[32, 32] }) {base : Nat} {vl : Value} {l : List Nat} (hs : a.eval s = vl) (hr : RowL base vl l w) (ad : Addr) (c k : Nat) (hx : a.eval x = .slice (some ad) 1 c)
    (hnew : w.cell? ad = some (.int .i64 (k : Int))) (hl : l.length ≤ 1000) (hbase : base ≤ w.heap.size)
    (h : ∀ v' w', w'.ownsRow base 3 1 v' (l ++ [k]).length ((l ++ [k]).map fun i : Nat => .int .i64 (i : Int)) → w.grownBy w' vl.ownBlock → (∀ g, v'.ownBlock = some g → vl.ownBlock = some g ∨ w.heap.size ≤ g) → wpList Tryz.prog ops Q rest (a.put o.dst v') w') : wpList Tryz.prog ops Q (o :: rest) a w := by
  refine wpList_plain hgd fun _ hK => ?_
  obtain ⟨v', w', hrun, h2, h3, h4⟩ := run_append_rowl o.type hr ad c k hnew hl hbase
  unfold Oper.wp execOp
  simp only [ho, resolve, invoke, builtin, Sem.run_bind, Sem.run_pure, Result.andThen_ok, List.map_toArray, List.map_cons, List.map_nil, hs, hx, hrun]
  exact hK _ _ (h v' w' h2 h3 h4)
end Go.Proofs.YtfancjmhdbaoeaaGreatDoor

namespace Go.Proofs.YtfancjmhdbaoeaaGreatDoor
set_option maxRecDepth 100000
open Go.RowKit

def hasI (k : Nat) (t : Int) : Bool := hasT k t.toNat
theorem rl_hasI (k : Nat) (hk : k < 64) (t : Int) (w : World) (ht : 0 < t) (ht2 : t ≤ 32) : Calls Tryz.prog 86 #[.int .i64 k, .int .i64 t] w fun e w' => e = .returned (.bool (hasI k t)) ∧ w = w' := by
  obtain ⟨n, rfl⟩ := Int.eq_ofNat_of_zero_le (Int.le_of_lt ht)
  exact rl_has k n hk (by omega) (by omega) w
def clV (h16 h4 h32 h1 h2 h8 : Bool) : Int :=
  (if h1 || h32 then 1 else 0) + (if h2 || (h4 || h16) then 2 else 0) + (if h4 || h16 then 4 else 0) + (if h8 || h16 then 8 else 0) + (if h16 then 16 else 0) + (if h32 then 32 else 0)
theorem clV_eq : ∀ k : Fin 64, ((clN k.val : Nat) : Int) = clV (hasI k.val 16) (hasI k.val 4) (hasI k.val 32) (hasI k.val 1) (hasI k.val 2) (hasI k.val 8) := by decide +kernel
set_option maxHeartbeats 8000000 in
theorem rl_closed (k : Nat) (hk : k < 64) (w : World) : Calls Tryz.prog 26 #[.int .i64 k] w fun e w' => e = .returned (.int .i64 (clN k)) ∧ w = w' := by
  have H := clV_eq ⟨k, hk⟩
  have C := Lib.hid (rl_hasI k hk)
  simp only at H
  cases h16 : hasI k 16 <;> cases h4 : hasI k 4 <;> cases h32 : hasI k 32 <;> cases h1 : hasI k 1 <;> cases h2 : hasI k 2 <;> cases h8 : hasI k 8
  all_goals
    rw [h16, h4, h32, h1, h2, h8] at H
    have HH := Lib.hid H
    clear H
    rw [HH.out]
    clear HH
    go_enter Tryz.func26, Tryz.ntmps26
    go_wp2_with (go_at_call 86; refine (C.out _ _ (by omega) (by omega)).mono ?_; rintro e w' ⟨rfl, rfl⟩)
    go_ret
    exact ⟨rfl, rfl⟩
end Go.Proofs.YtfancjmhdbaoeaaGreatDoor

namespace Go.Proofs.YtfancjmhdbaoeaaGreatDoor
set_option maxRecDepth 100000
open Go.RowKit

theorem closed_and (x : Int) (w : World) : Calls Tryz.prog 26 #[.int .i64 (bits .and .i64 x 63)] w fun e w' => e = .returned (.int .i64 (clI x)) ∧ w = w' := by
  have h := rl_closed (x % 64).toNat (by omega) w
  rw [and63]
  rwa [show (((x % 64).toNat : Nat) : Int) = x % 64 by omega] at h
set_option maxRecDepth 100000 in
set_option maxHeartbeats 32000000 in
theorem tries14_walk (vh vb va : Value) (h : List TxnV) (acts : List (Int × Bool)) (a : Nat) (w : World) (ht : Tab w) (hT : Txns w vh h) (hok : ∀ t ∈ h, t.ok) (hsh : Short h) (hA : Acts w va acts) (ha : a < 256) :
    Calls Tryz.prog 6 #[.agg #[vh, .int .u8 a, vb], va] w fun e w' => e = .returned (.bool true) ∧ Below w.heap.size w w' := by
  have hg := ht.pos
  have HT : Hid (∀ wx, Below w.heap.size w wx → Tab wx) := Lib.hid (fun wx hb => ht.below hb hg)
  have HH := Lib.hid (fun wx (hx : Below w.heap.size w wx) => hT.below hx)
  have HAC := Lib.hid (fun wx (hx : Below w.heap.size w wx) => hA.below hx)
  obtain ⟨ao, cap, rfl, hal⟩ := hT.form
  obtain ⟨co, ccap, rfl, hcl⟩ := hA.form
  have HOK := Lib.hid hok
  have HSH := Lib.hid hsh
  have hbx := box_below w (.cells #[.slice ao h.length cap, .int .u8 a, vb] 25)
  have hC0 : CaseS w.heap.size (.slice ao h.length cap) a vb (w.alloc (.cells #[.slice ao h.length cap, .int .u8 a, vb] 25)) := by
    refine ⟨?_, ?_, ?_⟩ <;> (rw [cell_of_row _ _ _ _ _ _ (heap_alloc_new w _)]; rfl)
  clear ht hT hok hA
  go_enter Tryz.func6, Tryz.ntmps6
  go_upto_region 1 with fail
  generalize w.alloc (.cells #[.slice ao h.length cap, .int .u8 a, vb] 25) = w0 at *
  go_wp2_with fail
  refine (speaks14_any _ (HT.out _ hbx)).mono ?_
  rintro e w1 ⟨rfl, hb1⟩
  have hC1 := hC0.below hb1
  have hb1 := below_then hbx hb1
  obtain ⟨n0, n1, n2⟩ := hC1
  go_wp2_with fail
  refine (small_any _ h _ (HH.out _ hb1) HSH.out).mono ?_
  rintro e w2 ⟨rfl, hb2⟩
  have hC2 := CaseS.below ⟨n0, n1, n2⟩ hb2
  have hb2 := below_then hb1 hb2
  clear n0 n1 n2 hb1 hC0 hbx
  by_cases hs : smallI h = 0
  · rw [hs]
    go_wp2_with fail
    go_ret
    exact ⟨rfl, hb2⟩
  obtain ⟨h7, hc, h1⟩ := small_no hs
  rw [h1]
  clear hs h1
  by_cases h80 : (80 : Int) < (acts.length : Int)
  · go_wp2_with fail
    go_ret
    exact ⟨rfl, hb2⟩
  have CO := Lib.hid (of_done _ h w2 (HH.out _ hb2) HOK.out HSH.out hc)
  have HC := Lib.hid hc
  clear hc hsh
  obtain ⟨n0, n1, n2⟩ := hC2
  go_wp2_with fail
  refine (CO.out).mono ?_
  rintro e w3 ⟨⟨B, rfl, hB, hO⟩, hb3⟩
  have hC3 := CaseS.below ⟨n0, n1, n2⟩ hb3
  have hb3 := below_then hb2 hb3
  have hwa : IntKind.i64.wrap (a : Int) = (a : Int) := by rw [IntKind.wrap_i64]; omega
  have CN := Lib.hid (fun wx (hx : Below w3.heap.size w3 wx) => pnew_any (a : Int) h B (B + 2) wx (hO.below hx) HC.out (HT.out _ (hb3.trans (hx.mono hb3.size))))
  have CCL := Lib.hid (closed_and (a : Int))
  have HS := Lib.hid (fun wx (hx : Below w3.heap.size w3 wx) => hC3.below hx)
  have HW := Lib.hid (fun wx (hx : Below w3.heap.size w3 wx) => hb3.trans (hx.mono hb3.size))
  have HCL : Hid (clI (a : Int) < 64) := Lib.hid (clI_lt (a : Int))
  clear n0 n1 n2 hb2 CO hB hO
  obtain ⟨n0, n1, n2⟩ := hC3
  go_upto_region 8 with fail
  clear n0 n1 n2
  have kd := (Below.refl w3.heap.size w3).drew
  refine wp_region_held_drew (S := Below w3.heap.size w3) (by kernel_rfl) kd (fun hS0 => ?_)
  refine takeG (some 41) (i := 0) (v := ?vpy0x1) rfl rfl (by kernel_rfl) (by kernel_rfl) (by kernel_rfl) (fun _ _ _ h => h) (Or.inl ⟨by rfl, ?hpy0x1⟩) hS0 ?rpy0x1
  case hpy0x1 => (intro w _; go_simp; try (with_reducible rfl))
  try simp only [Act.put, List.setIfInBounds_toArray, List.set_cons_zero, List.set_cons_succ]
  refine takeG (some 42) (i := 1) (v := ?vpy1x2) rfl rfl (by kernel_rfl) (by kernel_rfl) (by kernel_rfl) (fun _ _ _ h => h) (Or.inl ⟨by rfl, ?hpy1x2⟩) hS0 ?rpy1x2
  case hpy1x2 => (intro w _; go_simp; try (with_reducible rfl))
  try simp only [Act.put, List.setIfInBounds_toArray, List.set_cons_zero, List.set_cons_succ]
  refine takeG (some 43) (i := 2) (v := ?vpy2x3) rfl rfl (by kernel_rfl) (by kernel_rfl) (by kernel_rfl) (fun _ _ _ h => h) (Or.inl ⟨by rfl, ?hpy2x3⟩) hS0 ?rpy2x3
  case hpy2x3 => (intro w hz; obtain ⟨z0, z1, z2⟩ := HS.out w hz; go_simp; try (with_reducible rfl))
  try simp only [Act.put, List.setIfInBounds_toArray, List.set_cons_zero, List.set_cons_succ]
  refine takeG (some 44) (i := 3) (v := ?vpy3x4) rfl rfl (by kernel_rfl) (by kernel_rfl) (by kernel_rfl) (fun _ _ _ h => h) (Or.inl ⟨by rfl, ?hpy3x4⟩) hS0 ?rpy3x4
  case hpy3x4 => (intro w _; go_simp; try (with_reducible rfl))
  try simp only [Act.put, List.setIfInBounds_toArray, List.set_cons_zero, List.set_cons_succ]
  refine takeG (some 46) (i := 5) (v := ?vpy5x5) rfl rfl (by kernel_rfl) (by kernel_rfl) (by kernel_rfl) (fun _ _ _ h => h) (Or.inl ⟨by rfl, ?hpy5x5⟩) hS0 ?rpy5x5
  case hpy5x5 => (intro w _; go_simp; try (with_reducible rfl))
  try simp only [Act.put, List.setIfInBounds_toArray, List.set_cons_zero, List.set_cons_succ]
  refine takeG (some 47) (i := 6) (v := ?vpy6x6) rfl rfl (by kernel_rfl) (by kernel_rfl) (by kernel_rfl) (fun _ _ _ h => h) (Or.inl ⟨by rfl, ?hpy6x6⟩) hS0 ?rpy6x6
  case hpy6x6 => (intro w hz; obtain ⟨z0, z1, z2⟩ := HS.out w hz; go_simp; try (with_reducible rfl))
  try simp only [Act.put, List.setIfInBounds_toArray, List.set_cons_zero, List.set_cons_succ]
  refine takeG (some 48) (i := 7) (v := ?vpy7x7) rfl rfl (by kernel_rfl) (by kernel_rfl) (by kernel_rfl) (fun _ _ _ h => h) (Or.inl ⟨by rfl, ?hpy7x7⟩) hS0 ?rpy7x7
  case hpy7x7 => (intro w _; go_simp; try (with_reducible rfl))
  try simp only [Act.put, List.setIfInBounds_toArray, List.set_cons_zero, List.set_cons_succ]
  refine takeG (some 49) (i := 8) (v := ?vpy8x8) rfl rfl (by kernel_rfl) (by kernel_rfl) (by kernel_rfl) (fun _ _ _ h => h) (Or.inl ⟨by rfl, ?hpy8x8⟩) hS0 ?rpy8x8
  case hpy8x8 => (intro w _; go_simp; try (with_reducible rfl))
  try simp only [Act.put, List.setIfInBounds_toArray, List.set_cons_zero, List.set_cons_succ]
  refine wpAnyH_ready (rs := [4]) (by kernel_rfl) (by simp) ?_
  refine AllReadyH.cons rfl (fun K hK => ?_) AllReadyH.nil
  go_simp
  refine (CN.out _ hS0).mono ?_
  rintro e y9 ⟨S, vb2, aF, sF, rfl, p⟩
  show K _ _
  have s9 := below_then hS0 p.bel
  have HW2 := Lib.hid hS0
  refine hK.out _ _ s9 (fun _ => ?_)
  clear hK K
  refine wpAnyH_ready (rs := [9]) (by kernel_rfl) (by simp) ?_
  refine AllReadyH.cons rfl (fun K hK => ?_) AllReadyH.nil
  go_simp
  refine (CCL.out _).mono ?_
  rintro e yq ⟨rfl, rfl⟩
  show K _ _
  refine hK.out _ _ s9 (fun _ => ?_)
  clear hK K
  refine takeG (some 7) (i := 10) (v := ?vpy10x11) rfl rfl (by kernel_rfl) (by kernel_rfl) (by kernel_rfl) (fun _ _ _ h => h) (Or.inl ⟨by rfl, ?hpy10x11⟩) s9 ?rpy10x11
  case hpy10x11 => (intro w _; go_simp; try (with_reducible rfl))
  try simp only [Act.put, List.setIfInBounds_toArray, List.set_cons_zero, List.set_cons_succ]
  refine takeG (some 8) (i := 11) (v := ?vpy11x12) rfl rfl (by kernel_rfl) (by kernel_rfl) (by kernel_rfl) (fun _ _ _ h => h) (Or.inl ⟨by rfl, ?hpy11x12⟩) s9 ?rpy11x12
  case hpy11x12 => (intro w _; go_simp; try (with_reducible rfl))
  try simp only [Act.put, List.setIfInBounds_toArray, List.set_cons_zero, List.set_cons_succ]
  refine wpAnyH_done (by kernel_rfl) ?_ _
  obtain ⟨W, p, HW3⟩ : ∃ W, PlIs W S B (B + 2) h (clI (a : Int)) [] vb2 (.slice none 0 0) aF sF y9 ∧ Hid (Below w3.heap.size w3 W) := ⟨_, p, HW2⟩
  clear HW2
  generalize y9 = w4 at *
  clear kd
  have CA := Lib.hid (pasks_any p)
  go_wp2_with fail
  refine (CA.out).mono ?_
  rintro e w5 ⟨rfl, rfl⟩
  have HSW := Lib.hid (fun wx (hx : Below W.heap.size W wx) => HS.out wx (HW3.out.trans (hx.mono HW3.out.size)))
  clear CA CN CCL HS hwa
  generalize clI (a : Int) = C at *
  have HWF := Lib.hid (fun wx (hx : Below W.heap.size W wx) => HW.out _ (HW3.out.trans (hx.mono HW3.out.size)))
  have h64 := (check_zero HC.out).1
  have hs0 : LawSt W S B (B + 2) h C [] vb2 (.slice none 0 0) aF sF (.slice none 0 0) (.slice (some ⟨w4.heap.size, 0, none⟩) 0 0) [] (w4.alloc (.cells #[] 65)) := by
    refine ⟨p.below ((Below.refl _ _).alloc (Nat.le_refl _) _), .inl (World.ownsRow_nil _ _ _ _), Prs.of_owns (l := []) (base := 0) (World.ownsRow_lit (size := 2) _ _ _ (Nat.zero_le _) (by simp) (by simp)), rep_start h C, fun g e => (by cases e), fun hm => (by simp at hm), fun g e => (by cases e)⟩
  clear p HW HW3
  go_upto_region 13 with fail
  generalize w4.alloc (.cells #[] 65) = w5 at *
  go_wp2_with fail
  go_loopw [9, 10, 62] (fun rv mv kv wr => ∃ (k : Nat) (r : List Nat) (vr : Value) (aF sF : Nat → Nat) (m : List Pr), k ≤ acts.length ∧ kv = .int .i64 k ∧ LawSt W S B (B + 2) h C r vb2 vr aF sF rv mv m wr) (fun _ _ kv _ => acts.length - (intOf kv).toNat)
  case atStart => exact ⟨0, [], _, _, _, [], by omega, rfl, hs0⟩
  case round =>
    clear hs0
    obtain ⟨k, r, vr, aF, sF, m, hk, rfl, hst⟩ := hrel
    by_cases hkl : k < acts.length
    · have hkk : (k : Int) < (acts.length : Int) := by omega
      obtain ⟨ga, oa, hao, e0, e1⟩ := (HAC.out _ (HWF.out _ hst.p.bel)).at hkl
      cases hao
      generalize acts[k].1 = I at *
      generalize acts[k].2 = bk at *
      have hSw : S < wr.heap.size := hst.p.a.lt
      have hvw : ∀ g, vr.ownBlock = some g → g < wr.heap.size := fun g hg => (hst.p.rw.lt g hg).2
      have hst := hst.below ((Below.refl wr.heap.size wr).alloc (Nat.le_refl _) (.cells #[.int .i64 I, .bool bk] 63))
      have c0 : (wr.alloc (.cells #[.int .i64 I, .bool bk] 63)).cell? ⟨wr.heap.size, 0, none⟩ = some (.int .i64 I) := by rw [cell_of_row _ _ _ _ _ _ (heap_alloc_new wr _)]; rfl
      have c1 : (wr.alloc (.cells #[.int .i64 I, .bool bk] 63)).cell? ⟨wr.heap.size, 1, none⟩ = some (.bool bk) := by rw [cell_of_row _ _ _ _ _ _ (heap_alloc_new wr _)]; rfl
      go_upto_region 16 with fail
      generalize wr.alloc (.cells #[.int .i64 I, .bool bk] 63) = w6 at *
      clear e0 e1
      obtain ⟨ro, rc, mo, mc, rfl, rfl, hrl, hml⟩ := hst.form
      cases bk with
      | true =>
        cases r with
        | nil =>
          have CU := Lib.hid (pundo_nil hst.p)
          go_wp2_with fail
          refine (CU.out).mono ?_
          rintro e w7 ⟨rfl, rfl⟩
          clear CU c0 c1
          have CS := Lib.hid (same14_any hst.p h64 _ _ _ m (HH.out _ (HWF.out _ hst.p.bel)) hst.row.ints hst.see hst.rep)
          obtain ⟨n0, n1, n2⟩ := HSW.out _ hst.p.bel
          go_wp2_with fail
          refine (CS.out).mono ?_
          rintro e w9 ⟨rfl, h9⟩
          have hst := hst.below h9
          clear CS n0 n1 n2 h9
          go_wp2_with fail
          go_roundw
          case rel => exact ⟨k + 1, _, _, _, _, _, by omega, by go_num, hst⟩
          case measure => simp [intOf]; omega
        | cons i r =>
          have hnd := hst.p.nd
          have hir : i ∉ r := (List.nodup_cons.1 hnd).1
          have CU := Lib.hid (pundo_cons hst.p h64)
          have hpos : (0 : Int) < (r.length : Int) + 1 := by omega
          have hpos2 : (0 : Int) ≤ (r.length : Int) := by omega
          rw [List.length_cons] at hrl
          go_wp2_with fail
          refine (CU.out).mono ?_
          rintro e w7 ⟨rfl, vr2, p2, k7⟩
          obtain ⟨l1, l2, l3, l4, l5⟩ := hst.step k7
          have HRL := Lib.hid (rep_left hir hst.rep)
          clear CU c0 c1 hst k7 hnd
          have HVM := Lib.hid (fun wx (hx : Below w7.heap.size w7 wx) => l2.below hx)
          have HVR := Lib.hid (fun wx (hx : Below w7.heap.size w7 wx) => l1.ints.below hx)
          have hown0 : w7.ownsRow w7.heap.size 65 2 (.slice none 0 0) (leftP (i : Int) (m.take 0)).length (prV (leftP (i : Int) (m.take 0))) := World.ownsRow_nil _ _ _ _
          have hb := Below.refl w7.heap.size w7
          go_wp2_with fail
          go_loopw [14, 81] (fun lv jv wx => ∃ j : Nat, j ≤ m.length ∧ jv = .int .i64 j ∧ wx.ownsRow w7.heap.size 65 2 lv (leftP (i : Int) (m.take j)).length (prV (leftP (i : Int) (m.take j))) ∧ Below w7.heap.size w7 wx) (fun _ jv _ => m.length - (intOf jv).toNat)
          case atStart => exact ⟨0, by omega, rfl, hown0, hb⟩
          case round =>
            clear hb hown0
            obtain ⟨j, hj, rfl, hown, hb⟩ := hrel
            by_cases hjl : j < m.length
            · have hji : (j : Int) < (m.length : Int) := by omega
              obtain ⟨gm, om, hao, d0, d1⟩ := (HVM.out _ hb).at hjl
              cases hao
              obtain ⟨gr, og, hao, e0⟩ := ints_at (HVR.out _ hb) (k := r.length) (by simp)
              cases hao
              rw [show (i :: r).reverse[r.length]'(by simp) = i by simp] at e0
              have hli : (r.length : Int) < (r.length : Int) + 1 := by omega
              have HLT := Lib.hid (left_take (i : Int) m j hjl)
              have hll := left_len (i : Int) (m.take j)
              rw [List.length_take] at hll
              have HLL : Hid ((leftP (i : Int) (m.take j)).length ≤ 4096) := Lib.hid (by omega)
              clear hll
              generalize m[j] = z at *
              obtain ⟨x, y⟩ := z
              simp only at d0 d1 HLT
              generalize leftP (i : Int) (m.take j) = LF at *
              have p0 : (wr.alloc (.cells #[.int .i64 x, .int .i64 y] 65)).cell? ⟨wr.heap.size, 0, none⟩ = some (.int .i64 x) := by rw [cell_of_row _ _ _ _ _ _ (heap_alloc_new wr _)]; rfl
              have p1 : (wr.alloc (.cells #[.int .i64 x, .int .i64 y] 65)).cell? ⟨wr.heap.size, 1, none⟩ = some (.int .i64 y) := by rw [cell_of_row _ _ _ _ _ _ (heap_alloc_new wr _)]; rfl
              have ha := (Below.refl wr.heap.size wr).alloc (Nat.le_refl _) (.cells #[.int .i64 x, .int .i64 y] 65)
              have hb8 := below_then hb ha
              have hown8 := hown.alloc (.cells #[.int .i64 x, .int .i64 y] 65)
              have e8 := (ha.cell (p := ⟨gr, og + r.length, none⟩) (block_lt e0)).trans e0
              go_upto_region 25 with fail
              generalize wr.alloc (.cells #[.int .i64 x, .int .i64 y] 65) = w8 at *
              clear d0 d1 e0 hb hown ha
              go_quiet (fail)
              have hb9 := below_drewN hb8 nq
              have hd := below_drewN (Below.refl w8.heap.size w8) nq
              have p0 := (hd.cell (p := ⟨wr.heap.size, 0, none⟩) (block_lt p0)).trans p0
              have p1 := (hd.cell (p := ⟨wr.heap.size, 1, none⟩) (block_lt p1)).trans p1
              have hown9 := owns_below hown8 hd
              generalize w8.drewN nq = w9 at *
              clear hb8 hown8 hd e8
              by_cases hy : y = (i : Int)
              · rw [if_pos hy] at HLT
                have hyb : (y != (i : Int)) = false := by rw [hy]; simp
                go_wp2_with fail
                go_roundw
                case rel => exact ⟨j + 1, by omega, by go_num, by rw [HLT.out]; exact hown9, hb9⟩
                case measure => simp [intOf]; omega
              · rw [if_neg hy] at HLT
                have hyb : (y != (i : Int)) = true := by rw [bne_iff_ne]; exact hy
                obtain ⟨i0, hi0, hz0, hz1, hz2⟩ := info_parts infoPair
                have hLL := HLL.out
                go_wp2_with (at_builtin; refine wpList_append_row rfl _ _ 41 rfl w7.heap.size 65 i0 (.agg #[.int .i64 0, .int .i64 0]) 2 16 Tryz.underlying41 hi0 hz0 hz1 hz2 rfl (by decide) _ _ _ rfl (hown9.alloc _) _ 1 _ rfl (Row.of_owns (Prs.lit w9 0 x y (Nat.zero_le _))) ?d1 ?d2 ?d3 ?d4 ?_)
                case d1 => exact prV_oneCell _
                case d2 => unfold maxLen; omega
                case d3 => omega
                case d4 => have := hb9.size; simp; omega
                intro v10 w10 hown10 hg10
                have hb10 := below_app hb9 (Nat.le_refl _) hown9 hg10
                rw [← prV_append] at hown10
                clear hg10 hown9 hb9 p0 p1
                go_wp2_with fail
                go_roundw
                case rel => exact ⟨j + 1, by omega, by go_num, by rw [HLT.out, List.length_append]; exact hown10, hb10⟩
                case measure => simp [intOf]; omega
            · have hjn : j = m.length := by omega
              subst hjn
              rw [List.take_length] at hown
              have hrc : r.length ≤ rc := by
                obtain ⟨_, cap', e, hm, _⟩ := l1.ints.full
                have e2 : rc = cap' := by injection e
                rw [List.length_map, List.length_reverse, List.length_cons] at hm
                omega
              have hrci : (r.length : Int) ≤ (rc : Int) := by omega
              have hst : LawSt W S B (B + 2) h C r vb2 vr2 aF sF (.slice ro r.reverse.length r.reverse.length) u14 (leftP (i : Int) m) wr := by
                have hk : RowL W.heap.size (.slice ro (i :: r).length rc) (r.reverse ++ [i]) wr := by
                  have := l1.kept (w' := wr) fun g hg => hb.block g (l5 g hg)
                  rwa [List.reverse_cons] at this
                refine ⟨p2.below hb, hk.less, Prs.of_owns hown, HRL.out, fun g hg => l3 g (by rw [own_len ro _ r.reverse.length rc r.reverse.length]; exact hg), fun _ g hg => ?_, fun g hg => Nat.lt_of_lt_of_le (l5 g (by rw [own_len ro _ r.reverse.length rc r.reverse.length]; exact hg)) hb.size⟩
                have h1 := (hown.lt g hg).1
                exact ⟨by have := p2.a.lt; omega, fun q => by have := (p2.rw.lt g q).2; omega, fun q => by have := l5 g (by rw [own_len ro _ r.reverse.length rc r.reverse.length]; exact q); omega⟩
              rw [List.length_reverse] at hst
              clear l1 l2 l3 l4 l5 HRL HVM HVR p2 hb hown
              obtain ⟨lo, lc, hu14, _⟩ := hst.see.form
              subst hu14
              go_upto_region 35 with fail
              have CS := Lib.hid (same14_any hst.p h64 _ _ _ _ (HH.out _ (HWF.out _ hst.p.bel)) hst.row.ints hst.see hst.rep)
              obtain ⟨n0, n1, n2⟩ := HSW.out _ hst.p.bel
              go_wp2_with fail
              refine (CS.out).mono ?_
              rintro e w9 ⟨rfl, h9⟩
              have hst := hst.below h9
              clear CS n0 n1 n2 h9
              go_wp2_with fail
              go_roundw
              case rel => exact ⟨k + 1, _, _, _, _, _, by omega, by go_num, hst⟩
              case measure => simp [intOf]; omega
      | false =>
        have CM := Lib.hid (may14_any _ _ _ h C HCL.out r m I HC.out hst.p.lt (hst.p.rowG h64) w6 (HH.out _ (HWF.out _ hst.p.bel)) hst.row.ints hst.see hst.rep)
        obtain ⟨n0, n1, n2⟩ := HSW.out _ hst.p.bel
        cases htr : tryI h C r I with
        | false =>
          rw [htr] at CM
          go_wp2_with fail
          refine (CM.out).mono ?_
          rintro e w7 ⟨rfl, h7⟩
          have hst := hst.below h7
          have c0 := (h7.cell (p := ⟨wr.heap.size, 0, none⟩) (block_lt c0)).trans c0
          have CT := Lib.hid (ptry_no hst.p HC.out (by have := HCL.out; omega) I htr)
          clear CM n0 n1 n2 c1 h7
          go_wp2_with fail
          refine (CT.out).mono ?_
          rintro e w8 ⟨rfl, h8⟩
          have hst := hst.below h8
          clear CT c0 h8
          have CS := Lib.hid (same14_any hst.p h64 _ _ _ m (HH.out _ (HWF.out _ hst.p.bel)) hst.row.ints hst.see hst.rep)
          obtain ⟨n0, n1, n2⟩ := HSW.out _ hst.p.bel
          go_wp2_with fail
          refine (CS.out).mono ?_
          rintro e w9 ⟨rfl, h9⟩
          have hst := hst.below h9
          clear CS n0 n1 n2 h9
          go_wp2_with fail
          go_roundw
          case rel => exact ⟨k + 1, _, _, _, _, _, by omega, by go_num, hst⟩
          case measure => simp [intOf]; omega
        | true =>
          rw [htr] at CM
          obtain ⟨i, rfl⟩ : ∃ i : Nat, I = (i : Int) := by
            unfold tryI at htr
            rw [Bool.and_eq_true, decide_eq_true_eq] at htr
            exact ⟨I.toNat, by omega⟩
          rw [tryI_nat] at htr
          obtain ⟨hin, hir⟩ := tryP_out htr
          have hbs : ∀ j, (baseN h C i).testBit j = true → (plS r).testBit j = true := by
            unfold tryP at htr
            simp only [Bool.and_eq_true] at htr
            exact (inB_bits (baseN_set h C i)).1 htr.2.2.1
          have hg := hst.p.rowG h64
          have hlt := hst.p.lt
          go_wp2_with fail
          refine (CM.out).mono ?_
          rintro e w7 ⟨rfl, h7⟩
          have hst := hst.below h7
          have c0 := (h7.cell (p := ⟨wr.heap.size, 0, none⟩) (block_lt c0)).trans c0
          have CT := Lib.hid (ptry_yes hst.p HC.out (by have := HCL.out; omega) i htr)
          clear CM n0 n1 n2 c1 h7 htr
          go_wp2_with fail
          refine (CT.out).mono ?_
          rintro e w8 ⟨rfl, vr2, aF2, sF2, p2, k8⟩
          obtain ⟨l1, l2, l3, l4, l5⟩ := hst.step k8
          have hcl := block_lt c0
          simp only at hcl
          have c0 : w8.cell? ⟨wr.heap.size, 0, none⟩ = some (.int .i64 (i : Int)) := by
            rw [← c0]
            simp only [World.cell?]
            rw [k8.block wr.heap.size hcl (fun e => by omega) (fun e => by have := hvw _ e; omega)]
          have hvl8 : ∀ g, vr2.ownBlock = some g → g < w8.heap.size := fun g hg => (p2.rw.lt g hg).2
          have k8s := p2.a.lt
          have CW := Lib.hid (with14_any _ _ _ h C HCL.out r m i HC.out hin hir hlt hg hbs w8 (HH.out _ (HWF.out _ p2.bel)) l1.ints l2 hst.rep)
          obtain ⟨n0, n1, n2⟩ := HSW.out _ p2.bel
          clear CT hst k8 hcl hbs hg hlt
          go_wp2_with fail
          refine (CW.out).mono ?_
          rintro e w9 ⟨⟨v2, m2, rfl, hm2, hR2, ho2⟩, h9⟩
          have c0 := (h9.cell (p := ⟨wr.heap.size, 0, none⟩) (block_lt c0)).trans c0
          have p2 := p2.below h9
          clear CW n0 n1 n2
          have l1 : RowL W.heap.size (.slice ro r.length rc) r.reverse w9 := l1.kept fun g hg => h9.block g (l5 g hg)
          have hW9 := p2.bel.size
          have hs9 := h9.size
          have HF : Hid (∀ (v' : Value) (w' : World), w'.ownsRow W.heap.size 3 1 v' (r.reverse ++ [i]).length ((r.reverse ++ [i]).map fun i : Nat => .int .i64 (i : Int)) → (w9.alloc (.cells #[.int .i64 (i : Int)] 3)).grownBy w' (Value.slice ro r.length rc).ownBlock → (∀ g, v'.ownBlock = some g → (Value.slice ro r.length rc).ownBlock = some g ∨ (w9.alloc (.cells #[.int .i64 (i : Int)] 3)).heap.size ≤ g) → LawSt W S B (B + 2) h C (i :: r) vb2 vr2 aF2 sF2 v' v2 m2 w') := Lib.hid (fun v' w' q1 q2 q3 => by
            have hsz : (w9.alloc (.cells #[.int .i64 (i : Int)] 3)).heap.size = w9.heap.size + 1 := by simp
            have hkeep : ∀ g, g < w9.heap.size → (Value.slice ro r.length rc).ownBlock ≠ some g → w'.heap[g]? = w9.heap[g]? := fun g h1 h2 => by
              rw [q2.block g (by omega) (fun e => h2 e.symm)]
              exact ((Below.refl w9.heap.size w9).alloc (Nat.le_refl _) (.cells #[.int .i64 (i : Int)] 3)).block g h1
            have hrow : ∀ g, (Value.slice ro r.length rc).ownBlock = some g → g < w9.heap.size := fun g hg => by have := l5 g hg; omega
            have hbl : ∀ g, vb2.ownBlock = some g → g < w9.heap.size := fun g hg => (p2.ba.lt g hg).2
            have hvl : ∀ g, vr2.ownBlock = some g → g < w9.heap.size := fun g hg => (p2.rw.lt g hg).2
            have hSl := p2.a.lt
            have hq : ∀ g, v'.ownBlock = some g → (Value.slice ro r.length rc).ownBlock = some g ∨ w9.heap.size < g := fun g hg => (q3 g hg).imp id (fun e => by omega)
            have ga := (World.grownBy_alloc w9 (.cells #[.int .i64 (i : Int)] 3) (Value.slice ro r.length rc).ownBlock).trans q2
            have hsee : 0 < m2.length → ∀ g, v2.ownBlock = some g → (Value.slice ro r.length rc).ownBlock ≠ some g ∧ g ≠ S ∧ vr2.ownBlock ≠ some g ∧ g < w9.heap.size := fun hm g hg => by
              have hlt9 := hm2.lt hm g hg
              rcases ho2 with ⟨e1, e2⟩ | e
              · rw [e1] at hg
                rw [e2] at hm
                obtain ⟨x1, x2, x3⟩ := l4 hm g hg
                exact ⟨x3, x1, x2, hlt9⟩
              · have e := e g hg
                exact ⟨fun q => by have := l5 g q; omega, by omega, fun q => by have := hvl8 g q; omega, hlt9⟩
            refine ⟨p2.far ga (fun e => (l3 S e).1 rfl) (fun g e q => (l3 g q).2.1 e) (fun g e q => (l3 g q).2.2 e) (fun g e => ?_), .inl (by rw [List.reverse_cons]; exact q1), hm2.kept fun hm g hg => hkeep g (hsee hm g hg).2.2.2 (hsee hm g hg).1, hR2, fun g hg => ?_, fun hm g hg => ⟨(hsee hm g hg).2.1, (hsee hm g hg).2.2.1, fun e => ?_⟩, fun g hg => ?_⟩
            · exact l1.ge g e
            · rcases hq g hg with e | e
              · exact l3 g e
              · exact ⟨by omega, fun q => by have := hvl g q; omega, fun q => by have := hbl g q; omega⟩
            · rcases hq g e with q | q
              · exact (hsee hm g hg).1 q
              · have := (hsee hm g hg).2.2.2; omega
            · exact (q1.lt g hg).2)
          have hrn : r.reverse.length ≤ 1000 := by rw [List.length_reverse]; have := p2.len; simp at this; omega
          have hal : RowL W.heap.size (.slice ro r.length rc) r.reverse (w9.alloc (.cells #[.int .i64 (i : Int)] 3)) := l1.kept fun g hg => ((Below.refl w9.heap.size w9).alloc (Nat.le_refl _) (.cells #[.int .i64 (i : Int)] 3)).block g (by have := l5 g hg; omega)
          have hcn : (w9.alloc (.cells #[.int .i64 (i : Int)] 3)).cell? ⟨w9.heap.size, 0, none⟩ = some (.int .i64 (i : Int)) := by rw [cell_of_row _ _ _ _ _ _ (heap_alloc_new w9 _)]; rfl
          have hWb : W.heap.size ≤ (w9.alloc (.cells #[.int .i64 (i : Int)] 3)).heap.size := by simp; omega
          clear l1 l2 l3 l4 l5 ho2 hm2 hR2 h9 hvl8 k8s
          go_wp2_with (at_builtin; refine wpList_append_rowl _ rfl _ _ rfl rfl hal ⟨w9.heap.size, 0, none⟩ 1 i rfl hcn hrn hWb ?_)
          intro v3 w10 q1 q2 q3
          have hst := HF.out v3 w10 (by first | exact q1 | simpa using q1) (by first | exact q2 | simpa using q2) (by first | exact q3 | simpa using q3)
          clear HF hal hcn hWb q1 q2 q3 c0
          obtain ⟨ro, rc, mo, mc, rfl, rfl, hrl, hml⟩ := hst.form
          have CS := Lib.hid (same14_any hst.p h64 _ _ _ m2 (HH.out _ (HWF.out _ hst.p.bel)) hst.row.ints hst.see hst.rep)
          obtain ⟨n0, n1, n2⟩ := HSW.out _ hst.p.bel
          go_wp2_with fail
          refine (CS.out).mono ?_
          rintro e w9 ⟨rfl, h9⟩
          have hst := hst.below h9
          clear CS n0 n1 n2 h9
          go_wp2_with fail
          go_roundw
          case rel => exact ⟨k + 1, _, _, _, _, _, by omega, by go_num, hst⟩
          case measure => simp [intOf]; omega
    · have hkn : ¬ (k : Int) < (acts.length : Int) := by omega
      have hz := HWF.out _ hst.p.bel
      go_wp2_with fail
      go_ret
      exact ⟨rfl, hz⟩
end Go.Proofs.YtfancjmhdbaoeaaGreatDoor
