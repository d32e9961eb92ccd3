/- Walks and plain facts that the proof of the statement CatalogueEntries uses, joined: OrdAB AxhB AxhC BruJ BruP BruQ BruR BruU BruF BruG BruH BruI PlaP ArgZ ArgT ArgC LeaI LeaJ TopA BruK BruV BruZ BrcA BrcC BruW BruX AxhN BruY BrcB SeaL VecC VecD TblM TblB TblC VecE VecF VecG VecH LevD TblD TblE TblF TblG TblJ TblH TblK VecJ VecK CatA HisT HisU HisV HisW HisY OrdAG BruL BruN. Conditions: each theorem's own. -/
import Derived.Deep.RegionHeld3
import Derived.Deep.CutRange
import Derived.Deep.Slices
import Derived.Deep.Strs
import Derived.Lib.SmallJoins
import Derived.Deep.Upon
import Derived.Deep.MidRow
import Derived.ChangeKeysEq
import Derived.Outline
import Derived.Laws.BitsAllLaws
import Derived.BigQuiet
import Derived.Sort.Row
import Derived.Test.YtadihdkpoeibhaaGreatDoorPCatalogueEntries0
import Derived.Test.YtadihdkpoeibhaaGreatDoorPCatalogueEntries1
import Derived.Test.YtadihdkpoeibhaaGreatDoorPCatalogueEntries2
import Derived.Test.YtadihdkpoeibhaaGreatDoorPCatalogueEntries3
import Derived.Test.YtadihdkpoeibhaaGreatDoorPCatalogueEntries4
import Derived.Test.YtadihdkpoeibhaaGreatDoorPCatalogueEntries6
import Derived.Test.YtadihdkpoeibhaaGreatDoorPCatalogueEntries7
namespace Go.Proofs.YtadihdkpoeibhaaGreatDoor
set_option maxHeartbeats 32000000
set_option maxRecDepth 100000
open Lib (hid)
section
open Go.RowKit
theorem read_of {h : List TxnV} (hc : checkI h = 0) {k : Nat} (hk : k < h.length) {o : OpV} (ho : o ∈ refReads h[k].l) :
  (o.val = 0 ∧ badFr (wrTo h h.length) (k : Int) o = false) ∨ (o.val ≠ 0 ∧ ∃ n : Nat, ∃ hn : n < h.length, wrI o.key o.val h = (n : Int) ∧ badFr (wrTo h h.length) (k : Int) o = (decide ((n : Int) = (k : Int)) || !(vOf h[n].l o.key == o.val))) := by
 obtain ⟨h1, h2⟩ := refReads_in ho
 rcases reads_F (may_of hc) hk h1 h2 with ⟨h0, hn⟩ | ⟨h0, u, hu, hku, hw⟩
 ·refine .inl ⟨h0, ?_⟩
  unfold badFr
  rw [h0, hn]
 ·refine .inr ⟨h0, ?_⟩
  obtain ⟨p, hp, hpv, hpk⟩ := real_wr h h.length (Nat.le_refl _) o.val u hu
  obtain ⟨t, ht, hpt, hpw⟩ := wrs_mem.1 hp
  obtain ⟨n, hn, rfl⟩ := List.getElem_of_mem ht
  have h3 := may_wr (may_of hc) hn hpt hpw
  rw [hpv, hu] at h3
  have h4 := Option.some.inj h3
  refine ⟨n, hn, ?_, ?_⟩
  ·rw [hw, h4]
  ·unfold badFr
   rw [hu, h4, hpk, hku]
theorem rsound_any (va : Value) (h : List TxnV) (hc : checkI h = 0) (w : World) (hT : Txns w va h) :
  Calls Tryz.prog 147 #[va] w fun e w' => e = .returned (.bool (soundTo h h.length)) ∧ Below w.heap.size w w' := by
 obtain ⟨ao, cap, rfl, hal⟩ := hT.form
 have HT := hid (fun wx (hx : Below w.heap.size w wx) => hT.below hx)
 have HC := hid hc
 have HQ : Hid (soundTo h h.length = (List.range h.length).all (soundOf h)) := hid rfl
 clear hT hc
 generalize soundTo h h.length = q at *
 go_enter Tryz.func147, Tryz.ntmps147
 go_wp2_with fail
 go_loopw [3] (fun i wr => ∃ k : Nat, k ≤ h.length ∧ i = .int .i64 k ∧ (List.range k).all (soundOf h) = true ∧ Below w.heap.size w wr) (fun i _ => h.length - (intOf i).toNat)
 case atStart => exact ⟨0, by omega, rfl, rfl, Below.refl _ _⟩
 case round =>
  obtain ⟨k, hk, rfl, hall, hb⟩ := hrel
  by_cases hlt : k < h.length
  ·have hki : (k : Int) < (h.length : Int) := by omega
   have HN := hid (show (List.range (k + 1)).all (soundOf h) = soundOf h k by rw [List.range_succ, List.all_append, hall]; simp)
   have HF : Hid (soundOf h k = false → false = q) := hid (fun e => by rw [HQ.out]; symm; exact List.all_eq_false.2 ⟨k, List.mem_range.2 hlt, by simp [e]⟩)
   have HS : Hid (soundOf h k = (!(refReads h[k].l).any (badFr (wrTo h h.length) (k : Int)) && steadyL h[k].l)) := hid (by unfold soundOf; rw [opsAt_eq hlt])
   have HR := hid (fun o (ho : o ∈ refReads h[k].l) => read_of HC.out hlt ho)
   have C1 := hid (fun wx (hx : Below w.heap.size w wx) => rsteady_any h[k].v h[k].l wx ((HT.out _ hx).ops hlt))
   have C2 := hid (fun wx (hx : Below w.heap.size w wx) => rreads_any h[k].v h[k].l wx ((HT.out _ hx).ops hlt))
   have HAT := hid (fun wx (hx : Below w.heap.size w wx) => (HT.out _ hx).at hlt)
   generalize soundOf h k = sk at *
   generalize refReads h[k].l = L at *
   generalize steadyL h[k].l = st at *
   generalize h[k].v = vk at *
   obtain ⟨g, o, hao, c0, c1, c2, c3⟩ := HAT.out _ hb
   cases hao
   clear c0 c1 c2
   go_wp2_with fail
   refine (C1.out _ hb).mono ?_
   rintro e w1 ⟨rfl, hb1⟩
   have hb2 := below_then hb hb1
   clear c3 hb hb1 C1
   cases st
   ·have HE : Hid (false = q) := hid (HF.out (by rw [HS.out, Bool.and_false]))
    clear HF HS HN HR C2
    go_wp2_with fail
    go_ret
    exact ⟨ret_b HE.out, hb2⟩
   ·obtain ⟨_, _, hao, _, _, _, c3⟩ := HAT.out _ hb2
    cases hao
    go_wp2_with fail
    refine (C2.out _ hb2).mono ?_
    rintro e w3 ⟨v3, rfl, hO, hb3⟩
    have hb4 := below_then hb2 hb3
    have hL := hO.ops
    obtain ⟨a3, cap3, rfl, _⟩ := hL.form
    clear C2 c3 hO hb2 hb3
    go_wp2_with fail
    go_loopw [5] (fun j wx => ∃ n : Nat, n ≤ L.length ∧ j = .int .i64 n ∧ (L.take n).any (badFr (wrTo h h.length) (k : Int)) = false ∧ Below w.heap.size w wx ∧ Below w3.heap.size w3 wx) (fun j _ => L.length - (intOf j).toNat)
    case atStart => exact ⟨0, by omega, rfl, rfl, hb4, Below.refl _ _⟩
    case round =>
     obtain ⟨n, hn, rfl, hany, hbx, hb5⟩ := hrel
     by_cases hltn : n < L.length
     ·have hni : (n : Int) < (L.length : Int) := by omega
      obtain ⟨g1, o1, hao, d0, d1, d2⟩ := (hL.below hb5).at hltn
      cases hao
      have HX := hid (anyf_take (f := badFr (wrTo h h.length) (k : Int)) hltn hany)
      have HH := hid (fun e => anyf_hit (f := badFr (wrTo h h.length) (k : Int)) hltn e)
      have hr := HR.out _ (List.getElem_mem hltn)
      generalize badFr (wrTo h h.length) (k : Int) L[n] = bd at *
      generalize L[n].key = y at *
      generalize L[n].val = z at *
      rcases hr with ⟨hz, hbad⟩ | ⟨hz, m, hm, hwm, hbad⟩
      ·have HB := hid (HX.out.trans hbad)
       subst hz
       clear HX HH hbad
       go_wp2_with fail
       go_roundw
       case rel => exact ⟨n + 1, by omega, by go_num, HB.out, hbx, hb5⟩
       case measure => simp [intOf]; omega
      ·have CW := hid (fun wx (hx : Below w.heap.size w wx) => writer_any _ h y z wx (HT.out _ hx))
       rw [hwm] at CW
       have CL := hid (fun wx (hx : Below w.heap.size w wx) => rlast_any h[m].s h[m].b h[m].c h[m].v h[m].l y z wx ((HT.out _ hx).ops hm))
       have HAM := hid (fun wx (hx : Below w.heap.size w wx) => (HT.out _ hx).at hm)
       have hmi : (m : Int) < (h.length : Int) := by omega
       have hlo := block_lt d1
       simp only at hlo
       clear hwm
       go_wp2_with fail
       have kk := Below.refl wr.heap.size wr
       go_region_held3 (fun w' => w'.cell? ⟨g1, o1 + n * 3 + 1, none⟩ = some (.int .i64 y) ∧ w'.cell? ⟨g1, o1 + n * 3 + 2, none⟩ = some (.int .i64 z))
        (go_keep)
        (first
         | (go_at_call 87; refine (CW.out _ (below_then hbx (by first | exact kk | exact kk.drew | exact below_drewN kk _))).mono ?_; rintro e wy ⟨rfl, hby⟩; have kk : Below wr.heap.size wr wy := (by first | exact below_then kk hby | exact below_then kk ⟨hby.os, hby.tape, hby.output, hby.size, hby.block⟩); have d1 := (kk.cell (p := ⟨g1, o1 + n * 3 + 1, none⟩) hlo).trans d1; have d2 := (kk.cell (p := ⟨g1, o1 + n * 3 + 2, none⟩) hlo).trans d2))
       have hb6 := below_then hbx kk
       have hb7 := below_then hb5 kk
       obtain ⟨g2, o2, hao, e0, e1, e2, e3⟩ := HAM.out _ hb6
       cases hao
       clear CW hby
       by_cases hmk : m = k
       ·have HE : Hid (false = q) := hid (HF.out (by
         have h1 := HH.out (by rw [hbad, decide_eq_true (by omega)]; rfl)
         rw [HS.out, h1]; rfl))
        subst hmk
        clear HF HS HN HH HX HR HAT HAM CL hbad e0 e1 e2 e3
        go_wp2_with fail
        go_quiet (fail)
        go_wp2_with fail
        go_ret
        exact ⟨ret_b HE.out, by first | exact hb6 | exact below_drewN hb6 _⟩
       ·have hmki : ¬ (m : Int) = (k : Int) := by omega
        have hbq : ((m : Int) == (k : Int)) = false := by simpa using hmki
        rw [decide_eq_false hmki, Bool.false_or] at hbad
        have hm0 := block_lt e0
        simp only at hm0
        have hlo2 := block_lt d1
        simp only at hlo2
        have d0' := d0
        clear kk d0'
        go_wp2_with fail
        have kk := Below.refl wy.heap.size wy
        go_region_held3 (fun w' => (w'.cell? ⟨g, o + m * 4, none⟩ = some (.int .i64 h[m].s) ∧ w'.cell? ⟨g, o + m * 4 + 1, none⟩ = some (.int .i64 h[m].b) ∧ w'.cell? ⟨g, o + m * 4 + 2, none⟩ = some (.int .i64 h[m].c) ∧ w'.cell? ⟨g, o + m * 4 + 3, none⟩ = some h[m].v) ∧ w'.cell? ⟨g1, o1 + n * 3 + 1, none⟩ = some (.int .i64 y) ∧ w'.cell? ⟨g1, o1 + n * 3 + 2, none⟩ = some (.int .i64 z))
         (go_keep)
         (first
          | (go_at_call 187; refine (CL.out _ (below_then hb6 (by first | exact kk | exact kk.drew | exact below_drewN kk _))).mono ?_; rintro e wz ⟨rfl, hbz⟩; have kk : Below wy.heap.size wy wz := (by first | exact below_then kk hbz | exact below_then kk ⟨hbz.os, hbz.tape, hbz.output, hbz.size, hbz.block⟩); have d1 := (kk.cell (p := ⟨g1, o1 + n * 3 + 1, none⟩) hlo2).trans d1; have d2 := (kk.cell (p := ⟨g1, o1 + n * 3 + 2, none⟩) hlo2).trans d2; have e0 := (kk.cell (p := ⟨g, o + m * 4, none⟩) hm0).trans e0; have e1 := (kk.cell (p := ⟨g, o + m * 4 + 1, none⟩) hm0).trans e1; have e2 := (kk.cell (p := ⟨g, o + m * 4 + 2, none⟩) hm0).trans e2; have e3 := (kk.cell (p := ⟨g, o + m * 4 + 3, none⟩) hm0).trans e3))
        have hb8 := below_then hb6 kk
        have hb9 := below_then hb7 kk
        clear CL hbz d1 d2 e0 e1 e2 e3 HAM
        cases hv : (vOf h[m].l y == z)
        ·have HE : Hid (false = q) := hid (HF.out (by
          have h1 := HH.out (by rw [hbad, hv]; rfl)
          rw [HS.out, h1]; rfl))
         clear HF HS HN HH HX HR HAT hbad
         go_wp2_with fail
         go_ret
         exact ⟨ret_b HE.out, hb8⟩
        ·have HB := hid (HX.out.trans (hbad.trans (by rw [hv, Bool.not_true])))
         clear HF HS HN HH HX HR HAT hbad
         go_wp2_with fail
         go_roundw
         case rel => exact ⟨n + 1, by omega, by go_num, HB.out, hb8, hb9⟩
         case measure => simp [intOf]; omega
     ·have hn2 : n = L.length := by omega
      subst hn2
      rw [List.take_length] at hany
      have HE : Hid ((List.range (k + 1)).all (soundOf h) = true) := hid (by rw [HN.out, HS.out, hany]; rfl)
      clear HN HF HS HR HAT
      go_wp2_with fail
      go_roundw
      case rel => exact ⟨k + 1, by omega, by go_num, HE.out, hbx⟩
      case measure => simp [intOf]; omega
  ·have hk2 : k = h.length := by omega
   subst hk2
   have HE : Hid (true = q) := hid (by rw [HQ.out]; exact hall.symm)
   go_wp2_with fail
   go_ret
   exact ⟨ret_b HE.out, hb⟩
end

section
open Go.RowKit
theorem rlast12_any (va vr vm : Value) (h : List TxnV) (l : List Int) (m : List Pr) (i key : Int) (w : World) (hT : Txns w va h) (hl : Ints w vr l) (hm : Prs w vm m) (hin : ∀ a ∈ l, 0 ≤ a ∧ a < (h.length : Int)) :
  Calls Tryz.prog 193 #[va, vr, vm, .int .i64 i, .int .i64 key] w fun e w' => e = .returned (.int .i64 (lstR h m i key l)) ∧ Below w.heap.size w w' := by
 have CH := hid (fun (a : Int) wx (hx : Below w.heap.size w wx) => phas_any vm m a i wx (hm.below hx))
 have CW := hid (fun (j : Nat) (hj : j < h.length) wx (hx : Below w.heap.size w wx) => rwrts8_any va h j key hj wx (hT.below hx))
 have HL := hid (fun wx (hx : Below w.heap.size w wx) => hl.below hx)
 have HIN := hid hin
 have HTK := hid (fun k hk => lstR_take h m i key l k hk)
 have HE : Hid (lstR h m i key (l.take l.length) = lstR h m i key l) := hid (by rw [List.take_length])
 have H0 : Hid (lstR h m i key (l.take 0) = -1) := hid rfl
 obtain ⟨ao, cap, rfl, hal⟩ := hT.form
 obtain ⟨ro, rcap, rfl, hrl⟩ := hl.form
 obtain ⟨mo, mcap, rfl, hml⟩ := hm.form
 clear hT hl hm hin
 go_enter Tryz.func193, Tryz.ntmps193
 go_wp2_with fail
 go_loopw [11, 12] (fun ov kv wr => ∃ k : Nat, k ≤ l.length ∧ kv = .int .i64 k ∧ ov = .int .i64 (lstR h m i key (l.take k)) ∧ Below w.heap.size w wr) (fun _ kv _ => l.length - (intOf kv).toNat)
 case atStart => exact ⟨0, by omega, rfl, by rw [H0.out], Below.refl _ _⟩
 case round =>
  obtain ⟨k, hk, rfl, rfl, hb⟩ := hrel
  by_cases hlt : k < l.length
  ·have hki : (k : Int) < (l.length : Int) := by omega
   obtain ⟨g, o, hao, e0⟩ := (HL.out _ hb).at hlt
   cases hao
   have HS := hid (HTK.out k hlt)
   have hr := HIN.out _ (List.getElem_mem hlt)
   obtain ⟨j, hj⟩ : ∃ j : Nat, l[k] = (j : Int) := ⟨l[k].toNat, by omega⟩
   rw [hj] at e0 HS hr
   rw [Int.toNat_natCast] at HS
   have hjn : j < h.length := by omega
   have D1 := hid (CH.out (j : Int) _ hb)
   have D2 := hid (CW.out j hjn _ hb)
   generalize hasP m (j : Int) i = p1 at *
   generalize wrsR h j key = p2 at *
   generalize lstR h m i key (l.take k) = f0 at *
   clear CH CW HTK hj
   go_wp2_with fail
   refine (D1.out).mono ?_
   rintro e w1 ⟨rfl, rfl⟩
   cases p1 with
   | false =>
    have HN : Hid (lstR h m i key (l.take (k + 1)) = f0) := hid (by rw [HS.out]; rfl)
    go_wp2_with fail
    go_roundw
    case rel => exact ⟨k + 1, by omega, by go_num, by rw [HN.out], hb⟩
    case measure => simp [intOf]; omega
   | true =>
    go_wp2_with fail
    refine (D2.out).mono ?_
    rintro e w2 ⟨rfl, h2⟩
    have e1 := (h2.cell (p := ⟨g, o + k, none⟩) (block_lt e0)).trans e0
    have hb2 := below_then hb h2
    clear e0 hb h2
    cases p2 with
    | false =>
     have HN : Hid (lstR h m i key (l.take (k + 1)) = f0) := hid (by rw [HS.out]; rfl)
     go_wp2_with fail
     go_roundw
     case rel => exact ⟨k + 1, by omega, by go_num, by rw [HN.out], hb2⟩
     case measure => simp [intOf]; omega
    | true =>
     have HN : Hid (lstR h m i key (l.take (k + 1)) = (j : Int)) := hid (by rw [HS.out]; rfl)
     go_wp2_with fail
     go_roundw
     case rel => exact ⟨k + 1, by omega, by go_num, by rw [HN.out], hb2⟩
     case measure => simp [intOf]; omega
  ·have hkn : k = l.length := by omega
   subst hkn
   go_wp2_with fail
   go_ret
   exact ⟨congrArg (fun q => Ending.returned (Value.int .i64 q)) HE.out, hb⟩
theorem all_noH {α : Type} {p : α → Bool} {l : List α} {a : α} (ha : a ∈ l) (h : p a = false) : l.all p = false := by
 rw [List.all_eq_false]; exact ⟨a, ha, by rw [h]; decide⟩
theorem all_takeH {α : Type} {p : α → Bool} {l : List α} {k : Nat} (hk : k < l.length) (h : (l.take k).all p = true) (h1 : p l[k] = true) : (l.take (k + 1)).all p = true := by
 rw [List.take_succ_eq_append_getElem hk, List.all_append, h]; simp [h1]
theorem all_rng {p : Nat → Bool} {k : Nat} (h : (List.range k).all p = true) (h1 : p k = true) : (List.range (k + 1)).all p = true := by
 rw [List.range_succ, List.all_append, h]; simp [h1]
theorem rright12_any (va vr vm : Value) (h : List TxnV) (l : List Int) (m : List Pr) (w : World) (hn : h.length ≤ 64) (hT : Txns w va h) (hl : Ints w vr l) (hm : Prs w vm m) :
  Calls Tryz.prog 149 #[va, vr, vm] w fun e w' => e = .returned (.bool (rightR h l m)) ∧ Below w.heap.size w w' := by
 have CR := hid (rrow12_any h.length vr l w (by omega) hl)
 have CP := hid (fun (a : Int) wx (hx : Below w.heap.size w wx) => rplace_any vr l a wx (hl.below hx))
 have CL := hid (fun (hin : ∀ a ∈ l, 0 ≤ a ∧ a < (h.length : Int)) (i key : Int) wx (hx : Below w.heap.size w wx) => rlast12_any va vr vm h l m i key wx (hT.below hx) (hl.below hx) (hm.below hx) hin)
 have CD := hid (fun (i : Nat) (hi : i < h.length) wx (hx : Below w.heap.size w wx) => rreads8_any va h i hi wx (hT.below hx))
 have HM := hid (fun wx (hx : Below w.heap.size w wx) => hm.below hx)
 have HR : Hid (rightR h l m = (rowRef12 h.length l && (m.all (pairOkR l) && (List.range h.length).all fun (i : Nat) => (rdR h (i : Int) (refReads (opsAt h i))).all (rdOkR h l m i)))) := hid rfl
 have HF := hid (fun hr : rowRef12 h.length l = true => full_of_row hr)
 obtain ⟨ao, cap, rfl, hal⟩ := hT.form
 obtain ⟨ro, rcap, rfl, hrl⟩ := hl.form
 obtain ⟨mo, mcap, rfl, hml⟩ := hm.form
 clear hT hl hm hn
 generalize rightR h l m = z at *
 go_enter Tryz.func149, Tryz.ntmps149
 go_wp2_with fail
 refine (CR.out).mono ?_
 rintro e w1 ⟨rfl, rfl⟩
 cases hrow : rowRef12 h.length l with
 | false =>
  rw [hrow] at HR
  go_wp2_with fail
  go_ret
  exact ⟨ret_b (by rw [HR.out]; rfl), Below.refl _ _⟩
 | true =>
  have HIN := hid (fun a ha => ((HF.out hrow).2 a).1 ha)
  rw [hrow, Bool.true_and] at HR
  clear HF CR hrow
  go_wp2_with fail
  go_loopw [7] (fun kv wr => ∃ k : Nat, k ≤ m.length ∧ kv = .int .i64 k ∧ Hid ((m.take k).all (pairOkR l) = true) ∧ Below w.heap.size w wr) (fun kv _ => m.length - (intOf kv).toNat)
  case atStart => exact ⟨0, by omega, rfl, hid rfl, Below.refl _ _⟩
  case round =>
   obtain ⟨k, hk, rfl, HA, hb⟩ := hrel
   by_cases hlt : k < m.length
   ·have hki : (k : Int) < (m.length : Int) := by omega
    obtain ⟨g, o, hao, c1, c2⟩ := (HM.out _ hb).at hlt
    cases hao
    have HY := hid (fun hp : pairOkR l m[k] = true => all_takeH hlt HA.out hp)
    have HNO := hid (fun hp : pairOkR l m[k] = false => show z = false by rw [HR.out, all_noH (List.getElem_mem hlt) hp]; rfl)
    have HP : Hid (pairOkR l m[k] = (decide (0 ≤ placeI l m[k].1) && (decide (0 ≤ placeI l m[k].2) && decide (placeI l m[k].1 < placeI l m[k].2)))) := hid rfl
    have D1 := hid (CP.out m[k].1 _ hb)
    have D2 := hid (CP.out m[k].2 _ hb)
    generalize pairOkR l m[k] = q at *
    generalize placeI l m[k].1 = x at *
    generalize placeI l m[k].2 = y at *
    generalize m[k].1 = m1 at *
    generalize m[k].2 = m2 at *
    clear HA CP CL CD
    go_wp2_with fail
    refine (D1.out).mono ?_
    rintro e w1 ⟨rfl, rfl⟩
    go_wp2_with fail
    refine (D2.out).mono ?_
    rintro e w1 ⟨rfl, rfl⟩
    by_cases hx : x < 0
    ·have HV : Hid (false = z) := hid (HNO.out (by rw [HP.out, decide_eq_false (by omega)]; rfl)).symm
     clear HY HNO HP
     go_wp2_with fail
     go_ret
     exact ⟨ret_b HV.out, hb⟩
    by_cases hy : y < 0
    ·have HV : Hid (false = z) := hid (HNO.out (by rw [HP.out, decide_eq_false (show ¬ 0 ≤ y by omega), Bool.false_and, Bool.and_false])).symm
     clear HY HNO HP
     go_wp2_with fail
     go_ret
     exact ⟨ret_b HV.out, hb⟩
    by_cases hxy : x < y
    ·have hle : ¬ y ≤ x := by omega
     have HV := hid (HY.out (by rw [HP.out, decide_eq_true (show 0 ≤ x by omega), decide_eq_true (show 0 ≤ y by omega), decide_eq_true hxy]; rfl))
     clear HY HNO HP
     go_wp2_with fail
     go_roundw
     case rel => exact ⟨k + 1, by omega, by go_num, HV, hb⟩
     case measure => simp [intOf]; omega
    ·have hle : y ≤ x := by omega
     have HV : Hid (false = z) := hid (HNO.out (by rw [HP.out, decide_eq_false hxy, Bool.and_false, Bool.and_false])).symm
     clear HY HNO HP
     go_wp2_with fail
     go_ret
     exact ⟨ret_b HV.out, hb⟩
   ·have hkn : k = m.length := by omega
    subst hkn
    have hA := HA.out
    rw [List.take_length] at hA
    rw [hA, Bool.true_and] at HR
    clear HA hA CP HM hlt hk
    go_wp2_with fail
    go_loopw [10] (fun iv wr => ∃ i : Nat, i ≤ h.length ∧ iv = .int .i64 i ∧ Hid (((List.range i).all fun (i : Nat) => (rdR h (i : Int) (refReads (opsAt h i))).all (rdOkR h l m i)) = true) ∧ Below w.heap.size w wr) (fun iv _ => h.length - (intOf iv).toNat)
    case atStart => exact ⟨0, by omega, rfl, hid rfl, hb⟩
    case round =>
     clear hb
     obtain ⟨i, hi, rfl, HA, hb⟩ := hrel
     by_cases hlt : i < h.length
     ·have hii : (i : Int) < (h.length : Int) := by omega
      have DD := hid (CD.out i hlt _ hb)
      have HL := hid (show rdR h (i : Int) (refReads (opsAt h i)) = rdR h (i : Int) (refReads h[i].l) by rw [opsAt_eq hlt])
      have HY := hid (fun hp : (rdR h (i : Int) (refReads h[i].l)).all (rdOkR h l m i) = true => all_rng (p := fun (i : Nat) => (rdR h (i : Int) (refReads (opsAt h i))).all (rdOkR h l m i)) HA.out (by show (rdR h (i : Int) (refReads (opsAt h i))).all (rdOkR h l m i) = true; rw [HL.out]; exact hp))
      have HNO := hid (fun hp : (rdR h (i : Int) (refReads h[i].l)).all (rdOkR h l m i) = false => show z = false by rw [HR.out]; exact all_noH (p := fun (i : Nat) => (rdR h (i : Int) (refReads (opsAt h i))).all (rdOkR h l m i)) (List.mem_range.2 hlt) (by show (rdR h (i : Int) (refReads (opsAt h i))).all (rdOkR h l m i) = false; rw [HL.out]; exact hp))
      clear HA HL CD
      generalize rdR h (i : Int) (refReads h[i].l) = L at *
      go_wp2_with fail
      refine (DD.out).mono ?_
      rintro e w2 ⟨v2, rfl, hO2, h2⟩
      have hL : Frs w2 v2 L := Row.of_owns hO2
      obtain ⟨a2, cap2, rfl, hll⟩ := hL.form
      have hb2 := below_then hb h2
      clear DD hO2 hb h2
      go_wp2_with fail
      go_loopw [12] (fun kv wr => ∃ k : Nat, k ≤ L.length ∧ kv = .int .i64 k ∧ Hid ((L.take k).all (rdOkR h l m i) = true) ∧ Below w.heap.size w wr ∧ Below w2.heap.size w2 wr) (fun kv _ => L.length - (intOf kv).toNat)
      case atStart => exact ⟨0, by omega, rfl, hid rfl, hb2, Below.refl _ _⟩
      case round =>
       clear hb2
       obtain ⟨k, hk, rfl, HA, hb, hb1⟩ := hrel
       by_cases hlk : k < L.length
       ·have hkk : (k : Int) < (L.length : Int) := by omega
        obtain ⟨g, o, hao, d1, d2⟩ := (hL.below hb1).at hlk
        cases hao
        have HYY := hid (fun hp : rdOkR h l m i L[k] = true => all_takeH hlk HA.out hp)
        have HNN := hid (fun hp : rdOkR h l m i L[k] = false => HNO.out (all_noH (List.getElem_mem hlk) hp))
        have HQ : Hid (rdOkR h l m i L[k] = decide (lstR h m (i : Int) L[k].1 l = L[k].2)) := hid rfl
        have DL := hid (fun wx (hx : Below w.heap.size w wx) => CL.out HIN.out (i : Int) L[k].1 wx hx)
        generalize rdOkR h l m i L[k] = q at *
        generalize lstR h m (i : Int) L[k].1 l = x at *
        generalize L[k].1 = y at *
        generalize L[k].2 = t at *
        clear HA CL HY HNO
        have hlo := block_lt d1
        simp only at hlo
        go_wp2_with fail
        have kk := Below.refl wr.heap.size wr
        go_region_held3 (fun w' => w'.cell? ⟨g, o + k * 2, none⟩ = some (.int .i64 y) ∧ w'.cell? ⟨g, o + k * 2 + 1, none⟩ = some (.int .i64 t))
         (go_keep)
         (first
          | (go_at_call 193; refine (DL.out _ (below_then hb (by first | exact kk | exact kk.drew | exact below_drewN kk _))).mono ?_; rintro e wx ⟨rfl, hbx⟩; have kk : Below wr.heap.size wr wx := (by first | exact below_then kk hbx | exact below_then kk ⟨hbx.os, hbx.tape, hbx.output, hbx.size, hbx.block⟩); have d1 := (kk.cell (p := ⟨g, o + k * 2, none⟩) hlo).trans d1; have d2 := (kk.cell (p := ⟨g, o + k * 2 + 1, none⟩) hlo).trans d2))
        have hb4 := below_then hb kk
        have hb5 := below_then hb1 kk
        clear DL hbx hb hb1
        by_cases hxt : x = t
        ·have HV := hid (HYY.out (by rw [HQ.out, decide_eq_true hxt]))
         subst hxt
         clear HYY HNN HQ
         go_wp2_with fail
         go_roundw
         case rel => exact ⟨k + 1, by omega, by go_num, HV, hb4, hb5⟩
         case measure => simp [intOf]; omega
        ·have HV : Hid (false = z) := hid (HNN.out (by rw [HQ.out, decide_eq_false hxt])).symm
         clear HYY HNN HQ
         go_wp2_with fail
         go_ret
         exact ⟨ret_b HV.out, hb4⟩
       ·have hkn : k = L.length := by omega
        subst hkn
        have HV := hid (HY.out (by have := HA.out; rwa [List.take_length] at this))
        clear HY HNO HA
        go_wp2_with fail
        go_roundw
        case rel => exact ⟨i + 1, by omega, by go_num, HV, hb⟩
        case measure => simp [intOf]; omega
     ·have hin : i = h.length := by omega
      subst hin
      have HV : Hid (true = z) := hid (by rw [HR.out]; exact HA.out.symm)
      go_wp2_with fail
      go_ret
      exact ⟨ret_b HV.out, hb⟩
end

section
open Go.RowKit
theorem lv_lt {lv : Int} (h : isLv lv = true) : 0 ≤ lv ∧ lv < 12 := by unfold isLv at h; exact of_decide_eq_true h
theorem full_ref {n : Nat} {row : List Nat} (hp : row.Perm (List.range n)) (hn : n ≤ 64) : rowRef12 n (row.map Int.ofNat) = true := by
 rw [← row_same n hn]; exact row_perm hn hp
theorem kept_right {h : List TxnV} (hc : checkI h = 0) {lv : Int} {row : List Nat} {m : List Pr} (hp : row.Perm (List.range h.length)) (hlv : isLv lv = true) (hs : soundTo h h.length = true) (hL : LeaL h (askN lv) (row.map Int.ofNat) h.length m) :
  rightR h (row.map Int.ofNat) m = keptL h lv row ∧ ∀ R, LeastIs h (askN lv) (row.map Int.ofNat) R → Rep R m := by
 have hx := askN_lt lv
 have hR : ∀ R, LeastIs h (askN lv) (row.map Int.ofNat) R → Rep R m := fun R hR => lea_rep hc (full_of_perm hp) hx (by omega) (fun _ _ => rfl) hL hR
 refine ⟨?_, hR⟩
 obtain ⟨R, hRl⟩ := least_some h (askN lv) (row.map Int.ofNat)
 rw [← kept_holds hc lv hp hRl, ← right_same hc (hR R hRl)]
 unfold holdsB
 rw [hlv, hs, least_kept hx hRl]
 simp
theorem rin13_any (va vr : Value) (h : List TxnV) (lv : Int) (row : List Nat) (w : World) (hc : checkI h = 0) (hp : row.Perm (List.range h.length)) (hT : Txns w va h) (hl : Ints w vr (row.map Int.ofNat)) :
  Calls Tryz.prog 93 #[va, .int .i64 lv, vr] w fun e w' => (∃ v, e = .returned (.tuple #[v, .bool (keptL h lv row)]) ∧ (keptL h lv row = true → ∃ m, Prs w' v m ∧ ∀ R, LeastIs h (askN lv) (row.map Int.ofNat) R → Rep R m)) ∧ Below w.heap.size w w' := by
 have h64 := (check_zero hc).1
 obtain ⟨ro, rcap, rfl, hrl⟩ := hl.form
 rw [List.length_map] at hl ⊢
 have CR := hid (rrow12_any h.length (.slice ro row.length rcap) (row.map Int.ofNat) w (by omega) hl)
 rw [full_ref hp h64] at CR
 have CS := hid (rsound_any va h hc w hT)
 have CA := hid (fun wx => rl_asks lv wx)
 have CO := hid (fun wx (hx : Below w.heap.size w wx) => rof11_any va (.slice ro row.length rcap) h (askN lv) (askN_lt lv) (row.map Int.ofNat) wx h64 (hT.below hx) (hl.below hx))
 have CG := hid (fun vm m wx (hx : Below w.heap.size w wx) (hm : Prs wx vm m) => rright12_any va (.slice ro row.length rcap) vm h (row.map Int.ofNat) m wx h64 (hT.below hx) (hl.below hx) hm)
 have HK := hid (fun m hlv hs hL => kept_right (lv := lv) (m := m) hc hp hlv hs hL)
 have HF : Hid (isLv lv = false → keptL h lv row = false) := hid (fun h => by unfold keptL; rw [h]; rfl)
 have HS : Hid (soundTo h h.length = false → keptL h lv row = false) := hid (fun h => by unfold keptL; rw [h, Bool.false_and, Bool.and_false])
 obtain ⟨ao, cap, rfl, hal⟩ := hT.form
 cases hlv : isLv lv with
 | false =>
  have HV := hid (HF.out hlv)
  have hr : lv < 0 ∨ (¬ lv < 0 ∧ 11 < lv) := by unfold isLv at hlv; rw [decide_eq_false_iff_not] at hlv; omega
  clear CR CS CA CO CG HK HF HS hlv hT hl
  rw [HV.out]
  rcases hr with hr | ⟨hr, hr2⟩
  all_goals
   go_enter Tryz.func93, Tryz.ntmps93
   go_wp2_with fail
   go_ret2
   first | exact ⟨⟨_, rfl, fun h => (by cases h)⟩, Below.refl _ _⟩ | exact ⟨⟨_, rfl⟩, Below.refl _ _⟩
 | true =>
  obtain ⟨h0, h1⟩ := lv_lt hlv
  cases hs : soundTo h h.length with
  | false =>
   have HV := hid (HS.out hs)
   rw [hs] at CS
   clear CA CO CG HK HF HS hlv hT hl hs
   rw [HV.out]
   go_enter Tryz.func93, Tryz.ntmps93
   go_wp2_with fail
   refine CR.out.mono ?_
   rintro e wq ⟨rfl, rfl⟩
   go_wp2_with fail
   refine CS.out.mono ?_
   rintro e w1 ⟨rfl, hb1⟩
   go_wp2_with fail
   go_ret2
   exact ⟨⟨_, rfl, fun h => (by cases h)⟩, hb1⟩
  | true =>
   have HK := hid (fun m => HK.out m hlv hs)
   rw [hs] at CS
   clear HF HS hlv hT hl hs
   generalize keptL h lv row = z at *
   go_enter Tryz.func93, Tryz.ntmps93
   go_wp2_with fail
   refine CR.out.mono ?_
   rintro e wq ⟨rfl, rfl⟩
   go_wp2_with fail
   refine CS.out.mono ?_
   rintro e w1 ⟨rfl, hb1⟩
   have CO1 := hid (CO.out _ hb1)
   go_wp2_with fail
   refine (CA.out _).mono ?_
   rintro e wq ⟨rfl, rfl⟩
   go_wp2_with fail
   refine CO1.out.mono ?_
   rintro e w2 ⟨v, m, rfl, hm, hL, hb2⟩
   have hb2 := below_then hb1 hb2
   have HM := hid (HK.out m hL)
   have CG2 := hid (CG.out v m w2 hb2 hm)
   rw [HM.out.1] at CG2
   have HP := hid hm
   clear hm hL CO CO1 CG
   go_wp2_with fail
   refine CG2.out.mono ?_
   rintro e w3 ⟨rfl, hb3⟩
   have HP3 := hid (HP.out.below hb3)
   go_wp2_with fail
   go_ret2
   exact ⟨⟨_, rfl, fun _ => ⟨m, HP3.out, HM.out.2⟩⟩, below_then hb2 hb3⟩
end

section
open Go.RowKit
theorem rall_any (n : Nat) (hn : n ≤ 1000) (w : World) :
  Calls Tryz.prog 55 #[.int .i64 (n : Int)] w fun e w' => (∃ v, e = .returned v ∧ Ints w' v ((List.range n).map Int.ofNat)) ∧ Below w.heap.size w w' := by
 obtain ⟨i0, hi, hz0, hz1, hz2⟩ := info_parts infoInt
 have hlit : (w.alloc (.cells #[] 3)).ownsRow w.heap.size 3 1 (.slice (some ⟨w.heap.size, 0, none⟩) 0 0) 0 ((List.range 0).map fun i : Nat => Value.int .i64 (i : Int)) := World.ownsRow_lit (size := 1) _ _ _ (Nat.le_refl _) (by simp) (by simp)
 have hb0 := box_below w (.cells #[] 3)
 go_enter Tryz.func55, Tryz.ntmps55
 go_wp2_with fail
 generalize w.alloc (.cells #[] 3) = w0 at *
 go_loopw [3, 4] (fun v i wr => ∃ k : Nat, k ≤ n ∧ i = .int .i64 k ∧ wr.ownsRow w.heap.size 3 1 v k ((List.range k).map fun i : Nat => Value.int .i64 (i : Int)) ∧ Below w.heap.size w wr) (fun _ i _ => n - (intOf i).toNat)
 case atStart => exact ⟨0, by omega, rfl, hlit, hb0⟩
 case round =>
  clear hlit hb0
  obtain ⟨k, hk, rfl, hown, hb⟩ := hrel
  by_cases hlt : k < n
  ·have hki : (k : Int) < (n : Int) := by omega
   have HR : Hid ((List.range (k + 1)).map (fun i : Nat => Value.int .i64 (i : Int)) = (List.range k).map (fun i : Nat => Value.int .i64 (i : Int)) ++ [.int .i64 (k : Int)]) := hid (by rw [List.range_succ, List.map_append]; rfl)
   generalize (List.range k).map (fun i : Nat => Value.int .i64 (i : Int)) = xs at *
   go_wp2_with (at_builtin; refine wpList_append_own _ rfl _ _ 34 rfl w.heap.size 3 i0 (.int .i64 0) 1 8 Tryz.underlying34 hi hz0 hz1 hz2 rfl (by decide) _ _ _ rfl (hown.alloc _) ⟨_, 0, none⟩ 1 1 [.int .i64 (k : Int)] rfl rfl ?c1 ?c2 ?c3 ?c4 ?c5 ?_)
   try case c1 => exact cell_one_new _ _ _
   case c2 => first | rfl | (intro u hu; simp at hu; subst hu; rfl)
   case c3 => unfold maxLen; omega
   case c4 => omega
   case c5 => have := hb.size; simp; omega
   intro v6 w6 hown6 hg6 _
   have hsz := hb.size
   have hb6 : Below w.heap.size w w6 := hb.trans (below_app (Below.refl _ _) hsz hown hg6)
   clear hown hg6 hb
   go_wp2_with fail
   go_roundw
   case rel => exact ⟨k + 1, by omega, by go_num, by rw [HR.out]; exact hown6, hb6⟩
   case measure => simp [intOf]; omega
  ·have hkn : k = n := by omega
   subst hkn
   have hI : Ints wr u3 ((List.range k).map Int.ofNat) := Ints.of_nats hown
   clear hown hlt
   go_wp2_with fail
   go_ret
   exact ⟨⟨_, rfl, hI⟩, hb⟩
theorem rwithout_any (vl : Value) (L : List Nat) (j : Nat) (w : World) (hI : Ints w vl (L.map Int.ofNat)) (hjl : j < L.length) (hn : L.length ≤ 1000) :
  Calls Tryz.prog 94 #[vl, .int .i64 (j : Int)] w fun e w' => (∃ v, e = .returned v ∧ Ints w' v ((L.take j ++ L.drop (j + 1)).map Int.ofNat)) ∧ Below w.heap.size w w' := by
 obtain ⟨i0, hi, hz0, hz1, hz2⟩ := info_parts infoInt
 obtain ⟨lo, lcap, rfl, ⟨hlc, hlm⟩, hno⟩ := hI.full
 rw [List.length_map] at hlc hno
 rw [List.length_map] at hI ⊢
 obtain ⟨g, o, hgo, hcj⟩ := ints_at hI hjl
 cases hgo
 have hji : (j : Int) < (L.length : Int) := by omega
 have hW : Below w.heap.size w (w.drew.alloc (.cells #[] 3)) := (⟨rfl, rfl, rfl, Nat.le_refl _, fun _ _ => rfl⟩ : Below w.heap.size w w.drew).alloc (Nat.le_refl _) _
 have HOW := hid (World.ownsRow_made (base := w.heap.size) (e := 3) (size := 1) w.drew #[] 0 (Nat.le_refl _) (by decide) rfl)
 obtain ⟨A, hA, HC2⟩ : ∃ A : Addr, (if lcap = j + 1 then some (⟨g, o, none⟩ : Addr) else some ⟨g, o + (j + 1), none⟩) = some A ∧ Hid (∀ w7, Below w.heap.size w w7 → ∀ i u, ((L.drop (j + 1)).map fun i : Nat => Value.int .i64 (i : Int))[i]? = some u → w7.cell? (A.add i) = some u) := by
  by_cases h : lcap = j + 1
  ·refine ⟨⟨g, o, none⟩, by simp [h], fun w7 hb7 i u hu => ?_⟩
   rw [List.drop_eq_nil_of_le (by omega)] at hu
   simp at hu
  ·exact ⟨⟨g, o + (j + 1), none⟩, by simp [h], fun w7 hb7 => (hI.below hb7).news (j + 1)⟩
 have HC1 : Hid (∀ i u, ((L.take j).map fun i : Nat => Value.int .i64 (i : Int))[i]? = some u → (w.drew.alloc (.cells #[] 3)).cell? ((⟨g, o, none⟩ : Addr).add i) = some u) := hid (fun i u hu => by
  have hi : i < j := by
   have := (List.getElem?_eq_some_iff.1 hu).1
   simp at this; omega
  refine (hI.below hW).news 0 i u ?_
  rw [List.drop_zero, ← hu, List.map_take, List.getElem?_take, if_pos hi])
 have s1 : Hid (((L.take j).map fun i : Nat => Value.int .i64 (i : Int)).length = j * 1) := hid (by simp; omega)
 have s2 : Hid (∀ u ∈ ((L.take j).map fun i : Nat => Value.int .i64 (i : Int)), u.oneCell' = true) := hid (fun u hu => by
  obtain ⟨x, _, rfl⟩ := List.mem_map.1 hu
  rfl)
 have t1 : Hid (((L.drop (j + 1)).map fun i : Nat => Value.int .i64 (i : Int)).length = (L.length - (j + 1)) * 1) := hid (by simp)
 have t2 : Hid (∀ u ∈ ((L.drop (j + 1)).map fun i : Nat => Value.int .i64 (i : Int)), u.oneCell' = true) := hid (fun u hu => by
  obtain ⟨x, _, rfl⟩ := List.mem_map.1 hu
  rfl)
 have HS5 : Hid (w.heap.size ≤ (w.drew.alloc (.cells #[] 3)).heap.size) := hid hW.size
 have HB7 : Hid (∀ w7, (w.drew.alloc (.cells #[] 3)).grownBy w7 (some w.heap.size) → Below w.heap.size w w7) := hid (fun w7 hg => hW.grown hg hW.size (fun k hk => by cases hk; exact Nat.le_refl _))
 have hjc : j ≤ lcap := by omega
 have hwr : IntKind.i64.wrap ((j : Int) + 1) = (j : Int) + 1 := by rw [IntKind.wrap_i64]; omega
 have hp0 : (0 : Int) ≤ (j : Int) + 1 := by omega
 have hp1 : (j : Int) + 1 ≤ (L.length : Int) := by omega
 have hp2 : ((j : Int) + 1).toNat = j + 1 := by omega
 clear hI hW hcj hno
 go_enter Tryz.func94, Tryz.ntmps94
 go_wp2_with fail
 go_region_law (first
  | (refine step_append_own _ rfl (.tmp 9) (.tmp 13) 34 rfl w.heap.size 3 i0 (.int .i64 0) 1 8 Tryz.underlying34 hi hz0 hz1 hz2 rfl (by decide) v7 (0 + j) _ (by simp [Act.eval]) hown7 A (L.length - (j + 1)) (lcap - (j + 1)) _ (by simp [Act.eval]) t1.out (HC2.out _ (HB7.out _ hg7)) t2.out (by unfold maxLen; omega) (by omega) (Nat.le_trans HS5.out hg7.size) ?_; intro v8 w8 hown8 hg8)
  | (refine step_append_own _ rfl (.tmp 5) (.tmp 8) 34 rfl w.heap.size 3 i0 (.int .i64 0) 1 8 Tryz.underlying34 hi hz0 hz1 hz2 rfl (by decide) _ 0 [] (by simp [Act.eval]) HOW.out ⟨g, o, none⟩ j lcap _ (by simp [Act.eval]) s1.out HC1.out s2.out (by unfold maxLen; omega) (by omega) HS5.out ?_; intro v7 w7 hown7 hg7))
 all_goals have hb8 : Below w.heap.size w w8 := (HB7.out _ hg7).trans ((Below.refl _ _).grown hg8 (Nat.le_trans HS5.out hg7.size) (fun k hk => (hown7.lt k hk).1))
 all_goals have hI8 : Ints w8 v8 ((L.take j ++ L.drop (j + 1)).map Int.ofNat) := Ints.of_nats (base := w.heap.size) (e := 3) (n := 0 + j + (L.length - (j + 1))) (by rw [List.map_append]; exact hown8)
 all_goals clear HB7 HC1 HC2 HOW hown7 hg7 hown8 hg8
 all_goals go_simp
 all_goals go_wp2
 all_goals go_ret
 all_goals exact ⟨⟨_, rfl, hI8⟩, hb8⟩
end

section
open Go.RowKit
theorem step_append_run {P : Program} (w : World) {ops : Array Oper} {o : Oper} {a : Act} {K : Act → World → Prop} {Q : Exit → Act → World → Prop} {E : Prop} (hgd : o.guard = none) (s x : Operand) (t : TypeId)
  (ho : o.op = .call { callee := .builtin .append, args := #[s, x], argTypes := #[t, t] }) {vs vx v' : Value} {w' : World} (hs : a.eval s = vs) (hx : a.eval x = vx)
  (hrun : Sem.run P (Builtin.append_ #[t, t] o.type #[vs, vx]) w = .ok v' w') (h : K (a.put o.dst v') w') :
  if Region.wanted o (yielded ops a.tmps) = true then Oper.wp P o a w K Q else E := by
 have hw : Region.wanted o (yielded ops a.tmps) = true := by simp [Region.wanted, hgd]
 rw [if_pos hw]
 unfold Oper.wp execOp
 simp only [ho, resolve, invoke, builtin, Sem.run_bind, Sem.run_pure, Result.andThen_ok, List.map_toArray, List.map_cons, List.map_nil, hs, hx, hrun]
 exact h
theorem run_copy {w : World} {base : Nat} (ty : TypeId) {g : Nat} (hown : w.ownsRow base 3 1 (.slice (some ⟨g, 0, none⟩) 0 0) 0 []) {ao : Option Addr} {c : Nat} {r : List Nat} (hr : Ints w (.slice ao r.length c) (r.map Int.ofNat)) (hl : r.length ≤ 1000) (hbase : base ≤ w.heap.size) :
  ∃ a1 c1 w1, Sem.run Tryz.prog (Builtin.append_ #[34, 34] ty #[.slice (some ⟨g, 0, none⟩) 0 0, .slice ao r.length c]) w = .ok (.slice a1 r.length c1) w1
   ∧ w1.ownsRow base 3 1 (.slice a1 r.length c1) r.length (r.map fun i : Nat => .int .i64 (i : Int)) ∧ w.grownBy w1 (some g) := by
 obtain ⟨i0, hi0, hz0, hz1, hz2⟩ := info_parts infoIntC
 cases ao with
 | none =>
  obtain ⟨_, ao', cap', e, hm, hno, _⟩ := hr
  rw [List.length_map] at hno hm
  obtain ⟨e1, e2⟩ : none = ao' ∧ c = cap' := by simpa using e
  subst e1; subst e2
  obtain ⟨h0, hc0⟩ := hno rfl
  have hr0 : r = [] := List.eq_nil_of_length_eq_zero h0
  subst hr0
  subst hc0
  exact ⟨_, _, w, run_append_nothing (P := Tryz.prog) w 34 34 ty 3 i0 rfl hi0 _ 0 0 (Nat.le_refl _) _ (Src.ofNil w rfl 0), hown, ⟨rfl, rfl, rfl, Nat.le_refl _, fun _ _ _ => rfl⟩⟩
 | some ad =>
  have hnews : ∀ i u, (r.map fun i : Nat => Value.int .i64 (i : Int))[i]? = some u → w.cell? (ad.add i) = some u := fun i u hu => by
   have hi : i < r.length := by
    have := (List.getElem?_eq_some_iff.1 hu).1
    simpa using this
   obtain ⟨_, ao', cap', e, _, _, hc⟩ := hr
   rw [List.length_map] at e hc
   obtain ⟨b, off, e2, hcell⟩ := hc (by omega)
   obtain ⟨e3, _⟩ : some ad = ao' ∧ c = cap' := by simpa using e
   rw [e2] at e3
   obtain rfl : ad = ⟨b, off, none⟩ := by injection e3
   rw [Addr.add_lit, hcell i (by omega), ← hu, List.map_map]; rfl
  have hone : ∀ u ∈ (r.map fun i : Nat => Value.int .i64 (i : Int)), u.oneCell' = true := fun u hu => by
   obtain ⟨x, _, rfl⟩ := List.mem_map.1 hu
   rfl
  obtain ⟨v1, w1, q1, q2, q3, _⟩ := run_append_own (P := Tryz.prog) w base 34 ty 3 i0 (.int .i64 0) 1 8 Tryz.underlying34 hi0 hz0 hz1 hz2 rfl (by decide) (.slice (some ⟨g, 0, none⟩) 0 0) 0 [] hown ad r.length c _ (by simp) hnews hone (by unfold maxLen; omega) (by omega) hbase
  rw [Nat.zero_add, List.nil_append] at q2
  obtain ⟨a1, c1, rfl⟩ := owns_form q2
  exact ⟨a1, c1, w1, q1, q2, q3⟩
theorem run_more {w : World} {base : Nat} (ty : TypeId) {v : Value} {r : List Nat} (hown : w.ownsRow base 3 1 v r.length (r.map fun i : Nat => .int .i64 (i : Int))) {ad : Addr} {x : Nat} (hx : Ints w (.slice (some ad) 1 1) [(x : Int)]) (hl : r.length ≤ 1000) (hbase : base ≤ w.heap.size) :
  ∃ a2 c2 w2, Sem.run Tryz.prog (Builtin.append_ #[34, 34] ty #[v, .slice (some ad) 1 1]) w = .ok (.slice a2 (r.length + 1) c2) w2
   ∧ Ints w2 (.slice a2 (r.length + 1) c2) ((r ++ [x]).map Int.ofNat) ∧ w.grownBy w2 v.ownBlock := by
 obtain ⟨i0, hi0, hz0, hz1, hz2⟩ := info_parts infoIntC
 obtain ⟨v2, w2, p1, p2, p3, _⟩ := run_append_own (P := Tryz.prog) w base 34 ty 3 i0 (.int .i64 0) 1 8 Tryz.underlying34 hi0 hz0 hz1 hz2 rfl (by decide) v r.length _ hown ad 1 1 [.int .i64 (x : Int)] rfl (by
   intro j u hu
   cases j with
   | zero =>
    simp at hu; subst hu
    obtain ⟨_, ao', cap', e, _, _, hc⟩ := hx
    obtain ⟨b, off, e2, hcell⟩ := hc (by simp)
    obtain ⟨e3, _⟩ : some ad = ao' ∧ 1 = cap' := by simpa using e
    rw [e2] at e3
    obtain rfl : ad = ⟨b, off, none⟩ := by injection e3
    rw [Addr.add_lit]
    exact hcell 0 (by simp)
   | succ j => simp at hu) (by intro u hu; simp at hu; subst hu; rfl) (by unfold maxLen; omega) (by omega) hbase
 obtain ⟨a2, c2, rfl⟩ := owns_form p2
 exact ⟨a2, c2, w2, p1, Ints.of_nats (base := base) (e := 3) (n := r.length + 1) (by rw [List.map_append]; exact p2), p3⟩
theorem ints_one (w : World) (x : Nat) : Ints (w.alloc (.cells #[.int .i64 (x : Int)] 3)) (.slice (some ⟨w.heap.size, 0, none⟩) 1 1) [(x : Int)] :=
 Ints.of_nats (l := [x]) (base := 0) (e := 3) (n := 1) (World.ownsRow_lit (size := 1) _ _ _ (Nat.zero_le _) (by decide) (by rfl))
end

section
open Go.RowKit
theorem filter_without {L : List Nat} (hnd : L.Nodup) {i : Nat} (hi : i < L.length) : L.filter (· != L[i]) = L.take i ++ L.drop (i + 1) := by
 have e : L = L.take i ++ L[i] :: L.drop (i + 1) := by rw [← List.drop_eq_getElem_cons hi, List.take_append_drop]
 have key : ∀ (A : List Nat) (x : Nat) (B : List Nat), (A ++ x :: B).Nodup → (A ++ x :: B).filter (· != x) = A ++ B := fun A x B h => by
  obtain ⟨_, h2, h3⟩ := List.nodup_append.1 h
  obtain ⟨h4, _⟩ := List.nodup_cons.1 h2
  rw [List.filter_append, List.filter_cons, if_neg (by simp), List.filter_eq_self.2 (fun a ha => by simpa using h3 a ha x (List.mem_cons_self ..)), List.filter_eq_self.2 (fun a ha => by
   rw [bne_iff_ne]; rintro rfl; exact h4 ha)]
 have := key (L.take i) L[i] (L.drop (i + 1)) (by rw [← e]; exact hnd)
 rw [← e] at this; exact this
def cnlTo (p : List Nat → Bool) (k : Nat) (r left : List Nat) (j : Nat) : Nat := ((left.take j).map fun x => cntL p k (r ++ [x]) (left.filter (· != x))).sum
theorem cnlTo_succ {p : List Nat → Bool} {k : Nat} {r left : List Nat} {j : Nat} (hj : j < left.length) (hnd : left.Nodup) : cnlTo p k r left (j + 1) = cnlTo p k r left j + cntL p k (r ++ [left[j]]) (left.take j ++ left.drop (j + 1)) := by
 unfold cnlTo
 rw [List.take_succ_eq_append_getElem hj, List.map_append, List.sum_append, ← filter_without hnd hj]; simp
theorem cnlTo_all (p : List Nat → Bool) (k : Nat) (r left : List Nat) : cnlTo p k r left left.length = cntL p (k + 1) r left := by unfold cnlTo; rw [List.take_length]; rfl
end

section
open Go.RowKit
theorem cnt_one {p : List Nat → Bool} {k : Nat} {r left : List Nat} {j : Nat} : cnlTo p k r left j ≤ cntL p (k + 1) r left := by
 rw [← cnlTo_all]
 unfold cnlTo
 have key : ∀ (l : List Nat) (i : Nat), ((l.take i).map fun x => cntL p k (r ++ [x]) (left.filter (· != x))).sum ≤ (l.map fun x => cntL p k (r ++ [x]) (left.filter (· != x))).sum := by
  intro l i
  conv => rhs; rw [← List.take_append_drop i l, List.map_append, List.sum_append]
  exact Nat.le_add_right _ _
 have := key left j
 rw [List.take_length]; exact this
def one1 (n : Nat) : Nat := if 0 < n then 1 else 0
theorem one_zero {n : Nat} (h : 0 = one1 n) : n = 0 := by unfold one1 at h; split at h <;> omega
theorem one_pos {n : Nat} (h : 1 = one1 n) : 0 < n := by unfold one1 at h; split at h <;> omega
theorem one_le (n : Nat) : one1 n ≤ 1 := by unfold one1; split <;> omega
theorem one_big {n m : Nat} (h : 1 = one1 n) (hl : n ≤ m) : 1 = one1 m := by have := one_pos h; unfold one1; rw [if_pos (by omega)]
set_option linter.unusedSimpArgs false in
theorem rcount1_any (va : Value) (h : List TxnV) (lv : Int) (hc : checkI h = 0) (hn : h.length ≤ 6) :
  ∀ (k : Nat) (vr vl : Value) (r left : List Nat) (w : World), left.length = k → (r ++ left).Perm (List.range h.length) → Txns w va h → Ints w vr (r.map Int.ofNat) → Ints w vl (left.map Int.ofNat) →
   Calls Tryz.prog 54 #[va, .int .i64 lv, vr, vl, .bool true] w fun e w' => e = .returned (.int .i64 ((one1 (cntL (keptL h lv) k r left) : Nat) : Int)) ∧ Below w.heap.size w w'
 | 0, vr, vl, r, left, w, hk, hp, hT, hR, hL => by
  obtain rfl : left = [] := List.eq_nil_of_length_eq_zero hk
  rw [List.append_nil] at hp
  have CI := hid (rin13_any va vr h lv r w hc hp hT hR)
  have HV : Hid ((if keptL h lv r then 1 else 0) = one1 (cntL (keptL h lv) 0 r [])) := hid (by unfold cntL; split <;> rfl)
  obtain ⟨ho, hcap, rfl, _⟩ := hT.form
  obtain ⟨ao, cap, rfl, _⟩ := hR.form
  obtain ⟨lo, lcap, rfl, _⟩ := hL.form
  simp only [List.length_map] at CI
  rw [List.length_map, List.map_nil, List.length_nil]
  generalize one1 (cntL (keptL h lv) 0 r []) = cn at *
  clear hT hR hL hp hk
  cases hkk : keptL h lv r with
  | true =>
   rw [hkk] at CI HV
   have HV2 : Hid ((1 : Int) = (cn : Int)) := hid (by have := HV.out; simp at this; omega)
   clear HV hkk
   go_enter Tryz.func54, Tryz.ntmps54
   go_wp2_with fail
   refine (CI.out).mono ?_
   rintro e w1 ⟨⟨v1, rfl, _⟩, h1⟩
   go_wp2_with fail
   go_ret
   exact ⟨ret_i HV2.out, h1⟩
  | false =>
   rw [hkk] at CI HV
   have HV2 : Hid ((0 : Int) = (cn : Int)) := hid (by have := HV.out; simp at this; omega)
   clear HV hkk
   go_enter Tryz.func54, Tryz.ntmps54
   go_wp2_with fail
   refine (CI.out).mono ?_
   rintro e w1 ⟨⟨v1, rfl, _⟩, h1⟩
   go_wp2_with fail
   go_ret
   exact ⟨ret_i HV2.out, h1⟩
 | k + 1, vr, vl, r, left, w, hk, hp, hT, hR, hL => by
  have IH := hid (fun vr vl r left w a b c d e => rcount1_any va h lv hc hn k vr vl r left w a b c d e)
  have hll : r.length + left.length = h.length := by have := hp.length_eq; simpa using this
  have hndA : (r ++ left).Nodup := (List.Perm.nodup_iff hp).2 List.nodup_range
  have HND : Hid left.Nodup := hid (List.nodup_append.1 hndA).2.1
  have HP := hid hp
  have HKK := hid hk
  have HT := hid (fun wx (hx : Below w.heap.size w wx) => hT.below hx)
  have HR := hid (fun wx (hx : Below w.heap.size w wx) => hR.below hx)
  have HL := hid (fun wx (hx : Below w.heap.size w wx) => hL.below hx)
  obtain ⟨ho, hcap, rfl, _⟩ := hT.form
  obtain ⟨ao, cap, rfl, _⟩ := hR.form
  obtain ⟨lo, lcap, rfl, _⟩ := hL.form
  simp only [List.length_map] at HR HL
  rw [List.length_map, List.length_map]
  have hl5 : left.length ≤ 6 := by omega
  have HLE : Hid (r.length ≤ 1000) := hid (by omega)
  have hq0 : ((left.length : Int) == 0) = false := by rw [beq_eq_false_iff_ne]; omega
  have hb0 := hid (Below.refl w.heap.size w)
  clear hk hp hT hR hL hndA hll
  go_enter Tryz.func54, Tryz.ntmps54
  go_wp2_with fail
  go_loopw [13, 14] (fun nv iv wr => ∃ i m : Nat, i ≤ left.length ∧ m ≤ 1 ∧ iv = .int .i64 (i : Int) ∧ nv = .int .i64 (m : Int) ∧ Hid (m = one1 (cnlTo (keptL h lv) k r left i)) ∧ Hid (Below w.heap.size w wr)) (fun _ iv _ => left.length - (intOf iv).toNat)
  case atStart => exact ⟨0, 0, by omega, by omega, rfl, rfl, hid rfl, hb0⟩
  case round =>
   clear hb0
   obtain ⟨i, m, hi, hm, rfl, rfl, HM, HB⟩ := hrel
   obtain rfl | rfl : m = 0 ∨ m = 1 := by omega
   rotate_left
   ·have HV : Hid ((1 : Int) = ((one1 (cntL (keptL h lv) (k + 1) r left) : Nat) : Int)) := hid (by rw [← one_big HM.out cnt_one]; rfl)
    by_cases hlt : i < left.length
    ·have hlti : (i : Int) < (left.length : Int) := by omega
     go_wp2_with fail
     go_ret
     exact ⟨ret_i HV.out, HB.out⟩
    ·have hlti : ¬ (i : Int) < (left.length : Int) := by omega
     go_wp2_with fail
     go_ret
     exact ⟨ret_i HV.out, HB.out⟩
   by_cases hlt : i < left.length
   ·have hlti : (i : Int) < (left.length : Int) := by omega
    obtain ⟨g, o, hgo, _⟩ := ints_at (HL.out _ HB.out) hlt
    cases hgo
    have HCl := hid (fun wx (hx : Below wr.heap.size wr wx) => by
     obtain ⟨g2, o2, e2, c2⟩ := ints_at (HL.out _ (below_then HB.out hx)) hlt
     cases e2
     exact c2)
    have HRr := hid (fun wx (hx : Below wr.heap.size wr wx) => HR.out _ (below_then HB.out hx))
    have CW := hid (fun wx (hx : Below wr.heap.size wr wx) => rwithout_any _ left i wx (HL.out _ (below_then HB.out hx)) hlt (by omega))
    have IHC := hid (fun v2 vl2 wx (hx : Below wr.heap.size wr wx) (h1 : Ints wx v2 ((r ++ [left[i]'hlt]).map Int.ofNat)) (h2 : Ints wx vl2 ((left.take i ++ left.drop (i + 1)).map Int.ofNat)) => IH.out v2 vl2 (r ++ [left[i]]) (left.take i ++ left.drop (i + 1)) wx (by have := HKK.out; simp; omega) ((perm_take r left i hlt).trans HP.out) (HT.out _ (below_then HB.out hx)) h1 h2)
    have HMS := hid (cnlTo_succ (p := keptL h lv) (k := k) (r := r) hlt HND.out)
    rw [one_zero HM.out, Nat.zero_add] at HMS
    have HMS := hid (congrArg one1 HMS.out)
    generalize left[i] = x at *
    have hms := one_le (cntL (keptL h lv) k (r ++ [x]) (left.take i ++ left.drop (i + 1)))
    generalize one1 (cntL (keptL h lv) k (r ++ [x]) (left.take i ++ left.drop (i + 1))) = cn at *
    have hwr2 : IntKind.i64.wrap (cn : Int) = (cn : Int) := by rw [IntKind.wrap_i64]; omega
    have hwr : IntKind.i64.wrap ((0 : Int) + (cn : Int)) = (cn : Int) := by rw [IntKind.wrap_i64]; omega
    have kd := (Below.refl wr.heap.size wr).drew
    have HB2 := hid (fun wx (hx : Below wr.heap.size wr wx) => below_then HB.out hx)
    clear HM HB
    go_upto_region 10 with fail
    refine wp_region_held_drew (S := Below wr.heap.size wr) (by kernel_rfl) kd (fun hS0 => ?_)
    generalize wr.drew = wd at *
    refine tA (some 40) 0 rfl rfl hS0 ?_
    try simp only [Act.put, zA, zB, zC]
    refine tA (some 41) 1 rfl rfl hS0 ?_
    try simp only [Act.put, zA, zB, zC]
    refine tA (some 42) 2 rfl rfl hS0 ?_
    try simp only [Act.put, zA, zB, zC]
    refine tA (some 44) 4 rfl rfl hS0 ?_
    try simp only [Act.put, zA, zB, zC]
    refine tA (some 46) 6 rfl rfl hS0 ?_
    try simp only [Act.put, zA, zB, zC]
    refine tA (some 47) 7 rfl rfl hS0 ?_
    try simp only [Act.put, zA, zB, zC]
    refine tA (some 48) 8 rfl rfl hS0 ?_
    try simp only [Act.put, zA, zB, zC]
    refine tG (some 49) 9 ?vca9x8 rfl rfl (Or.inl ⟨by rfl, ?hca9x8⟩) hS0 ?rca9x8
    case hca9x8 => (intro wx hw; have q9 := HCl.out wx hw; go_simp; try (with_reducible rfl))
    try simp only [Act.put, zA, zB, zC]
    refine tA (some 52) 12 rfl rfl hS0 ?_
    try simp only [Act.put, zA, zB, zC]
    refine tA (some 53) 13 rfl rfl hS0 ?_
    try simp only [Act.put, zA, zB, zC]
    refine tA (some 55) 15 rfl rfl hS0 ?_
    try simp only [Act.put, zA, zB, zC]
    refine wpAnyH_ready (rs := [3, 10]) (by kernel_rfl) (by simp) ?_
    refine AllReadyH.cons rfl (fun K hK => ?_) (AllReadyH.cons rfl (fun K hK => ?_) AllReadyH.nil)
    ·
     go_simp
     have k12 := below_then kd (box_below wd (.cells #[] 3))
     have o12 : (wd.alloc (.cells #[] 3)).ownsRow wr.heap.size 3 1 (.slice (some ⟨wd.heap.size, 0, none⟩) 0 0) 0 [] := World.ownsRow_lit (size := 1) _ _ _ kd.size (by simp) (by simp)
     refine hK.out _ _ k12 (fun _ => ?_)
     clear hK K
     refine wpAnyH_ready (rs := [5, 10]) (by kernel_rfl) (by simp) ?_
     refine AllReadyH.cons rfl (fun K hK => ?_) (AllReadyH.cons rfl (fun K hK => ?_) AllReadyH.nil)
     ·
      obtain ⟨a13, d13, w13, q13, o13, g13⟩ := run_copy 34 o12 (HRr.out _ k12) HLE.out k12.size
      have HQ13 := hid q13
      have k13 := k12.grown g13 k12.size (fun j hj => by cases hj; exact kd.size)
      refine step_append_run _ rfl (.tmp 43) (.tmp 44) 34 rfl (by simp [Act.eval]) (by simp [Act.eval]) HQ13.out ?_
      refine hK.out _ _ k13 (fun _ => ?_)
      clear hK K q13 HQ13
      try simp only [Act.put, zA, zB, zC]
      refine rD 10 rfl (fun K hK => ?_)
      go_simp
      have k14 := below_then k13 (box_below w13 (.cells #[.int .i64 (x : Int)] 3))
      have c14 := ints_one w13 x
      have o14 := o13.alloc (.cells #[.int .i64 (x : Int)] 3)
      refine hK.out _ _ k14 (fun _ => ?_)
      clear hK K
      refine rD 11 rfl (fun K hK => ?_)
      obtain ⟨a15, d15, w15, q15, i15, g15⟩ := run_more 34 o14 c14 HLE.out k14.size
      have HQ15 := hid q15
      have k15 := k14.grown g15 k14.size (fun j hj => (o14.lt j hj).1)
      refine step_append_run _ rfl (.tmp 45) (.tmp 50) 34 rfl (by simp [Act.eval]) (by simp [Act.eval]) HQ15.out ?_
      refine hK.out _ _ k15 (fun _ => ?_)
      clear hK K q15 HQ15 g15
      try simp only [Act.put, zA, zB, zC]
      refine rD 14 rfl (fun K hK => ?_)
      go_simp
      refine (CW.out _ k15).mono ?_
      rintro e y16 ⟨⟨v16, rfl, m16⟩, j16⟩
      show K _ _
      have s16 := below_then k15 j16
      have i16 := i15.below j16
      refine hK.out _ _ s16 (fun _ => ?_)
      clear hK K
      refine rD 16 rfl (fun K hK => ?_)
      go_simp
      refine (IHC.out _ _ _ s16 i16 m16).mono ?_
      rintro e y17 ⟨rfl, j17⟩
      show K _ _
      have s17 := below_then s16 j17
      refine hK.out _ _ s17 (fun _ => ?_)
      clear hK K
      refine tA (some 57) 17 rfl rfl s17 ?_
      try simp only [Act.put, zA, zB, zC]
      refine tA (some 13) 18 rfl rfl s17 ?_
      try simp only [Act.put, zA, zB, zC]
      refine wpAnyH_done (by kernel_rfl) ?_ _
      have HB3 := hid (HB2.out _ s17)
      go_wp2_with fail
      go_roundw
      case rel => exact ⟨i + 1, cn, by omega, by omega, by go_num, by first | rfl | rw [hwr] | rw [hwr2] | go_num, hid HMS.out.symm, HB3⟩
      case measure => simp only [intOf]; omega
     ·
      go_simp
      have k20 := below_then k12 (box_below (wd.alloc (.cells #[] 3)) (.cells #[.int .i64 (x : Int)] 3))
      have c20 := ints_one (wd.alloc (.cells #[] 3)) x
      have o20 := o12.alloc (.cells #[.int .i64 (x : Int)] 3)
      refine hK.out _ _ k20 (fun _ => ?_)
      clear hK K
      refine rD 5 rfl (fun K hK => ?_)
      obtain ⟨a21, d21, w21, q21, o21, g21⟩ := run_copy 34 o20 (HRr.out _ k20) HLE.out k20.size
      have HQ21 := hid q21
      have k21 := k20.grown g21 k20.size (fun j hj => by cases hj; exact kd.size)
      have c21 := c20.grown g21 (fun b hb => by cases hb; simp [Value.ownBlock])
      refine step_append_run _ rfl (.tmp 43) (.tmp 44) 34 rfl (by simp [Act.eval]) (by simp [Act.eval]) HQ21.out ?_
      refine hK.out _ _ k21 (fun _ => ?_)
      clear hK K q21 HQ21
      try simp only [Act.put, zA, zB, zC]
      refine rD 11 rfl (fun K hK => ?_)
      obtain ⟨a22, d22, w22, q22, i22, g22⟩ := run_more 34 o21 c21 HLE.out k21.size
      have HQ22 := hid q22
      have k22 := k21.grown g22 k21.size (fun j hj => (o21.lt j hj).1)
      refine step_append_run _ rfl (.tmp 45) (.tmp 50) 34 rfl (by simp [Act.eval]) (by simp [Act.eval]) HQ22.out ?_
      refine hK.out _ _ k22 (fun _ => ?_)
      clear hK K q22 HQ22 g22
      try simp only [Act.put, zA, zB, zC]
      refine rD 14 rfl (fun K hK => ?_)
      go_simp
      refine (CW.out _ k22).mono ?_
      rintro e y23 ⟨⟨v23, rfl, m23⟩, j23⟩
      show K _ _
      have s23 := below_then k22 j23
      have i23 := i22.below j23
      refine hK.out _ _ s23 (fun _ => ?_)
      clear hK K
      refine rD 16 rfl (fun K hK => ?_)
      go_simp
      refine (IHC.out _ _ _ s23 i23 m23).mono ?_
      rintro e y24 ⟨rfl, j24⟩
      show K _ _
      have s24 := below_then s23 j24
      refine hK.out _ _ s24 (fun _ => ?_)
      clear hK K
      refine tA (some 57) 17 rfl rfl s24 ?_
      try simp only [Act.put, zA, zB, zC]
      refine tA (some 13) 18 rfl rfl s24 ?_
      try simp only [Act.put, zA, zB, zC]
      refine wpAnyH_done (by kernel_rfl) ?_ _
      have HB3 := hid (HB2.out _ s24)
      go_wp2_with fail
      go_roundw
      case rel => exact ⟨i + 1, cn, by omega, by omega, by go_num, by first | rfl | rw [hwr] | rw [hwr2] | go_num, hid HMS.out.symm, HB3⟩
      case measure => simp only [intOf]; omega
    ·
     go_simp
     have k27 := below_then kd (box_below wd (.cells #[.int .i64 (x : Int)] 3))
     have c27 := ints_one wd x
     refine hK.out _ _ k27 (fun _ => ?_)
     clear hK K
     refine rD 3 rfl (fun K hK => ?_)
     go_simp
     have k28 := below_then k27 (box_below (wd.alloc (.cells #[.int .i64 (x : Int)] 3)) (.cells #[] 3))
     have o28 : ((wd.alloc (.cells #[.int .i64 (x : Int)] 3)).alloc (.cells #[] 3)).ownsRow wr.heap.size 3 1 (.slice (some ⟨(wd.alloc (.cells #[.int .i64 (x : Int)] 3)).heap.size, 0, none⟩) 0 0) 0 [] := World.ownsRow_lit (size := 1) _ _ _ k27.size (by simp) (by simp)
     have c28 := c27.below (box_below (wd.alloc (.cells #[.int .i64 (x : Int)] 3)) (.cells #[] 3))
     refine hK.out _ _ k28 (fun _ => ?_)
     clear hK K
     refine rD 5 rfl (fun K hK => ?_)
     obtain ⟨a29, d29, w29, q29, o29, g29⟩ := run_copy 34 o28 (HRr.out _ k28) HLE.out k28.size
     have HQ29 := hid q29
     have k29 := k28.grown g29 k28.size (fun j hj => by cases hj; exact k27.size)
     have c29 := c28.grown g29 (fun b hb => by cases hb; simp [Value.ownBlock])
     refine step_append_run _ rfl (.tmp 43) (.tmp 44) 34 rfl (by simp [Act.eval]) (by simp [Act.eval]) HQ29.out ?_
     refine hK.out _ _ k29 (fun _ => ?_)
     clear hK K q29 HQ29
     try simp only [Act.put, zA, zB, zC]
     refine rD 11 rfl (fun K hK => ?_)
     obtain ⟨a30, d30, w30, q30, i30, g30⟩ := run_more 34 o29 c29 HLE.out k29.size
     have HQ30 := hid q30
     have k30 := k29.grown g30 k29.size (fun j hj => (o29.lt j hj).1)
     refine step_append_run _ rfl (.tmp 45) (.tmp 50) 34 rfl (by simp [Act.eval]) (by simp [Act.eval]) HQ30.out ?_
     refine hK.out _ _ k30 (fun _ => ?_)
     clear hK K q30 HQ30 g30
     try simp only [Act.put, zA, zB, zC]
     refine rD 14 rfl (fun K hK => ?_)
     go_simp
     refine (CW.out _ k30).mono ?_
     rintro e y31 ⟨⟨v31, rfl, m31⟩, j31⟩
     show K _ _
     have s31 := below_then k30 j31
     have i31 := i30.below j31
     refine hK.out _ _ s31 (fun _ => ?_)
     clear hK K
     refine rD 16 rfl (fun K hK => ?_)
     go_simp
     refine (IHC.out _ _ _ s31 i31 m31).mono ?_
     rintro e y32 ⟨rfl, j32⟩
     show K _ _
     have s32 := below_then s31 j32
     refine hK.out _ _ s32 (fun _ => ?_)
     clear hK K
     refine tA (some 57) 17 rfl rfl s32 ?_
     try simp only [Act.put, zA, zB, zC]
     refine tA (some 13) 18 rfl rfl s32 ?_
     try simp only [Act.put, zA, zB, zC]
     refine wpAnyH_done (by kernel_rfl) ?_ _
     have HB3 := hid (HB2.out _ s32)
     go_wp2_with fail
     go_roundw
     case rel => exact ⟨i + 1, cn, by omega, by omega, by go_num, by first | rfl | rw [hwr] | rw [hwr2] | go_num, hid HMS.out.symm, HB3⟩
     case measure => simp only [intOf]; omega
   ·obtain rfl : i = left.length := by omega
    have HV : Hid ((0 : Int) = ((one1 (cntL (keptL h lv) (k + 1) r left) : Nat) : Int)) := hid (by rw [← cnlTo_all, ← HM.out]; rfl)
    go_wp2_with fail
    go_ret
    exact ⟨ret_i HV.out, HB.out⟩
end

section
open Go.RowKit
theorem count_first {n : Nat} {p : List Nat → Bool} : (0 < (ordersN n).countP p) ↔ ((ordersN n).find? p).isSome = true := by
 rw [List.countP_pos_iff, List.find?_isSome]
end

section
open Go.RowKit
theorem rest_nil (n : Nat) : restN n [] = List.range n := by unfold restN; simp
end

section
open Go.RowKit
theorem decW_some {h : List TxnV} {lv : Int} (hc : checkI h = 0) : (decW h lv).2.2 = ((ordersN h.length).find? (keptL h lv)).isSome := by
 rw [decW_yes, ← dec_first hc, Option.isSome_map]
theorem decW_none (h : List TxnV) (lv : Int) : (decW h lv).2.2 = false → (decW h lv).1 = [] ∧ (decW h lv).2.1 = [] := by
 unfold decW
 cases (decN h lv).1 with
 | none => intro _; exact ⟨rfl, rfl⟩
 | some r => intro e; cases e
theorem raccepts_any (va : Value) (h : List TxnV) (lv : Int) (w : World) (hc : checkI h = 0) (hn : h.length ≤ 6) (hT : Txns w va h) :
  Calls Tryz.prog 21 #[va, .int .i64 lv] w fun e w' => e = .returned (.bool (decW h lv).2.2) ∧ Below w.heap.size w w' := by
 have CA := hid (rall_any h.length (by omega) w)
 have CC := hid (fun vl wx (hx : Below w.heap.size w wx) hl => rcount1_any va h lv hc hn h.length (.slice none 0 0) vl [] (List.range h.length) wx List.length_range (by rw [List.nil_append]) (hT.below hx) (ints_nil wx) hl)
 have HE : Hid (cntL (keptL h lv) h.length [] (List.range h.length) = (ordersN h.length).countP (keptL h lv)) := hid (by rw [← rest_nil, cntL_exts]; rfl)
 rw [HE.out] at CC
 have HV : Hid ((decW h lv).2.2 = decide (0 < (ordersN h.length).countP (keptL h lv))) := hid (by
  rw [decW_some hc, Bool.eq_iff_iff, decide_eq_true_eq]; exact count_first.symm)
 rw [HV.out]
 have HO : Hid (∀ n, (0 < n → one1 n = 1) ∧ (¬ 0 < n → one1 n = 0)) := hid (fun n => by unfold one1; exact ⟨fun q => if_pos q, fun q => if_neg q⟩)
 obtain ⟨ao, cap, rfl, hal⟩ := hT.form
 clear hT hc HE HV
 generalize (ordersN h.length).countP (keptL h lv) = n at *
 by_cases hp : 0 < n
 ·rw [(HO.out n).1 hp] at CC
  rw [decide_eq_true hp]
  clear HO hp
  go_enter Tryz.func21, Tryz.ntmps21
  go_wp2_with fail
  refine (CA.out).mono ?_
  rintro e w1 ⟨⟨v, rfl, hI⟩, h1⟩
  have C2 := hid (CC.out v w1 h1 hI)
  go_wp2_with fail
  refine (C2.out).mono ?_
  rintro e w2 ⟨rfl, h2⟩
  have h2 := below_then h1 h2
  go_wp2_with fail
  go_ret
  exact ⟨rfl, h2⟩
 ·rw [(HO.out n).2 hp] at CC
  rw [decide_eq_false hp]
  clear HO hp
  go_enter Tryz.func21, Tryz.ntmps21
  go_wp2_with fail
  refine (CA.out).mono ?_
  rintro e w1 ⟨⟨v, rfl, hI⟩, h1⟩
  have C2 := hid (CC.out v w1 h1 hI)
  go_wp2_with fail
  refine (C2.out).mono ?_
  rintro e w2 ⟨rfl, h2⟩
  have h2 := below_then h1 h2
  go_wp2_with fail
  go_ret
  exact ⟨rfl, h2⟩
end

section
open Go.RowKit
theorem least_ex (h : List TxnV) (x : Nat) (L : List Int) : ∃ X : Mat, LeastIs h x L X := by
 classical
 exact ⟨fun i j => decide (Must (startM h (x : Int) (chainR L)) (chainR L) (trB x) (pfB x) i j), fun i j _ _ => by rw [decide_eq_true_eq]⟩
section
variable {h : List TxnV}
theorem kept_implied (hc : checkI h = 0) {a b : Int} (hi : impB a b = true) {L : List Nat} (hp : L.Perm (List.range h.length)) (hk : keptL h a L = true) : keptL h b L = true := by
 obtain ⟨X, hX⟩ := least_ex h (askN a) (L.map Int.ofNat)
 obtain ⟨Y, hY⟩ := least_ex h (askN b) (L.map Int.ofNat)
 rw [← kept_holds hc a hp hX] at hk
 have hnd : (L.map Int.ofNat).Nodup := nodup_ofNat (hp.nodup_iff.2 List.nodup_range)
 have h2 := least_holds (check_zero hc).1 (implied_holds hc hnd hk hi) hY
 rwa [kept_holds hc b hp hY] at h2
theorem dec_implied (hc : checkI h = 0) {a b : Int} (hi : impB a b = true) (hk : (decW h a).2.2 = true) : (decW h b).2.2 = true := by
 rw [decW_some hc] at hk ⊢
 rw [List.find?_isSome] at hk ⊢
 obtain ⟨L, hL, hk⟩ := hk
 exact ⟨L, hL, kept_implied hc hi (orders_perm hL) hk⟩
theorem opn_no {r : Nat → Bool} {l : Nat} (ho : opn r l = false) : ∃ k, k < l ∧ r k = false ∧ impB (l : Int) (k : Int) = true := by
 unfold opn opnTo at ho
 rw [List.all_eq_false] at ho
 obtain ⟨k, hk, hn⟩ := ho
 refine ⟨k, List.mem_range.1 hk, ?_⟩
 simpa using hn
theorem shut_no (hc : checkI h = 0) {r : Nat → Bool} {l : Nat} (hr : ∀ i, i < l → r i = (decW h (i : Int)).2.2) (ho : opn r l = false) : (decW h (l : Int)).2.2 = false := by
 obtain ⟨k, hk, h1, h2⟩ := opn_no ho
 cases e : (decW h (l : Int)).2.2 with
 | false => rfl
 | true =>
  have := dec_implied hc h2 e
  rw [← hr k hk, h1] at this
  cases this
theorem vec_row (hc : checkI h = 0) : ∀ j i, (vecTo h j).1 i = (decide (i < j) && (decW h (i : Int)).2.2)
 | 0, i => by simp [vecTo_zero, noB]
 | j + 1, i => by
  have ih := vec_row hc j
  cases ho : opn (vecTo h j).1 j with
  | true =>
   rw [vecTo_open ho]
   show rSet (vecTo h j).1 j _ i = _
   unfold rSet
   by_cases e : i = j
   ·subst e; simp
   ·rw [if_neg e, ih]
    congr 1
    rw [Bool.eq_iff_iff, decide_eq_true_eq, decide_eq_true_eq]; omega
  | false =>
   rw [vecTo_shut ho, ih]
   have hn := shut_no hc (r := (vecTo h j).1) (l := j) (fun i hi => by rw [ih, decide_eq_true hi, Bool.true_and]) ho
   by_cases e : i = j
   ·subst e; rw [hn]; simp
   ·congr 1
    rw [Bool.eq_iff_iff, decide_eq_true_eq, decide_eq_true_eq]; omega
theorem vec_bound (M : Nat) (hM : ∀ l : Nat, l < 12 → (decN h (l : Int)).2.2 ≤ M) : ∀ j, j ≤ 12 → (vecTo h j).2 ≤ j * M
 | 0, _ => by rw [vecTo_zero]; exact Nat.zero_le _
 | j + 1, hj => by
  have ih := vec_bound M hM j (by omega)
  have := hM j (by omega)
  rw [Nat.succ_mul]
  cases ho : opn (vecTo h j).1 j with
  | true => rw [vecTo_open ho]; show (vecTo h j).2 + _ ≤ _; omega
  | false => rw [vecTo_shut ho]; omega
end
def accV (h : List TxnV) (i : Nat) : Bool := (decW h (i : Int)).2.2
def vecF (r : Nat → Bool) (ws : Nat → Value × Value) (i : Nat) : Value := if i < 12 then .bool (r i) else if i % 2 = 0 then (ws ((i - 12) / 2)).1 else (ws ((i - 12) / 2)).2
def vecL (r : Nat → Bool) (ws : Nat → Value × Value) : List Value := (List.range 36).map (vecF r ws)
def wZ0 : Nat → Value × Value := fun _ => (.slice none 0 0, .slice none 0 0)
def updW (ws : Nat → Value × Value) (k : Nat) (u : Value × Value) : Nat → Value × Value := fun i => if i = k then u else ws i
theorem vecL_len (r : Nat → Bool) (ws : Nat → Value × Value) : (vecL r ws).length = 36 := by unfold vecL; simp
theorem vecL_at (r : Nat → Bool) (ws : Nat → Value × Value) {i : Nat} (hi : i < 36) : (vecL r ws)[i]? = some (vecF r ws i) := by unfold vecL; simp [hi]
theorem vecL_congr {r s : Nat → Bool} {ws : Nat → Value × Value} (h : ∀ i, i < 12 → r i = s i) : vecL r ws = vecL s ws := by
 unfold vecL
 refine List.map_congr_left fun i _ => ?_
 unfold vecF
 split
 ·rename_i e; rw [h i e]
 ·rfl
theorem vecL_one {r : Nat → Bool} {ws : Nat → Value × Value} (h : ∀ i, i < 12 → (ws i).1.oneCell' = true ∧ (ws i).2.oneCell' = true) : (vecL r ws).toArray.all (·.oneCell') = true := by
 refine all_oneCell_toArray fun v hv => ?_
 unfold vecL at hv
 obtain ⟨i, hi, rfl⟩ := List.mem_map.1 hv
 have hi := List.mem_range.1 hi
 unfold vecF
 split
 ·rfl
 ·split
  ·exact (h _ (by omega)).1
  ·exact (h _ (by omega)).2
def VecAt (w : World) (g : Nat) (r : Nat → Bool) (ws : Nat → Value × Value) : Prop := ∀ i, i < 36 → w.cell? ⟨g, i, none⟩ = some (vecF r ws i) ∧ w.frozen? ⟨g, i, none⟩ = false
section
variable {w w' : World} {g : Nat} {r : Nat → Bool} {ws : Nat → Value × Value}
theorem VecAt.lt (h : VecAt w g r ws) : g < w.heap.size := block_lt (h 0 (by omega)).1
theorem VecAt.below {B : Nat} (h : VecAt w g r ws) (hb : Below B w w') (hB : g < B) : VecAt w' g r ws := fun i hi => by
 rw [hb.cell (p := ⟨g, i, none⟩) hB, hb.frozen (p := ⟨g, i, none⟩) hB]; exact h i hi
theorem VecAt.grown {row : Option Nat} (h : VecAt w g r ws) (hg : w.grownBy w' row) (hne : some g ≠ row) : VecAt w' g r ws := fun i hi => by
 obtain ⟨h1, h2⟩ := h i hi
 have hb : w'.heap[g]? = w.heap[g]? := hg.block g h.lt hne
 refine ⟨by unfold World.cell? at *; rw [hb]; exact h1, by unfold World.frozen? at *; rw [hb]; exact h2⟩
theorem VecAt.made (w : World) (t : TypeId) (r : Nat → Bool) (ws : Nat → Value × Value) : VecAt (w.alloc (.cells (vecL r ws).toArray t)) w.heap.size r ws := fun i hi => by
 have hn := heap_alloc_new w (.cells (vecL r ws).toArray t)
 refine ⟨?_, frozen_of_row _ _ _ _ _ hn⟩
 rw [cell_of_row _ _ _ _ _ _ hn]
 simpa using vecL_at r ws hi
theorem VecAt.setR (h : VecAt w g r ws) {k : Nat} (hk : k < 12) (v : Bool) : VecAt (w.setCell ⟨g, k, none⟩ (.bool v)) g (rSet r k v) ws := fun i hi => by
 rw [World.frozen?_setCell]
 refine ⟨?_, (h i hi).2⟩
 by_cases e : i = k
 ·subst e
  rw [World.cell?_setCell_same _ _ _ (h i hi).1]
  unfold vecF rSet; rw [if_pos hk, if_pos rfl]
 ·rw [World.cell?_setCell_other _ _ _ _ (fun q => by injection q with q1 q2; exact e q2.symm), (h i hi).1]
  unfold vecF rSet
  split
  ·rfl
  ·rfl
theorem VecAt.setW (h : VecAt w g r ws) {k : Nat} (hk : k < 12) (x y : Value) : VecAt (w.setCells g (12 + 2 * k) [x, y]) g r (updW ws k (x, y)) := fun i hi => by
 have e : w.setCells g (12 + 2 * k) [x, y] = (w.setCell ⟨g, 12 + 2 * k, none⟩ x).setCell ⟨g, 12 + 2 * k + 1, none⟩ y := rfl
 rw [e, World.frozen?_setCell, World.frozen?_setCell]
 refine ⟨?_, (h i hi).2⟩
 by_cases e0 : i = 12 + 2 * k
 ·subst e0
  rw [World.cell?_setCell_other _ _ _ _ (fun q => by injection q with q1 q2; omega), World.cell?_setCell_same _ _ _ (h _ hi).1]
  unfold vecF updW
  rw [if_neg (by omega), if_pos (by omega), if_pos (by omega)]
 ·by_cases e1 : i = 12 + 2 * k + 1
  ·subst e1
   have hc : (w.setCell ⟨g, 12 + 2 * k, none⟩ x).cell? ⟨g, 12 + 2 * k + 1, none⟩ = some (vecF r ws (12 + 2 * k + 1)) := by
    rw [World.cell?_setCell_other _ _ _ _ (fun q => by injection q with q1 q2; omega)]; exact (h _ hi).1
   rw [World.cell?_setCell_same _ _ _ hc]
   unfold vecF updW
   rw [if_neg (by omega), if_neg (by omega), if_pos (by omega)]
  ·rw [World.cell?_setCell_other _ _ _ _ (fun q => by injection q with q1 q2; omega), World.cell?_setCell_other _ _ _ _ (fun q => by injection q with q1 q2; omega), (h i hi).1]
   unfold vecF updW
   split
   ·rfl
   ·rw [if_neg (show ¬ (i - 12) / 2 = k by omega)]
theorem VecAt.row (h : VecAt w g r ws) : w.rangeAt g 0 (rowB r).toList := fun j v hv => by
 have hj : j < 12 := by
  have := (List.getElem?_eq_some_iff.1 hv).1
  simpa [rowB] using this
 rw [Nat.zero_add, (h j (by omega)).1, ← hv]
 unfold vecF
 rw [if_pos hj]
 simp [rowB, hj]
theorem VecAt.all (h : VecAt w g r ws) : w.rangeAt g 0 (vecL r ws) := fun j v hv => by
 have hj : j < 36 := by
  have := (List.getElem?_eq_some_iff.1 hv).1
  rwa [vecL_len] at this
 rw [Nat.zero_add, (h j hj).1, ← hv, vecL_at r ws hj]
theorem VecAt.there (h : VecAt w g r ws) {o n : Nat} (ho : o + n ≤ 36) : w.there g o n := fun j hj => by
 obtain ⟨h1, h2⟩ := h (o + j) (by omega)
 exact ⟨by rw [h1]; rfl, h2⟩
theorem VecAt.put (h : VecAt w g r ws) (s : Nat → Bool) (us : Nat → Value × Value) : VecAt (w.setCells g 0 (vecL s us)) g s us := fun i hi => by
 rw [World.frozen?_setCells]
 refine ⟨?_, (h i hi).2⟩
 have := World.cell?_setCells_in g (vecL s us) 0 w (fun j hj => by rw [vecL_len] at hj; rw [Nat.zero_add, (h j hj).1]; rfl) i (by rw [vecL_len]; exact hi)
 rw [Nat.zero_add] at this
 rw [this]
 unfold vecL; simp
end
section
variable {w w' : World} {b0 : Nat} {vo vs : Value} {l : List Int} {LL : List (List Int)}
theorem OwnW.nil (w : World) (b0 : Nat) : OwnW w b0 (.slice none 0 0) (.slice none 0 0) [] [] := ⟨World.ownsRow_nil _ _ _ _, [], OwnK.nil _ _, rfl⟩
theorem OwnW.below (h : OwnW w b0 vo vs l LL) (hb : Below w.heap.size w w') : OwnW w' b0 vo vs l LL := by
 obtain ⟨h1, KL, h2, h3⟩ := h
 exact ⟨owns_below h1 hb, KL, h2.below hb, h3⟩
theorem OwnW.base {b1 : Nat} (h : OwnW w b0 vo vs l LL) (hb : b1 ≤ b0) : OwnW w b1 vo vs l LL := by
 obtain ⟨h1, KL, h2, h3⟩ := h
 exact ⟨own_base' h1 hb, KL, h2.base hb, h3⟩
theorem own_row_ne {e : TypeId} {s n T : Nat} {v : Value} {xs : List Value} (h : w.ownsRow b0 e s v n xs) (hT : T < b0) : v.ownBlock = none ∨ v.ownBlock ≠ some T := by
 rcases h.2 with ⟨rfl, _⟩ | ⟨g, cap, cur, rfl, _, _, _⟩
 ·exact .inl rfl
 ·right
  intro e
  have := (h.lt _ e).1
  omega
theorem OwnW.kept {T : Nat} (h : OwnW w b0 vo vs l LL) (hg : w.grownBy w' (some T)) (hT : T < b0) : OwnW w' b0 vo vs l LL := by
 obtain ⟨h1, KL, h2, h3⟩ := h
 exact ⟨World.ownsRow.kept h1 hg (own_row_ne h1 hT), KL, ⟨World.ownsRow.kept h2.kr hg (own_row_ne h2.kr hT), fun p hp => World.ownsRow.kept (h2.ke p hp) hg (own_row_ne (h2.ke p hp) hT)⟩, h3⟩
theorem OwnW.far (h : OwnW w b0 vo vs l LL) {p : Addr} (hp : p.block < b0) (u : Value) : OwnW (w.setCell p u) b0 vo vs l LL := by
 obtain ⟨h1, KL, h2, h3⟩ := h
 exact ⟨pl_far h1 hp u, KL, h2.far hp u, h3⟩
theorem OwnW.cells (h : OwnW w b0 vo vs l LL) {g : Nat} (hg : g < b0) (o : Nat) (xs : List Value) : OwnW (w.setCells g o xs) b0 vo vs l LL := by
 obtain ⟨h1, KL, h2, h3⟩ := h
 exact ⟨owns_cells hg xs o w h1, KL, ⟨owns_cells hg xs o w h2.kr, fun p hp => owns_cells hg xs o w (h2.ke p hp)⟩, h3⟩
theorem OwnW.form (h : OwnW w b0 vo vs l LL) : ∃ oo n oc so m sc, vo = .slice oo n oc ∧ vs = .slice so m sc := by
 obtain ⟨h1, KL, h2, _⟩ := h
 obtain ⟨oo, oc, e1⟩ := own_form h1
 obtain ⟨so, sc, e2⟩ := own_form h2.kr
 exact ⟨oo, _, oc, so, _, sc, e1, e2⟩
end
section
variable {w0 w : World} {B b : Nat} {h : List TxnV}
theorem sdecide_own (lv : Int) (T F U : Nat) (hO : OrdIs w0 B b h) (ht : Tab w0) (hK : Kinds w0) (hc : checkI h = 0) (hb : Below w0.heap.size w0 w) (hT : w0.heap.size ≤ T) (hm : MtAt w T F U)
  (hM : (decN h lv).2.2 + 2 ≤ 1099511627776) (hU : F = 4611686018427387904 → U + (decN h lv).2.2 ≤ 4611686018427387904) (hl : Lasts F U (decN h lv).2.2) :
  Calls Tryz.prog 34 #[.pointer (some ⟨B, 0, none⟩), .int .i64 lv, .pointer (some ⟨T, 0, none⟩)] w fun e w' =>
   ∃ vo vs, e = .returned (.tuple #[.agg #[vo, vs], .bool (decW h lv).2.2, .int .i64 0]) ∧ OwnW w' w.heap.size vo vs (decW h lv).1 (decW h lv).2.1 ∧ MtAt w' T F (U + (decN h lv).2.2) ∧ w.grownBy w' (some T) := by
 refine (sdecide_any lv T F U hO ht hK hc hb hT hm hM hU).mono ?_
 rintro e w' ⟨hg, hr⟩
 rcases hr with ⟨_, hm', hr⟩ | ⟨hn, _⟩
 ·rcases hr with ⟨hd, rfl⟩ | ⟨r, vo, vs, hd, _, _, rfl, _, _, hW⟩
  ·refine ⟨_, _, by rw [decW_yes, hd]; rfl, ?_, hm', hg⟩
   unfold decW; rw [hd]; exact OwnW.nil _ _
  ·refine ⟨vo, vs, by rw [decW_yes, hd]; rfl, ?_, hm', hg⟩
   unfold decW; rw [hd]; exact hW
 ·exact (hn hl).elim
end
theorem results_vec {fn : Func} {p u : Tmp} (h : fn.results = #[.cell p 40, .tmp u]) (tmps : Array Value) (w : World) (g : Nat) (r : Nat → Bool) (ws : Nat → Value × Value)
  (hp : tmps.getD p undef = .pointer (some ⟨g, 0, none⟩)) (hg : VecAt w g r ws) : (results fn tmps).run Tryz.prog w = .ok (.tuple #[.agg (vecL r ws).toArray, tmps.getD u undef]) w := by
 have hp' : tmps[p]?.getD undef = .pointer (some ⟨g, 0, none⟩) := by simpa using hp
 simp [results, h, hp', asAddr, run_loadVar_mid w g 0 40 (vecL r ws) _ hg.all Tryz.underlying40 rfl (by kernel_rfl)]
end

section
open Go.RowKit
theorem vec_zero : #[.bool false, .bool false, .bool false, .bool false, .bool false, .bool false, .bool false, .bool false, .bool false, .bool false, .bool false, .bool false, .slice none 0 0, .slice none 0 0, .slice none 0 0, .slice none 0 0, .slice none 0 0, .slice none 0 0, .slice none 0 0, .slice none 0 0, .slice none 0 0, .slice none 0 0, .slice none 0 0, .slice none 0 0, .slice none 0 0, .slice none 0 0, .slice none 0 0, .slice none 0 0, .slice none 0 0, .slice none 0 0, .slice none 0 0, .slice none 0 0, .slice none 0 0, .slice none 0 0, .slice none 0 0, .slice none 0 0] = (vecL noB wZ0).toArray := by kernel_rfl
theorem VecAt.zero (w : World) : VecAt (w.alloc (.cells #[.bool false, .bool false, .bool false, .bool false, .bool false, .bool false, .bool false, .bool false, .bool false, .bool false, .bool false, .bool false, .slice none 0 0, .slice none 0 0, .slice none 0 0, .slice none 0 0, .slice none 0 0, .slice none 0 0, .slice none 0 0, .slice none 0 0, .slice none 0 0, .slice none 0 0, .slice none 0 0, .slice none 0 0, .slice none 0 0, .slice none 0 0, .slice none 0 0, .slice none 0 0, .slice none 0 0, .slice none 0 0, .slice none 0 0, .slice none 0 0, .slice none 0 0, .slice none 0 0, .slice none 0 0, .slice none 0 0] 40)) w.heap.size noB wZ0 := by rw [vec_zero]; exact VecAt.made w _ noB wZ0
def VofRes (h : List TxnV) (F : Nat) (w : World) (e : Ending) (w' : World) : Prop :=
 Below w.heap.size w w' ∧ ((Lasts F 0 (vecTo h 12).2 ∧ ∃ ws, e = .returned (.tuple #[.agg (vecL (accV h) ws).toArray, .int .i64 0]) ∧ ∀ i, i < 12 → OwnW w' w.heap.size (ws i).1 (ws i).2 (decW h (i : Int)).1 (decW h (i : Int)).2.1) ∨
  (¬ Lasts F 0 (vecTo h 12).2 ∧ e = .returned (.tuple #[.agg (vecL noB wZ0).toArray, .int .i64 4])))
structure VecOn (h : List TxnV) (w : World) (g b0 k : Nat) (ws : Nat → Value × Value) (W : World) : Prop where
 at_ : VecAt W g (vecTo h k).1 ws
 own : ∀ i, i < 12 → OwnW W b0 (ws i).1 (ws i).2 (if i < k then (decW h (i : Int)).1 else []) (if i < k then (decW h (i : Int)).2.1 else [])
 bel : Below w.heap.size w W
section
variable {h : List TxnV} {w W W' : World} {g b0 k : Nat} {ws : Nat → Value × Value}
theorem VecOn.grown {T : Nat} (q : VecOn h w g b0 k ws W) (hg : W.grownBy W' (some T)) (hT : T < b0) (hgT : g ≠ T) (hw : w.heap.size ≤ T) : VecOn h w g b0 k ws W' :=
 ⟨q.at_.grown hg (fun e => hgT (Option.some.inj e)), fun i hi => (q.own i hi).kept hg hT, q.bel.grown hg q.bel.size (fun j hj => by cases hj; exact hw)⟩
theorem VecOn.below (q : VecOn h w g b0 k ws W) (hb : Below W.heap.size W W') : VecOn h w g b0 k ws W' := ⟨q.at_.below hb q.at_.lt, fun i hi => (q.own i hi).below hb, below_then q.bel hb⟩
theorem heap_three (w : World) (g k o : Nat) (a x y : Value) {j : Nat} (hj : j ≠ g) : ((w.setCell ⟨g, k, none⟩ a).setCells g o [x, y]).heap[j]? = w.heap[j]? := by
 have e : (w.setCell ⟨g, k, none⟩ a).setCells g o [x, y] = ((w.setCell ⟨g, k, none⟩ a).setCell ⟨g, o, none⟩ x).setCell ⟨g, o + 1, none⟩ y := rfl
 rw [e, Below.heap_setCell _ _ _ _ hj, Below.heap_setCell _ _ _ _ hj, Below.heap_setCell _ _ _ _ hj]
theorem VecAt.apart {r : Nat → Bool} (h : VecAt w g r ws) {g' : Nat} (hne : g ≠ g') (i o : Nat) (a x y : Value) : VecAt ((w.setCell ⟨g', i, none⟩ a).setCells g' o [x, y]) g r ws := fun j hj => by
 obtain ⟨h1, h2⟩ := h j hj
 have hb := heap_three w g' i o a x y hne
 exact ⟨by unfold World.cell? at *; rw [hb]; exact h1, by unfold World.frozen? at *; rw [hb]; exact h2⟩
theorem MtAt.apart {T F U : Nat} (h : MtAt w T F U) {g' : Nat} (hne : T ≠ g') (i o : Nat) (a x y : Value) : MtAt ((w.setCell ⟨g', i, none⟩ a).setCells g' o [x, y]) T F U := h.block (heap_three w g' i o a x y hne)
theorem VecOn.shut (q : VecOn h w g b0 k ws W) (hc : checkI h = 0) (ho : opn (vecTo h k).1 k = false) : VecOn h w g b0 (k + 1) ws W := by
 refine ⟨by rw [vecTo_shut ho]; exact q.at_, fun i hi => ?_, q.bel⟩
 have h1 := q.own i hi
 by_cases e : i < k
 ·rw [if_pos e] at h1; rw [if_pos e] at h1; rw [if_pos (show i < k + 1 by omega), if_pos (show i < k + 1 by omega)]; exact h1
 ·rw [if_neg e] at h1; rw [if_neg e] at h1
  by_cases e2 : i = k
  ·subst e2
   have hn := shut_no hc (r := (vecTo h i).1) (l := i) (fun j hj => by rw [vec_row hc, decide_eq_true hj, Bool.true_and]) ho
   obtain ⟨e3, e4⟩ := decW_none h (i : Int) hn
   rw [if_pos (show i < i + 1 by omega), if_pos (show i < i + 1 by omega), e3, e4]; exact h1
  ·rw [if_neg (show ¬ i < k + 1 by omega), if_neg (show ¬ i < k + 1 by omega)]; exact h1
theorem VecOn.more (q : VecOn h w g b0 k ws W) (hk : k < 12) (ho : opn (vecTo h k).1 k = true) (hgb : g < b0) (hgw : w.heap.size ≤ g) {vo vs : Value} (hW : OwnW W b0 vo vs (decW h (k : Int)).1 (decW h (k : Int)).2.1) :
  VecOn h w g b0 (k + 1) (updW ws k (vo, vs)) ((W.setCell ⟨g, k, none⟩ (.bool (decW h (k : Int)).2.2)).setCells g (12 + 2 * k) [vo, vs]) := by
 have hs : ∀ x y : Value, (W.setCells g (12 + 2 * k) [x, y]) = (W.setCell ⟨g, 12 + 2 * k, none⟩ x).setCell ⟨g, 12 + 2 * k + 1, none⟩ y := fun _ _ => rfl
 have ha := (q.at_.setR hk (decW h (k : Int)).2.2).setW hk vo vs
 have hf : ∀ {vo' vs' : Value} {l : List Int} {LL : List (List Int)}, OwnW W b0 vo' vs' l LL → OwnW ((W.setCell ⟨g, k, none⟩ (.bool (decW h (k : Int)).2.2)).setCells g (12 + 2 * k) [vo, vs]) b0 vo' vs' l LL := fun hq =>
  ((hq.far (p := ⟨g, k, none⟩) hgb _).far (p := ⟨g, 12 + 2 * k, none⟩) hgb vo).far (p := ⟨g, 12 + 2 * k + 1, none⟩) hgb vs
 refine ⟨by rw [vecTo_open ho]; exact ha, fun i hi => ?_, ?_⟩
 ·have h1 := q.own i hi
  unfold updW
  by_cases e2 : i = k
  ·subst e2
   rw [if_pos rfl, if_pos (show i < i + 1 by omega), if_pos (show i < i + 1 by omega)]
   exact hf hW
  ·rw [if_neg e2]
   by_cases e : i < k
   ·rw [if_pos e] at h1; rw [if_pos e] at h1; rw [if_pos (show i < k + 1 by omega), if_pos (show i < k + 1 by omega)]; exact hf h1
   ·rw [if_neg e] at h1; rw [if_neg e] at h1; rw [if_neg (show ¬ i < k + 1 by omega), if_neg (show ¬ i < k + 1 by omega)]; exact hf h1
 ·exact ((q.bel.setCell (p := ⟨g, k, none⟩) hgw _).setCell (p := ⟨g, 12 + 2 * k, none⟩) hgw vo).setCell (p := ⟨g, 12 + 2 * k + 1, none⟩) hgw vs
end
theorem vof_any {w0 w : World} {B b : Nat} {h : List TxnV} (much : Int) (F : Nat) (hF : fuelN much = F) (hO : OrdIs w0 B b h) (ht : Tab w0) (hK : Kinds w0) (hc : checkI h = 0) (hb : Below w0.heap.size w0 w) (hM : ∀ l : Nat, l < 12 → (decN h (l : Int)).2.2 + 2 ≤ 1099511627776) :
  Calls Tryz.prog 42 #[.pointer (some ⟨B, 0, none⟩), .int .i64 much] w fun e w' => VofRes h F w e w' := by
 have CN := hid (fun wx => fnew_any much wx)
 rw [hF] at CN
 have hw0 := hb.size
 have HB0 : Hid (∀ wx, Below w.heap.size w wx → Below w0.heap.size w0 wx) := hid (fun wx hx => hb.trans (hx.mono hb.size))
 have CO := hid (fun (r : Nat → Bool) (l : Nat) wx (hl : l ≤ 12) (hx : Below w.heap.size w wx) => vopen_any r l wx hl (hK.below (hb.trans (hx.mono hb.size))))
 have hbd : ∀ j, j ≤ 12 → (vecTo h j).2 ≤ j * 1099511627776 := vec_bound 1099511627776 (fun (l : Nat) hl => by have := hM l hl; omega)
 have CD := hid (fun (l : Nat) (T F : Nat) wx (hl : l < 12) (hx : Below w.heap.size w wx) (hT : w.heap.size ≤ T) hm (hla : Lasts F (vecTo h l).2 (decN h (l : Int)).2.2) => sdecide_own (w := wx) (l : Int) T F (vecTo h l).2 hO ht hK hc (hb.trans (hx.mono hb.size)) (Nat.le_trans hw0 hT) hm (hM l hl) (fun _ => by have h1 := hM l hl; have h2 := hbd l (by omega); have h3 : l * 1099511627776 ≤ 12 * 1099511627776 := Nat.mul_le_mul_right _ (by omega); omega) hla)
 have CZ := hid (fun (l : Nat) (T F : Nat) wx (hl : l < 12) (hx : Below w.heap.size w wx) (hT : w.heap.size ≤ T) hm (hla : ¬ Lasts F (vecTo h l).2 (decN h (l : Int)).2.2) => sdecide_no (w := wx) (l : Int) T F (vecTo h l).2 hO ht hK hc (hb.trans (hx.mono hb.size)) (Nat.le_trans hw0 hT) hm (hM l hl) hla)
 have HC := hid hc
 clear hO ht hK hc hb hM hbd hw0 hF
 go_enter Tryz.func42, Tryz.ntmps42
 go_upto_region 2 with fail
 have V1 := VecAt.zero w
 have V2 := VecAt.zero (w.alloc (.cells #[.bool false, .bool false, .bool false, .bool false, .bool false, .bool false, .bool false, .bool false, .bool false, .bool false, .bool false, .bool false, .slice none 0 0, .slice none 0 0, .slice none 0 0, .slice none 0 0, .slice none 0 0, .slice none 0 0, .slice none 0 0, .slice none 0 0, .slice none 0 0, .slice none 0 0, .slice none 0 0, .slice none 0 0, .slice none 0 0, .slice none 0 0, .slice none 0 0, .slice none 0 0, .slice none 0 0, .slice none 0 0, .slice none 0 0, .slice none 0 0, .slice none 0 0, .slice none 0 0, .slice none 0 0, .slice none 0 0] 40))
 have hs1 : (w.alloc (.cells #[.bool false, .bool false, .bool false, .bool false, .bool false, .bool false, .bool false, .bool false, .bool false, .bool false, .bool false, .bool false, .slice none 0 0, .slice none 0 0, .slice none 0 0, .slice none 0 0, .slice none 0 0, .slice none 0 0, .slice none 0 0, .slice none 0 0, .slice none 0 0, .slice none 0 0, .slice none 0 0, .slice none 0 0, .slice none 0 0, .slice none 0 0, .slice none 0 0, .slice none 0 0, .slice none 0 0, .slice none 0 0, .slice none 0 0, .slice none 0 0, .slice none 0 0, .slice none 0 0, .slice none 0 0, .slice none 0 0] 40)).heap.size = w.heap.size + 1 := by simp
 have hs2 : ((w.alloc (.cells #[.bool false, .bool false, .bool false, .bool false, .bool false, .bool false, .bool false, .bool false, .bool false, .bool false, .bool false, .bool false, .slice none 0 0, .slice none 0 0, .slice none 0 0, .slice none 0 0, .slice none 0 0, .slice none 0 0, .slice none 0 0, .slice none 0 0, .slice none 0 0, .slice none 0 0, .slice none 0 0, .slice none 0 0, .slice none 0 0, .slice none 0 0, .slice none 0 0, .slice none 0 0, .slice none 0 0, .slice none 0 0, .slice none 0 0, .slice none 0 0, .slice none 0 0, .slice none 0 0, .slice none 0 0, .slice none 0 0] 40)).alloc (.cells #[.bool false, .bool false, .bool false, .bool false, .bool false, .bool false, .bool false, .bool false, .bool false, .bool false, .bool false, .bool false, .slice none 0 0, .slice none 0 0, .slice none 0 0, .slice none 0 0, .slice none 0 0, .slice none 0 0, .slice none 0 0, .slice none 0 0, .slice none 0 0, .slice none 0 0, .slice none 0 0, .slice none 0 0, .slice none 0 0, .slice none 0 0, .slice none 0 0, .slice none 0 0, .slice none 0 0, .slice none 0 0, .slice none 0 0, .slice none 0 0, .slice none 0 0, .slice none 0 0, .slice none 0 0, .slice none 0 0] 40)).heap.size = w.heap.size + 1 + 1 := by simp
 rw [hs1] at V2
 have V1 := V1.below (box_below _ (.cells #[.bool false, .bool false, .bool false, .bool false, .bool false, .bool false, .bool false, .bool false, .bool false, .bool false, .bool false, .bool false, .slice none 0 0, .slice none 0 0, .slice none 0 0, .slice none 0 0, .slice none 0 0, .slice none 0 0, .slice none 0 0, .slice none 0 0, .slice none 0 0, .slice none 0 0, .slice none 0 0, .slice none 0 0, .slice none 0 0, .slice none 0 0, .slice none 0 0, .slice none 0 0, .slice none 0 0, .slice none 0 0, .slice none 0 0, .slice none 0 0, .slice none 0 0, .slice none 0 0, .slice none 0 0, .slice none 0 0] 40)) (by rw [hs1]; omega)
 have hb2 : Below w.heap.size w ((w.alloc (.cells #[.bool false, .bool false, .bool false, .bool false, .bool false, .bool false, .bool false, .bool false, .bool false, .bool false, .bool false, .bool false, .slice none 0 0, .slice none 0 0, .slice none 0 0, .slice none 0 0, .slice none 0 0, .slice none 0 0, .slice none 0 0, .slice none 0 0, .slice none 0 0, .slice none 0 0, .slice none 0 0, .slice none 0 0, .slice none 0 0, .slice none 0 0, .slice none 0 0, .slice none 0 0, .slice none 0 0, .slice none 0 0, .slice none 0 0, .slice none 0 0, .slice none 0 0, .slice none 0 0, .slice none 0 0, .slice none 0 0] 40)).alloc (.cells #[.bool false, .bool false, .bool false, .bool false, .bool false, .bool false, .bool false, .bool false, .bool false, .bool false, .bool false, .bool false, .slice none 0 0, .slice none 0 0, .slice none 0 0, .slice none 0 0, .slice none 0 0, .slice none 0 0, .slice none 0 0, .slice none 0 0, .slice none 0 0, .slice none 0 0, .slice none 0 0, .slice none 0 0, .slice none 0 0, .slice none 0 0, .slice none 0 0, .slice none 0 0, .slice none 0 0, .slice none 0 0, .slice none 0 0, .slice none 0 0, .slice none 0 0, .slice none 0 0, .slice none 0 0, .slice none 0 0] 40)) := below_then (box_below w (.cells #[.bool false, .bool false, .bool false, .bool false, .bool false, .bool false, .bool false, .bool false, .bool false, .bool false, .bool false, .bool false, .slice none 0 0, .slice none 0 0, .slice none 0 0, .slice none 0 0, .slice none 0 0, .slice none 0 0, .slice none 0 0, .slice none 0 0, .slice none 0 0, .slice none 0 0, .slice none 0 0, .slice none 0 0, .slice none 0 0, .slice none 0 0, .slice none 0 0, .slice none 0 0, .slice none 0 0, .slice none 0 0, .slice none 0 0, .slice none 0 0, .slice none 0 0, .slice none 0 0, .slice none 0 0, .slice none 0 0] 40)) (box_below _ (.cells #[.bool false, .bool false, .bool false, .bool false, .bool false, .bool false, .bool false, .bool false, .bool false, .bool false, .bool false, .bool false, .slice none 0 0, .slice none 0 0, .slice none 0 0, .slice none 0 0, .slice none 0 0, .slice none 0 0, .slice none 0 0, .slice none 0 0, .slice none 0 0, .slice none 0 0, .slice none 0 0, .slice none 0 0, .slice none 0 0, .slice none 0 0, .slice none 0 0, .slice none 0 0, .slice none 0 0, .slice none 0 0, .slice none 0 0, .slice none 0 0, .slice none 0 0, .slice none 0 0, .slice none 0 0, .slice none 0 0] 40))
 generalize (w.alloc (.cells #[.bool false, .bool false, .bool false, .bool false, .bool false, .bool false, .bool false, .bool false, .bool false, .bool false, .bool false, .bool false, .slice none 0 0, .slice none 0 0, .slice none 0 0, .slice none 0 0, .slice none 0 0, .slice none 0 0, .slice none 0 0, .slice none 0 0, .slice none 0 0, .slice none 0 0, .slice none 0 0, .slice none 0 0, .slice none 0 0, .slice none 0 0, .slice none 0 0, .slice none 0 0, .slice none 0 0, .slice none 0 0, .slice none 0 0, .slice none 0 0, .slice none 0 0, .slice none 0 0, .slice none 0 0, .slice none 0 0] 40)).alloc (.cells #[.bool false, .bool false, .bool false, .bool false, .bool false, .bool false, .bool false, .bool false, .bool false, .bool false, .bool false, .bool false, .slice none 0 0, .slice none 0 0, .slice none 0 0, .slice none 0 0, .slice none 0 0, .slice none 0 0, .slice none 0 0, .slice none 0 0, .slice none 0 0, .slice none 0 0, .slice none 0 0, .slice none 0 0, .slice none 0 0, .slice none 0 0, .slice none 0 0, .slice none 0 0, .slice none 0 0, .slice none 0 0, .slice none 0 0, .slice none 0 0, .slice none 0 0, .slice none 0 0, .slice none 0 0, .slice none 0 0] 40) = w2 at *
 clear hs1
 go_wp2_with fail
 refine (CN.out _).mono ?_
 rintro e w3 ⟨T, rfl, hm, hT, hb3⟩
 have hTl := hm.lt
 have q0 : VecOn h w (w.heap.size + 1) (T + 1) 0 wZ0 w3 := ⟨by rw [vecTo_zero]; exact V2.below hb3 (by omega), fun i _ => by rw [if_neg (by omega), if_neg (by omega)]; exact OwnW.nil _ _, below_then hb2 hb3⟩
 have V1 := V1.below hb3 (by omega)
 clear CN V2 hb2
 go_wp2_with fail
 go_loopw [14] (fun i wr => ∃ k : Nat, k ≤ 12 ∧ i = .int .i64 k ∧ ∃ ws, VecOn h w (w.heap.size + 1) (T + 1) k ws wr ∧ VecAt wr w.heap.size noB wZ0 ∧ MtAt wr T F (vecTo h k).2 ∧ Lasts F 0 (vecTo h k).2) (fun i _ => 12 - (intOf i).toNat)
 case atStart => exact ⟨0, by omega, rfl, wZ0, q0, V1, by rw [vecTo_zero]; exact hm, by
   rw [vecTo_zero]
   by_cases e : F = 4611686018427387904
   ·exact .inl e
   ·exact .inr (by omega)⟩
 case round =>
  obtain ⟨k, hk, rfl, ws, q, v1, hm, hla⟩ := hrel
  have hTl := hm.lt
  have hkq := q.at_.lt
  by_cases hlt : k < 12
  ·have hki : (k : Int) < 12 := by omega
   have hrow := q.at_.row
   have CO1 := hid (CO.out (vecTo h k).1 k wr (by omega) q.bel)
   cases ho : opn (vecTo h k).1 k with
   | false =>
    rw [ho] at CO1
    have HS := hid (q.shut HC.out ho)
    have HM : Hid (MtAt wr T F (vecTo h (k + 1)).2 ∧ Lasts F 0 (vecTo h (k + 1)).2) := hid (by rw [vecTo_shut ho]; exact ⟨hm, hla⟩)
    clear q hm hla ho CO CD CZ HC
    go_wp2_with (with_reducible refine wpList_load_mid rfl 33 _ rfl (w.heap.size + 1) 0 rfl (rowB (vecTo h k).1).toList _ hrow Tryz.underlying33 rfl (by kernel_rfl) ?_)
    refine CO1.out.mono ?_
    rintro e w4 ⟨rfl, h4⟩
    have HS4 := hid (HS.out.below h4)
    have HM4 := hid (HM.out.1.below h4 hTl)
    have v4 := v1.below h4 v1.lt
    have HLA := hid HM.out.2
    clear HS HM h4 v1 hrow CO1
    go_wp2_with fail
    go_roundw
    case rel => exact ⟨k + 1, by omega, by go_num, ws, HS4.out, v4, HM4.out, HLA.out⟩
    case measure => simp [intOf]; omega
   | true =>
    rw [ho] at CO1
    have HO := hid ho
    have Q := hid q
    have HM := hid hm
    have HLA := hid hla
    have HTT : Hid (w.heap.size ≤ T ∧ T ≠ w.heap.size + 1 ∧ T ≠ w.heap.size) := hid ⟨by omega, by omega, by omega⟩
    clear q hm hla ho
    go_wp2_with (with_reducible refine wpList_load_mid rfl 33 _ rfl (w.heap.size + 1) 0 rfl (rowB (vecTo h k).1).toList _ hrow Tryz.underlying33 rfl (by kernel_rfl) ?_)
    refine CO1.out.mono ?_
    rintro e w4 ⟨rfl, h4⟩
    have q4 := Q.out.below h4
    have hm4 := HM.out.below h4 hTl
    have v4 := v1.below h4 v1.lt
    clear hrow CO1 Q HM v1
    by_cases hl2 : Lasts F (vecTo h k).2 (decN h (k : Int)).2.2
    ·have CD1 := hid (CD.out k T F w4 hlt q4.bel HTT.out.1 hm4 hl2)
     have HL2 : Hid (Lasts F 0 (vecTo h (k + 1)).2) := hid (by
      rw [vecTo_open HO.out]
      rcases hl2 with e | e
      ·exact .inl e
      ·exact .inr (by show 0 + (_ + _) ≤ F; omega))
     have Q := hid q4
     have HT4 := hm4.lt
     clear q4 hm4 hl2 CO CD CZ HLA h4
     go_wp2_with fail
     refine CD1.out.mono ?_
     rintro e w5 ⟨vo, vs, rfl, hW, hm5, hg5⟩
     obtain ⟨oo, no, oc, so, ns, sc, rfl, rfl⟩ := hW.form
     have q5 := Q.out.grown hg5 (by omega) (by have := HTT.out.2.1; omega) HTT.out.1
     have v5 := v4.grown hg5 (fun e => by have := HTT.out.2.2; injection e; omega)
     have hW := hW.base (show T + 1 ≤ w4.heap.size by omega)
     have hbx := box_below w5 (.cells #[.slice oo no oc, .slice so ns sc] 37)
     have WT := WitT.made w5 (.slice oo no oc) (.slice so ns sc) 37
     have q6 := q5.below hbx
     have v6 := v5.below hbx v5.lt
     have hW := hW.below hbx
     have hm6 := hm5.below hbx hm5.lt
     have hs6 : (w5.alloc (.cells #[.slice oo no oc, .slice so ns sc] 37)).heap.size = w5.heap.size + 1 := by simp
     have hq5 := q5.at_.lt
     have hM6 : MtAt (w5.alloc (.cells #[.slice oo no oc, .slice so ns sc] 37)) T F (vecTo h (k + 1)).2 := by rw [vecTo_open HO.out]; exact hm6
     clear CD1 Q v4 hg5 hbx hm5 q5 v5 hm6
     go_upto_region 10 with fail
     generalize w5.alloc (.cells #[.slice oo no oc, .slice so ns sc] 37) = w6 at *
     generalize w5.heap.size = x5 at *
     have kd := (Below.refl w6.heap.size w6).drew
     have WT := WT.below kd
     have q7 := q6.below kd
     have v7 := v6.below kd v6.lt
     have hM7 := hM6.below kd hM6.lt
     have hW := hW.below kd
     have HQ := hid (q7.more hlt HO.out (by omega) (by omega) hW)
     have HV : Hid (VecAt w6.drew (w.heap.size + 1) (vecTo h k).1 ws) := hid q7.at_
     have HV7 := hid v7
     have HM7 := hid hM7
     have hd0 : decide ((k : Int) < 0) = false := decide_eq_false (by omega)
     have hd1 : decide ((12 : Int) ≤ (k : Int)) = false := decide_eq_false (by omega)
     have hd2 : decide (12 ≤ k) = false := decide_eq_false (by omega)
     clear hW q6 q7 v6 v7 hM6 hM7 kd
     refine wp_region_held_drew (S := fun wx => wx.cell? ⟨x5, 0, none⟩ = some (.slice oo no oc) ∧ wx.cell? ⟨x5, 1, none⟩ = some (.slice so ns sc)) (by kernel_rfl) ⟨WT.c0, WT.c1⟩ (fun hS0 => ?_)
     generalize w6.drew = wd at *
     refine tG (some 34) 0 ?vtv0x1 rfl rfl (Or.inl ⟨by rfl, ?htv0x1⟩) hS0 ?rtv0x1
     case htv0x1 => (intro w hw; obtain ⟨m0, m1⟩ := hw; go_simp; try (with_reducible rfl))
     try simp only [Act.put, zA, zB, zC]
     refine tG (some 35) 1 ?vtv1x2 rfl rfl (Or.inl ⟨by rfl, ?htv1x2⟩) hS0 ?rtv1x2
     case htv1x2 => (intro w hw; obtain ⟨m0, m1⟩ := hw; go_simp; try (with_reducible rfl))
     try simp only [Act.put, zA, zB, zC]
     refine tG (some 36) 2 ?vtv2x3 rfl rfl (Or.inl ⟨by rfl, ?htv2x3⟩) hS0 ?rtv2x3
     case htv2x3 => (intro w hw; obtain ⟨m0, m1⟩ := hw; go_simp; try (with_reducible rfl))
     try simp only [Act.put, zA, zB, zC]
     refine tG (some 37) 3 ?vtv3x4 rfl rfl (Or.inl ⟨by rfl, ?htv3x4⟩) hS0 ?rtv3x4
     case htv3x4 => (intro w hw; obtain ⟨m0, m1⟩ := hw; go_simp; try (with_reducible rfl))
     try simp only [Act.put, zA, zB, zC]
     refine tG (some 38) 4 ?vtv4x5 rfl rfl (Or.inl ⟨by rfl, ?htv4x5⟩) hS0 ?rtv4x5
     case htv4x5 => (intro w hw; obtain ⟨m0, m1⟩ := hw; go_simp; try (with_reducible rfl))
     try simp only [Act.put, zA, zB, zC]
     refine tG (some 39) 5 ?vtv5x6 rfl rfl (Or.inl ⟨by rfl, ?htv5x6⟩) hS0 ?rtv5x6
     case htv5x6 => (intro w hw; obtain ⟨m0, m1⟩ := hw; go_simp; try (with_reducible rfl))
     try simp only [Act.put, zA, zB, zC]
     refine tG (some 40) 7 ?vtv7x7 rfl rfl (Or.inl ⟨by rfl, ?htv7x7⟩) hS0 ?rtv7x7
     case htv7x7 => (intro w hw; obtain ⟨m0, m1⟩ := hw; go_simp; try (with_reducible rfl))
     try simp only [Act.put, zA, zB, zC]
     refine rD 6 rfl (fun K hK => ?_)
     have hc0 := (HV.out k (by omega)).1
     have hf0 := (HV.out k (by omega)).2
     go_simp
     have sA : (wd.setCell ⟨w.heap.size + 1, k, none⟩ (.bool (decW h (k : Int)).2.2)).cell? ⟨x5, 0, none⟩ = some (.slice oo no oc) ∧ (wd.setCell ⟨w.heap.size + 1, k, none⟩ (.bool (decW h (k : Int)).2.2)).cell? ⟨x5, 1, none⟩ = some (.slice so ns sc) := ⟨by rw [World.cell?_setCell_other _ _ _ _ (fun e => by injection e; omega)]; exact hS0.1, by rw [World.cell?_setCell_other _ _ _ _ (fun e => by injection e; omega)]; exact hS0.2⟩
     refine hK.out _ _ sA (fun _ => ?_)
     clear hK K hc0 hf0
     refine tG (some 41) 8 ?vtv8x9 rfl rfl (Or.inl ⟨by rfl, ?htv8x9⟩) sA ?rtv8x9
     case htv8x9 => (intro w hw; obtain ⟨m0, m1⟩ := hw; go_simp; try (with_reducible rfl))
     try simp only [Act.put, zA, zB, zC]
     refine rD 9 rfl (fun K hK => ?_)
     have hth : (wd.setCell ⟨w.heap.size + 1, k, none⟩ (.bool (decW h (k : Int)).2.2)).there (w.heap.size + 1) (12 + k * 2) 2 := fun j hj => by
      obtain ⟨q1, q2⟩ := (HV.out.setR hlt (decW h (k : Int)).2.2) (12 + k * 2 + j) (by omega)
      exact ⟨by rw [q1]; rfl, q2⟩
     refine wp_store_mid 37 _ _ rfl (w.heap.size + 1) (12 + k * 2) #[.slice oo no oc, .slice so ns sc] rfl rfl hth (by kernel_rfl) (by simp [Value.oneCell']) ?_
     have sB : ((wd.setCell ⟨w.heap.size + 1, k, none⟩ (.bool (decW h (k : Int)).2.2)).setCells (w.heap.size + 1) (12 + k * 2) [.slice oo no oc, .slice so ns sc]).cell? ⟨x5, 0, none⟩ = some (.slice oo no oc) ∧ ((wd.setCell ⟨w.heap.size + 1, k, none⟩ (.bool (decW h (k : Int)).2.2)).setCells (w.heap.size + 1) (12 + k * 2) [.slice oo no oc, .slice so ns sc]).cell? ⟨x5, 1, none⟩ = some (.slice so ns sc) := ⟨(World.cell?_setCells_out _ _ _ _ _ (fun hb _ => absurd hb (by show ¬ x5 = w.heap.size + 1; omega))).trans sA.1, (World.cell?_setCells_out _ _ _ _ _ (fun hb _ => absurd hb (by show ¬ x5 = w.heap.size + 1; omega))).trans sA.2⟩
     refine hK.out _ _ sB (fun _ => ?_)
     clear hK K hth
     refine wpAnyH_done (by kernel_rfl) ?_ _
     have h12 : 12 + k * 2 = 12 + 2 * k := by omega
     have HR : Hid (VecAt ((wd.setCell ⟨w.heap.size + 1, k, none⟩ (.bool (decW h (k : Int)).2.2)).setCells (w.heap.size + 1) (12 + k * 2) [.slice oo no oc, .slice so ns sc]) w.heap.size noB wZ0 ∧ MtAt ((wd.setCell ⟨w.heap.size + 1, k, none⟩ (.bool (decW h (k : Int)).2.2)).setCells (w.heap.size + 1) (12 + k * 2) [.slice oo no oc, .slice so ns sc]) T F (vecTo h (k + 1)).2) := hid ⟨HV7.out.apart (by omega) _ _ _ _ _, HM7.out.apart (by have := HTT.out.2.1; omega) _ _ _ _ _⟩
     rw [← h12] at HQ
     generalize (wd.setCell ⟨w.heap.size + 1, k, none⟩ (.bool (decW h (k : Int)).2.2)).setCells (w.heap.size + 1) (12 + k * 2) [.slice oo no oc, .slice so ns sc] = w8 at *
     go_wp2_with fail
     go_roundw
     case rel => exact ⟨k + 1, by omega, by go_num, _, HQ.out, HR.out.1, HR.out.2, HL2.out⟩
     case measure => simp [intOf]; omega
    ·have CZ1 := hid (CZ.out k T F w4 hlt q4.bel HTT.out.1 hm4 hl2)
     have HL2 : Hid (¬ Lasts F 0 (vecTo h 12).2) := hid (fun e => by
      have h1 := vecTo_cost h (i := k + 1) (j := 12) (by omega)
      rw [vecTo_open HO.out] at h1
      have h1 : (vecTo h k).2 + (decN h (k : Int)).2.2 ≤ (vecTo h 12).2 := h1
      rcases e with e | e
      ·exact hl2 (.inl e)
      ·exact hl2 (.inr (by omega)))
     have Q := hid q4
     clear q4 hm4 hl2 CO CD CZ HLA h4
     go_wp2_with fail
     refine CZ1.out.mono ?_
     rintro e w5 ⟨rfl, hm5, hg5, _⟩
     have q5 := Q.out.grown hg5 (by omega) (by have := HTT.out.2.1; omega) HTT.out.1
     have v5 := v4.grown hg5 (fun e => by have := HTT.out.2.2; injection e; omega)
     have hbx := box_below w5 (.cells #[.slice none 0 0, .slice none 0 0] 37)
     have HQB := hid (below_then q5.bel hbx)
     have v6 := v5.below hbx v5.lt
     clear CZ1 Q v4 hg5 hbx hm5 q5 v5
     go_upto_region 9 with fail
     generalize w5.alloc (.cells #[.slice none 0 0, .slice none 0 0] 37) = w6 at *
     have hth : w6.there w.heap.size 0 (#[.bool false, .bool false, .bool false, .bool false, .bool false, .bool false, .bool false, .bool false, .bool false, .bool false, .bool false, .bool false, .slice none 0 0, .slice none 0 0, .slice none 0 0, .slice none 0 0, .slice none 0 0, .slice none 0 0, .slice none 0 0, .slice none 0 0, .slice none 0 0, .slice none 0 0, .slice none 0 0, .slice none 0 0, .slice none 0 0, .slice none 0 0, .slice none 0 0, .slice none 0 0, .slice none 0 0, .slice none 0 0, .slice none 0 0, .slice none 0 0, .slice none 0 0, .slice none 0 0, .slice none 0 0, .slice none 0 0] : Array Value).size := v6.there (n := 36) (by omega)
     have hzl : vecL noB wZ0 = [.bool false, .bool false, .bool false, .bool false, .bool false, .bool false, .bool false, .bool false, .bool false, .bool false, .bool false, .bool false, .slice none 0 0, .slice none 0 0, .slice none 0 0, .slice none 0 0, .slice none 0 0, .slice none 0 0, .slice none 0 0, .slice none 0 0, .slice none 0 0, .slice none 0 0, .slice none 0 0, .slice none 0 0, .slice none 0 0, .slice none 0 0, .slice none 0 0, .slice none 0 0, .slice none 0 0, .slice none 0 0, .slice none 0 0, .slice none 0 0, .slice none 0 0, .slice none 0 0, .slice none 0 0, .slice none 0 0] := by kernel_rfl
     have HV9 := v6.put noB wZ0
     have HB9 : Below w.heap.size w (w6.setCells w.heap.size 0 (vecL noB wZ0)) := below_putC (Nat.le_refl _) _ _ _ HQB.out
     rw [hzl] at HV9 HB9
     have HV9 := hid HV9
     have HB9 := hid HB9
     have hone : (#[.bool false, .bool false, .bool false, .bool false, .bool false, .bool false, .bool false, .bool false, .bool false, .bool false, .bool false, .bool false, .slice none 0 0, .slice none 0 0, .slice none 0 0, .slice none 0 0, .slice none 0 0, .slice none 0 0, .slice none 0 0, .slice none 0 0, .slice none 0 0, .slice none 0 0, .slice none 0 0, .slice none 0 0, .slice none 0 0, .slice none 0 0, .slice none 0 0, .slice none 0 0, .slice none 0 0, .slice none 0 0, .slice none 0 0, .slice none 0 0, .slice none 0 0, .slice none 0 0, .slice none 0 0, .slice none 0 0] : Array Value).all (·.oneCell') = true := by simp [Value.oneCell']
     clear v6 hzl
     go_wp2_with (with_reducible refine wpList_store_mid rfl 40 _ _ rfl w.heap.size 0 #[.bool false, .bool false, .bool false, .bool false, .bool false, .bool false, .bool false, .bool false, .bool false, .bool false, .bool false, .bool false, .slice none 0 0, .slice none 0 0, .slice none 0 0, .slice none 0 0, .slice none 0 0, .slice none 0 0, .slice none 0 0, .slice none 0 0, .slice none 0 0, .slice none 0 0, .slice none 0 0, .slice none 0 0, .slice none 0 0, .slice none 0 0, .slice none 0 0, .slice none 0 0, .slice none 0 0, .slice none 0 0, .slice none 0 0, .slice none 0 0, .slice none 0 0, .slice none 0 0, .slice none 0 0, .slice none 0 0] rfl rfl hth (by kernel_rfl) hone ?_)
     exact bodyPost_ret (results_vec rfl _ _ _ noB wZ0 rfl HV9.out) rfl ⟨HB9.out, .inr ⟨HL2.out, rfl⟩⟩
  ·obtain rfl : k = 12 := by omega
   have hki : ¬ ((12 : Nat) : Int) < 12 := by omega
   have hall := q.at_.all
   have hth : wr.there w.heap.size 0 36 := v1.there (by omega)
   have HV9 := hid (v1.put (vecTo h 12).1 ws)
   have HB9 : Hid (Below w.heap.size w (wr.setCells w.heap.size 0 (vecL (vecTo h 12).1 ws))) := hid (below_putC (Nat.le_refl _) _ _ _ q.bel)
   have HO9 : Hid (∀ i, i < 12 → OwnW (wr.setCells w.heap.size 0 (vecL (vecTo h 12).1 ws)) w.heap.size (ws i).1 (ws i).2 (decW h (i : Int)).1 (decW h (i : Int)).2.1) := hid (fun i hi => by
    have h1 := q.own i hi
    rw [if_pos hi] at h1; rw [if_pos hi] at h1
    exact (h1.cells (g := w.heap.size) (by omega) 0 _).base (by omega))
   have HE9 : Hid (vecL (accV h) ws = vecL (vecTo h 12).1 ws) := hid (vecL_congr fun i hi => by rw [vec_row HC.out, decide_eq_true hi, Bool.true_and]; rfl)
   have hone : (vecL (vecTo h 12).1 ws).toArray.all (·.oneCell') = true := vecL_one fun i hi => by obtain ⟨_, _, _, _, _, _, e1, e2⟩ := (q.own i hi).form; rw [e1, e2]; exact ⟨rfl, rfl⟩
   have hth2 : wr.there w.heap.size 0 (vecL (vecTo h 12).1 ws).toArray.size := by rw [show (vecL (vecTo h 12).1 ws).toArray.size = 36 from vecL_len _ _]; exact hth
   have hinf : (Tryz.prog.info? 40).map (·.size) = some (vecL (vecTo h 12).1 ws).toArray.size := by rw [show (vecL (vecTo h 12).1 ws).toArray.size = 36 from vecL_len _ _]; kernel_rfl
   have hinf2 : (Tryz.prog.info? 40).map (·.size) = some (vecL (vecTo h 12).1 ws).length := by rw [vecL_len]; kernel_rfl
   go_wp2_with (first
    | (with_reducible refine wpList_load_mid rfl 40 _ rfl (w.heap.size + 1) 0 rfl (vecL (vecTo h 12).1 ws) _ hall Tryz.underlying40 rfl hinf2 ?_)
    | (with_reducible refine wpList_store_mid rfl 40 _ _ rfl w.heap.size 0 (vecL (vecTo h 12).1 ws).toArray rfl rfl hth2 hinf hone ?_))
   refine bodyPost_ret (results_vec rfl _ _ _ (vecTo h 12).1 ws rfl HV9.out) rfl ⟨HB9.out, .inl ⟨hla, ws, ?_, HO9.out⟩⟩
   rw [HE9.out]; rfl
end

section
open Go.RowKit
theorem below_app0 {B B' : Nat} {W wr w1 : World} {o : Obj} {e : TypeId} {n size : Nat} {v : Value} {xs : List Value} (hb : Below B W wr) (hB : B ≤ W.heap.size) (hown : wr.ownsRow B' e size v n xs) (hBB : B ≤ B')
  (hg : (wr.alloc o).grownBy w1 v.ownBlock) : Below B W w1 :=
 (hb.alloc (Nat.le_trans hB hb.size) o).grown hg (by have := hb.size; simp; omega) fun k hk => Nat.le_trans hBB (hown.lt k hk).1
end

section
open Go.RowKit
section
variable {h : List TxnV}
end
theorem fuel_most : fuelN 4611686018427387904 = 4611686018427387904 := by decide +kernel
theorem info_vec (r : Nat → Bool) (ws : Nat → Value × Value) : (Tryz.prog.info? 40).map (·.size) = some (vecL r ws).length := by rw [vecL_len]; kernel_rfl
theorem info_vecA (r : Nat → Bool) (ws : Nat → Value × Value) : (Tryz.prog.info? 40).map (·.size) = some (vecL r ws).toArray.size := by rw [show (vecL r ws).toArray.size = 36 from vecL_len _ _]; kernel_rfl
theorem results_vec3 {fn : Func} {p u v : Tmp} (h : fn.results = #[.tmp u, .cell p 40, .tmp v]) (tmps : Array Value) (w : World) (g : Nat) (r : Nat → Bool) (ws : Nat → Value × Value)
  (hp : tmps.getD p undef = .pointer (some ⟨g, 0, none⟩)) (hg : VecAt w g r ws) : (results fn tmps).run Tryz.prog w = .ok (.tuple #[tmps.getD u undef, .agg (vecL r ws).toArray, tmps.getD v undef]) w := by
 have hp' : tmps[p]?.getD undef = .pointer (some ⟨g, 0, none⟩) := by simpa using hp
 simp [results, h, hp', asAddr, run_loadVar_mid w g 0 40 (vecL r ws) _ hg.all Tryz.underlying40 rfl (info_vec r ws)]
theorem vec_put (w : World) (r : Nat → Bool) (ws : Nat → Value × Value) : VecAt ((w.alloc (.cells #[.bool false, .bool false, .bool false, .bool false, .bool false, .bool false, .bool false, .bool false, .bool false, .bool false, .bool false, .bool false, .slice none 0 0, .slice none 0 0, .slice none 0 0, .slice none 0 0, .slice none 0 0, .slice none 0 0, .slice none 0 0, .slice none 0 0, .slice none 0 0, .slice none 0 0, .slice none 0 0, .slice none 0 0, .slice none 0 0, .slice none 0 0, .slice none 0 0, .slice none 0 0, .slice none 0 0, .slice none 0 0, .slice none 0 0, .slice none 0 0, .slice none 0 0, .slice none 0 0, .slice none 0 0, .slice none 0 0] 40)).setCells w.heap.size 0 (vecL r ws)) w.heap.size r ws ∧ Below w.heap.size w ((w.alloc (.cells #[.bool false, .bool false, .bool false, .bool false, .bool false, .bool false, .bool false, .bool false, .bool false, .bool false, .bool false, .bool false, .slice none 0 0, .slice none 0 0, .slice none 0 0, .slice none 0 0, .slice none 0 0, .slice none 0 0, .slice none 0 0, .slice none 0 0, .slice none 0 0, .slice none 0 0, .slice none 0 0, .slice none 0 0, .slice none 0 0, .slice none 0 0, .slice none 0 0, .slice none 0 0, .slice none 0 0, .slice none 0 0, .slice none 0 0, .slice none 0 0, .slice none 0 0, .slice none 0 0, .slice none 0 0, .slice none 0 0] 40)).setCells w.heap.size 0 (vecL r ws)) ∧ (w.alloc (.cells #[.bool false, .bool false, .bool false, .bool false, .bool false, .bool false, .bool false, .bool false, .bool false, .bool false, .bool false, .bool false, .slice none 0 0, .slice none 0 0, .slice none 0 0, .slice none 0 0, .slice none 0 0, .slice none 0 0, .slice none 0 0, .slice none 0 0, .slice none 0 0, .slice none 0 0, .slice none 0 0, .slice none 0 0, .slice none 0 0, .slice none 0 0, .slice none 0 0, .slice none 0 0, .slice none 0 0, .slice none 0 0, .slice none 0 0, .slice none 0 0, .slice none 0 0, .slice none 0 0, .slice none 0 0, .slice none 0 0] 40)).there w.heap.size 0 (vecL r ws).toArray.size :=
 ⟨(VecAt.zero w).put r ws, below_putC (Nat.le_refl _) _ _ _ (box_below w _), by rw [show (vecL r ws).toArray.size = 36 from vecL_len _ _]; exact (VecAt.zero w).there (by omega)⟩
def WitsIn (h : List TxnV) (ws : Nat → Value × Value) (b0 : Nat) (w : World) : Prop := ∀ i, i < 12 → OwnW w b0 (ws i).1 (ws i).2 (decW h (i : Int)).1 (decW h (i : Int)).2.1
section
variable {h : List TxnV} {ws : Nat → Value × Value} {b0 : Nat} {w w' : World}
theorem WitsIn.below (q : WitsIn h ws b0 w) (hb : Below w.heap.size w w') : WitsIn h ws b0 w' := fun i hi => (q i hi).below hb
theorem WitsIn.cells (q : WitsIn h ws b0 w) {g : Nat} (hg : g < b0) (o : Nat) (vs : List Value) : WitsIn h ws b0 (w.setCells g o vs) := fun i hi => (q i hi).cells hg o vs
theorem WitsIn.base (q : WitsIn h ws b0 w) {b1 : Nat} (hb : b1 ≤ b0) : WitsIn h ws b1 w := fun i hi => (q i hi).base hb
theorem WitsIn.one (q : WitsIn h ws b0 w) (r : Nat → Bool) : (vecL r ws).toArray.all (·.oneCell') = true := vecL_one fun i hi => by
 obtain ⟨_, _, _, _, _, _, e1, e2⟩ := (q i hi).form
 rw [e1, e2]; exact ⟨rfl, rfl⟩
end
theorem map_cells {α : Type} {e : α → Value} {P : Program} {k : TypeId} {w : World} {b n : Nat} {f : Int → Option α} {c g : Nat} (h : MapI e P k w b n f c) {v : Value} (hc : w.cell? ⟨g, 0, none⟩ = some v) : b ≠ g := by
 rintro rfl
 obtain ⟨D, ⟨es, clock, hh, _⟩, _⟩ := h
 unfold World.cell? at hc
 simp [hh] at hc
theorem OrdIs.apart {w : World} {B b : Nat} {h : List TxnV} (hO : OrdIs w B b h) {g : Nat} (hg : g < B) (hgb : g < b) {v : Value} (hc : w.cell? ⟨g, 0, none⟩ = some v) (o : Nat) (vs : List Value) : OrdIs (w.setCells g o vs) B b h := by
 obtain ⟨bm, m, c, vk, vr, K, R, h1, h2, h3, h4, h5, h6⟩ := hO
 refine ⟨bm, m, c, vk, vr, K, R, fun i hi => ?_, MapI.cells (map_cells h2 hc) vs o w h2, h3, h4.cells hgb o vs, h5, h6⟩
 rw [World.frozen?_setCells, cell_put (p := ⟨B, i, none⟩) (by show B ≠ g; omega)]
 exact h1 i hi
theorem vof_ok {w0 w : World} {B b : Nat} {h : List TxnV} (much : Int) (F : Nat) (hF : fuelN much = F) (hO : OrdIs w0 B b h) (ht : Tab w0) (hK : Kinds w0) (hc : checkI h = 0) (hb : Below w0.heap.size w0 w) (hM : ∀ l : Nat, l < 12 → (decN h (l : Int)).2.2 + 2 ≤ 1099511627776) (hl : Lasts F 0 (vecTo h 12).2) :
  Calls Tryz.prog 42 #[.pointer (some ⟨B, 0, none⟩), .int .i64 much] w fun e w' => (∃ ws, e = .returned (.tuple #[.agg (vecL (accV h) ws).toArray, .int .i64 0]) ∧ WitsIn h ws w.heap.size w') ∧ Below w.heap.size w w' := by
 refine (vof_any much F hF hO ht hK hc hb hM).mono ?_
 rintro e w' ⟨hb', ⟨_, ws, rfl, hw⟩ | ⟨hn, _⟩⟩
 ·exact ⟨⟨ws, rfl, hw⟩, hb'⟩
 ·exact (hn hl).elim
theorem vec_few {h : List TxnV} (hn : h.length ≤ 7) : ∀ l : Nat, l < 12 → (decN h (l : Int)).2.2 + 2 ≤ 1099511627776 := fun l _ => by
 have h1 := dec_tries h (l : Int)
 have h2 := tr_le h.length hn
 omega
theorem lawof_any (va : Value) (h : List TxnV) (w : World) (hT : Txns w va h) (hok : ∀ t ∈ h, t.ok) (hsh : Short h) (hc : checkI h = 0) (ht : Tab w) (hK : Kinds w) (hM : ∀ l : Nat, l < 12 → (decN h (l : Int)).2.2 + 2 ≤ 1099511627776) :
  Calls Tryz.prog 14 #[va] w fun e w' => (∃ B ws, e = .returned (.tuple #[.pointer (some ⟨B, 0, none⟩), .agg (vecL (accV h) ws).toArray, .bool true]) ∧ OrdIs w' B (B + 2) h ∧ WitsIn h ws w.heap.size w') ∧ Below w.heap.size w w' := by
 have hg := ht.pos
 have V3 := VecAt.zero w
 have hb1 := box_below w (.cells #[.bool false, .bool false, .bool false, .bool false, .bool false, .bool false, .bool false, .bool false, .bool false, .bool false, .bool false, .bool false, .slice none 0 0, .slice none 0 0, .slice none 0 0, .slice none 0 0, .slice none 0 0, .slice none 0 0, .slice none 0 0, .slice none 0 0, .slice none 0 0, .slice none 0 0, .slice none 0 0, .slice none 0 0, .slice none 0 0, .slice none 0 0, .slice none 0 0, .slice none 0 0, .slice none 0 0, .slice none 0 0, .slice none 0 0, .slice none 0 0, .slice none 0 0, .slice none 0 0, .slice none 0 0, .slice none 0 0] 40)
 have CO := hid (of_done va h _ (hT.below hb1) hok hsh hc)
 have HT : Hid (∀ wx, Below w.heap.size w wx → Tab wx ∧ Kinds wx) := hid (fun wx hb => ⟨ht.below hb hg, hK.below hb⟩)
 have hs1 : (w.alloc (.cells #[.bool false, .bool false, .bool false, .bool false, .bool false, .bool false, .bool false, .bool false, .bool false, .bool false, .bool false, .bool false, .slice none 0 0, .slice none 0 0, .slice none 0 0, .slice none 0 0, .slice none 0 0, .slice none 0 0, .slice none 0 0, .slice none 0 0, .slice none 0 0, .slice none 0 0, .slice none 0 0, .slice none 0 0, .slice none 0 0, .slice none 0 0, .slice none 0 0, .slice none 0 0, .slice none 0 0, .slice none 0 0, .slice none 0 0, .slice none 0 0, .slice none 0 0, .slice none 0 0, .slice none 0 0, .slice none 0 0] 40)).heap.size = w.heap.size + 1 := by simp
 have HC := hid hc
 have HM := hid hM
 clear hT hok hsh hc ht hK hM
 go_enter Tryz.func14, Tryz.ntmps14
 go_upto_region 1 with fail
 generalize w.alloc (.cells #[.bool false, .bool false, .bool false, .bool false, .bool false, .bool false, .bool false, .bool false, .bool false, .bool false, .bool false, .bool false, .slice none 0 0, .slice none 0 0, .slice none 0 0, .slice none 0 0, .slice none 0 0, .slice none 0 0, .slice none 0 0, .slice none 0 0, .slice none 0 0, .slice none 0 0, .slice none 0 0, .slice none 0 0, .slice none 0 0, .slice none 0 0, .slice none 0 0, .slice none 0 0, .slice none 0 0, .slice none 0 0, .slice none 0 0, .slice none 0 0, .slice none 0 0, .slice none 0 0, .slice none 0 0, .slice none 0 0] 40) = w1 at *
 go_wp2_with fail
 refine CO.out.mono ?_
 rintro e w2 ⟨⟨B, rfl, hB, hO⟩, h2⟩
 have hb2 := below_then hb1 h2
 have h12 := h2.size
 have V3 := V3.below h2 V3.lt
 have hTK := HT.out _ hb2
 have CV := hid (vof_ok (w := w2) 4611686018427387904 4611686018427387904 fuel_most hO hTK.1 hTK.2 HC.out (Below.refl _ _) HM.out (.inl rfl))
 have HO := hid (fun wx (hx : Below w2.heap.size w2 wx) => hO.below hx)
 clear CO hO h2 hTK hb1
 go_wp2_with fail
 refine CV.out.mono ?_
 rintro e w3 ⟨⟨ws, rfl, hW⟩, h3⟩
 obtain ⟨V7, hb7, hth⟩ := vec_put w3 (accV h) ws
 have hone := hW.one (accV h)
 have hinf := info_vecA (accV h) ws
 have h27 := below_then h3 hb7
 have HO7 := hid (HO.out _ h27)
 have W7 := hW.below hb7
 have V3 := V3.below h3 V3.lt
 have hne := V3.lt
 have V3 := V3.below hb7 V3.lt
 have hbW := below_then hb2 h27
 clear CV h3 h27 hb2 hW HO
 go_upto_region 5 with (first | (with_reducible refine wpList_store_mid rfl 40 _ _ rfl w3.heap.size 0 (vecL (accV h) ws).toArray rfl rfl hth hinf hone ?_))
 generalize (w3.alloc (.cells #[.bool false, .bool false, .bool false, .bool false, .bool false, .bool false, .bool false, .bool false, .bool false, .bool false, .bool false, .bool false, .slice none 0 0, .slice none 0 0, .slice none 0 0, .slice none 0 0, .slice none 0 0, .slice none 0 0, .slice none 0 0, .slice none 0 0, .slice none 0 0, .slice none 0 0, .slice none 0 0, .slice none 0 0, .slice none 0 0, .slice none 0 0, .slice none 0 0, .slice none 0 0, .slice none 0 0, .slice none 0 0, .slice none 0 0, .slice none 0 0, .slice none 0 0, .slice none 0 0, .slice none 0 0, .slice none 0 0] 40)).setCells w3.heap.size 0 (vecL (accV h) ws) = w7 at *
 generalize w3.heap.size = g7 at *
 have kd := (Below.refl w7.heap.size w7).drew
 have V7 := hid (V7.below kd V7.lt)
 have HO7 := hid (HO7.out.below kd)
 have W7 := W7.below kd
 have HV3 := hid (V3.below kd V3.lt)
 have hbW := below_then hbW kd
 have hinf2 := info_vec (accV h) ws
 clear V3 kd hth
 refine wp_region_held_drew (S := fun wx => wx.rangeAt g7 0 (vecL (accV h) ws)) (by kernel_rfl) V7.out.all (fun hS0 => ?_)
 generalize w7.drew = wd at *
 refine tG (some 25) 0 ?vtg0x1 rfl rfl (Or.inl ⟨by rfl, ?htg0x1⟩) hS0 ?rtg0x1
 case htg0x1 => (intro w hw; go_simp; try (with_reducible rfl))
 try simp only [Act.put, zA, zB, zC]
 refine tG (some 26) 1 _ rfl rfl (yieldsIf_load_mid (by rfl) 40 _ rfl g7 0 rfl (vecL (accV h) ws) _ (fun _ hw => hw) Tryz.underlying40 rfl hinf2) hS0 ?_
 try simp only [Act.put, zA, zB, zC]
 refine tG (some 27) 2 ?vtg2x3 rfl rfl (Or.inl ⟨by rfl, ?htg2x3⟩) hS0 ?rtg2x3
 case htg2x3 => (intro w hw; go_simp; try (with_reducible rfl))
 try simp only [Act.put, zA, zB, zC]
 refine tG (some 28) 3 ?vtg3x4 rfl rfl (Or.inl ⟨by rfl, ?htg3x4⟩) hS0 ?rtg3x4
 case htg3x4 => (intro w hw; go_simp; try (with_reducible rfl))
 try simp only [Act.put, zA, zB, zC]
 refine tG (some 2) 4 ?vtg4x5 rfl rfl (Or.inl ⟨by rfl, ?htg4x5⟩) hS0 ?rtg4x5
 case htg4x5 => (intro w hw; go_simp; try (with_reducible rfl))
 try simp only [Act.put, zA, zB, zC]
 refine rD 5 rfl (fun K hK => ?_)
 have hth := HV3.out.there (o := 0) (n := 36) (by omega)
 rw [show 36 = (vecL (accV h) ws).toArray.size from (vecL_len _ _).symm] at hth
 refine wp_store_mid 40 _ _ rfl w.heap.size 0 (vecL (accV h) ws).toArray rfl rfl hth hinf hone ?_
 have sB : (wd.setCells w.heap.size 0 (vecL (accV h) ws)).rangeAt g7 0 (vecL (accV h) ws) := World.rangeAt_setCells_apart hS0 _ _ _ (.inl (by omega))
 refine hK.out _ _ sB (fun _ => ?_)
 clear hK K hth
 refine tG (some 4) 6 ?vtg6x7 rfl rfl (Or.inl ⟨by rfl, ?htg6x7⟩) sB ?rtg6x7
 case htg6x7 => (intro w hw; go_simp; try (with_reducible rfl))
 try simp only [Act.put, List.setIfInBounds_toArray]
 refine wpAnyH_done (by kernel_rfl) ?_ _
 have HV9 := hid (HV3.out.put (accV h) ws)
 have HF : Hid (OrdIs (wd.setCells w.heap.size 0 (vecL (accV h) ws)) B (B + 2) h ∧ WitsIn h ws w.heap.size (wd.setCells w.heap.size 0 (vecL (accV h) ws)) ∧ Below w.heap.size w (wd.setCells w.heap.size 0 (vecL (accV h) ws))) := hid ⟨HO7.out.apart (by omega) (by omega) (HV3.out 0 (by omega)).1 0 _, (W7.cells (by omega) 0 _).base (by omega), below_putC (Nat.le_refl _) _ _ _ hbW⟩
 go_wp2_with fail
 refine bodyPost_ret (results_vec3 rfl _ _ _ (accV h) ws rfl HV9.out) rfl ⟨⟨B, ws, rfl, HF.out.1, HF.out.2.1⟩, HF.out.2.2⟩
end

section
open Go.RowKit
def hasI (k : Nat) (t : Int) : Bool := hasT k t.toNat
theorem rl_hasI (k : Nat) (hk : k < 64) (t : Int) (w : World) (ht : 0 < t) (ht2 : t ≤ 32) : Calls Tryz.prog 22 #[.int .i64 k, .int .i64 t] w fun e w' => e = .returned (.bool (hasI k t)) ∧ w = w' := by
 obtain ⟨n, rfl⟩ := Int.eq_ofNat_of_zero_le (Int.le_of_lt ht)
 exact rl_has k n hk (by omega) (by omega) w
def clV (h16 h4 h32 h1 h2 h8 : Bool) : Int :=
 (if h1 || h32 then 1 else 0) + (if h2 || (h4 || h16) then 2 else 0) + (if h4 || h16 then 4 else 0) + (if h8 || h16 then 8 else 0) + (if h16 then 16 else 0) + (if h32 then 32 else 0)
theorem clV_eq : ∀ k : Fin 64, ((clN k.val : Nat) : Int) = clV (hasI k.val 16) (hasI k.val 4) (hasI k.val 32) (hasI k.val 1) (hasI k.val 2) (hasI k.val 8) := by decide +kernel
theorem rl_closed (k : Nat) (hk : k < 64) (w : World) : Calls Tryz.prog 23 #[.int .i64 k] w fun e w' => e = .returned (.int .i64 (clN k)) ∧ w = w' := by
 have H := clV_eq ⟨k, hk⟩
 have C := hid (rl_hasI k hk)
 simp only at H
 cases h16 : hasI k 16 <;> cases h4 : hasI k 4 <;> cases h32 : hasI k 32 <;> cases h1 : hasI k 1 <;> cases h2 : hasI k 2 <;> cases h8 : hasI k 8
 all_goals
  rw [h16, h4, h32, h1, h2, h8] at H
  have HH := hid H
  clear H
  rw [HH.out]
  clear HH
  go_enter Tryz.func23, Tryz.ntmps23
  go_wp2_with (go_at_call 22; refine (C.out _ _ (by omega) (by omega)).mono ?_; rintro e w' ⟨rfl, rfl⟩)
  go_ret
  exact ⟨rfl, rfl⟩
end

section
open Go.RowKit
def catN (i : Nat) (u : Nat → Value) : List TxnV :=
 if i = 0 then [⟨0, 0, 1, u 0, [⟨true, 0, 1⟩]⟩, ⟨0, 2, 3, u 1, [⟨false, 0, 0⟩]⟩]
 else if i = 1 then [⟨0, 0, 3, u 0, [⟨true, 0, 1⟩]⟩, ⟨1, 1, 4, u 1, [⟨false, 0, 1⟩, ⟨true, 1, 2⟩]⟩, ⟨2, 2, 5, u 2, [⟨false, 1, 2⟩, ⟨false, 0, 0⟩]⟩]
 else if i = 2 then [⟨0, 0, 4, u 0, [⟨true, 0, 1⟩]⟩, ⟨1, 1, 5, u 1, [⟨true, 1, 2⟩]⟩, ⟨2, 2, 6, u 2, [⟨false, 0, 1⟩, ⟨false, 1, 0⟩]⟩, ⟨3, 3, 7, u 3, [⟨false, 1, 2⟩, ⟨false, 0, 0⟩]⟩]
 else if i = 3 then [⟨0, 0, 2, u 0, [⟨false, 0, 0⟩, ⟨true, 0, 1⟩]⟩, ⟨1, 1, 3, u 1, [⟨false, 0, 0⟩, ⟨true, 0, 2⟩]⟩]
 else if i = 4 then [⟨0, 0, 2, u 0, [⟨false, 1, 0⟩, ⟨true, 0, 1⟩]⟩, ⟨1, 1, 3, u 1, [⟨false, 0, 0⟩, ⟨true, 1, 2⟩]⟩]
 else [⟨0, 0, 1, u 0, [⟨true, 0, 1⟩]⟩, ⟨1, 2, 3, u 1, [⟨false, 0, 0⟩]⟩]
theorem dec_firstE {h : List TxnV} (hc : checkI h = 0) {l : Nat} (hl : isLv (l : Int) = true) (hs : soundTo h h.length = true) : (decW h (l : Int)).2.2 = (firstE h (clI ((askN (l : Int) : Nat) : Int)) h.length h.length []).isSome := by
 rw [decW_some hc, first_kept, if_pos ⟨hl, hs⟩, Option.isSome_map]
theorem lv_in : ∀ l : Fin 12, isLv (l.val : Int) = true := by decide +kernel
section
variable (u : Nat → Value)
theorem cat_c0 : checkI (catN 0 u) = 0 := by kernel_rfl
theorem cat_s0 : soundTo (catN 0 u) (catN 0 u).length = true := by kernel_rfl
theorem cat_y0x0 : (firstE (catN 0 u) (clI ((askN ((0 : Nat) : Int) : Nat) : Int)) (catN 0 u).length (catN 0 u).length []).isSome = true := by kernel_rfl
theorem cat_n0 : (firstE (catN 0 u) (clI ((askN ((1 : Nat) : Int) : Nat) : Int)) (catN 0 u).length (catN 0 u).length []).isSome = false := by kernel_rfl
theorem cat_c1 : checkI (catN 1 u) = 0 := by kernel_rfl
theorem cat_s1 : soundTo (catN 1 u) (catN 1 u).length = true := by kernel_rfl
theorem cat_y1x3 : (firstE (catN 1 u) (clI ((askN ((3 : Nat) : Int) : Nat) : Int)) (catN 1 u).length (catN 1 u).length []).isSome = true := by kernel_rfl
theorem cat_n1 : (firstE (catN 1 u) (clI ((askN ((2 : Nat) : Int) : Nat) : Int)) (catN 1 u).length (catN 1 u).length []).isSome = false := by kernel_rfl
theorem cat_c2 : checkI (catN 2 u) = 0 := by kernel_rfl
theorem cat_s2 : soundTo (catN 2 u) (catN 2 u).length = true := by kernel_rfl
theorem cat_y2x5 : (firstE (catN 2 u) (clI ((askN ((5 : Nat) : Int) : Nat) : Int)) (catN 2 u).length (catN 2 u).length []).isSome = true := by kernel_rfl
theorem cat_y2x8 : (firstE (catN 2 u) (clI ((askN ((8 : Nat) : Int) : Nat) : Int)) (catN 2 u).length (catN 2 u).length []).isSome = true := by kernel_rfl
theorem cat_n2 : (firstE (catN 2 u) (clI ((askN ((4 : Nat) : Int) : Nat) : Int)) (catN 2 u).length (catN 2 u).length []).isSome = false := by kernel_rfl
theorem cat_c3 : checkI (catN 3 u) = 0 := by kernel_rfl
theorem cat_s3 : soundTo (catN 3 u) (catN 3 u).length = true := by kernel_rfl
theorem cat_y3x9 : (firstE (catN 3 u) (clI ((askN ((9 : Nat) : Int) : Nat) : Int)) (catN 3 u).length (catN 3 u).length []).isSome = true := by kernel_rfl
theorem cat_n3 : (firstE (catN 3 u) (clI ((askN ((3 : Nat) : Int) : Nat) : Int)) (catN 3 u).length (catN 3 u).length []).isSome = false := by kernel_rfl
theorem cat_c4 : checkI (catN 4 u) = 0 := by kernel_rfl
theorem cat_s4 : soundTo (catN 4 u) (catN 4 u).length = true := by kernel_rfl
theorem cat_y4x10 : (firstE (catN 4 u) (clI ((askN ((10 : Nat) : Int) : Nat) : Int)) (catN 4 u).length (catN 4 u).length []).isSome = true := by kernel_rfl
theorem cat_n4 : (firstE (catN 4 u) (clI ((askN ((7 : Nat) : Int) : Nat) : Int)) (catN 4 u).length (catN 4 u).length []).isSome = false := by kernel_rfl
theorem cat_c5 : checkI (catN 5 u) = 0 := by kernel_rfl
theorem cat_s5 : soundTo (catN 5 u) (catN 5 u).length = true := by kernel_rfl
theorem cat_y5x7 : (firstE (catN 5 u) (clI ((askN ((7 : Nat) : Int) : Nat) : Int)) (catN 5 u).length (catN 5 u).length []).isSome = true := by kernel_rfl
theorem cat_n5 : (firstE (catN 5 u) (clI ((askN ((8 : Nat) : Int) : Nat) : Int)) (catN 5 u).length (catN 5 u).length []).isSome = false := by kernel_rfl
end
theorem cat_lv0 : ∀ l : Fin 12, if (clN (askN (l.val : Int))).testBit 0 = true then impB (l.val : Int) ((1 : Nat) : Int) = true else impB ((0 : Nat) : Int) (l.val : Int) = true := by decide +kernel
theorem cat_acc0 (u : Nat → Value) {l : Nat} (hl : l < 12) : (decW (catN 0 u) (l : Int)).2.2 = !(clN (askN (l : Int))).testBit 0 := by
 have h := cat_lv0 ⟨l, hl⟩
 have hc := cat_c0 u
 cases hb : (clN (askN (l : Int))).testBit 0 with
 | true =>
  rw [if_pos hb] at h
  cases e : (decW (catN 0 u) (l : Int)).2.2 with
  | false => rfl
  | true =>
   have := dec_implied hc h e
   rw [dec_firstE hc (lv_in ⟨1, by omega⟩) (cat_s0 u), cat_n0] at this
   cases this
 | false =>
  rw [if_neg (by rw [hb]; simp)] at h
  exact dec_implied hc h (by rw [dec_firstE hc (lv_in ⟨0, by omega⟩) (cat_s0 u), cat_y0x0])
theorem cat_lv1 : ∀ l : Fin 12, if (clN (askN (l.val : Int))).testBit 1 = true then impB (l.val : Int) ((2 : Nat) : Int) = true else impB ((3 : Nat) : Int) (l.val : Int) = true := by decide +kernel
theorem cat_acc1 (u : Nat → Value) {l : Nat} (hl : l < 12) : (decW (catN 1 u) (l : Int)).2.2 = !(clN (askN (l : Int))).testBit 1 := by
 have h := cat_lv1 ⟨l, hl⟩
 have hc := cat_c1 u
 cases hb : (clN (askN (l : Int))).testBit 1 with
 | true =>
  rw [if_pos hb] at h
  cases e : (decW (catN 1 u) (l : Int)).2.2 with
  | false => rfl
  | true =>
   have := dec_implied hc h e
   rw [dec_firstE hc (lv_in ⟨2, by omega⟩) (cat_s1 u), cat_n1] at this
   cases this
 | false =>
  rw [if_neg (by rw [hb]; simp)] at h
  exact dec_implied hc h (by rw [dec_firstE hc (lv_in ⟨3, by omega⟩) (cat_s1 u), cat_y1x3])
theorem cat_lv2 : ∀ l : Fin 12, if (clN (askN (l.val : Int))).testBit 2 = true then impB (l.val : Int) ((4 : Nat) : Int) = true else impB ((5 : Nat) : Int) (l.val : Int) = true ∨ impB ((8 : Nat) : Int) (l.val : Int) = true := by decide +kernel
theorem cat_acc2 (u : Nat → Value) {l : Nat} (hl : l < 12) : (decW (catN 2 u) (l : Int)).2.2 = !(clN (askN (l : Int))).testBit 2 := by
 have h := cat_lv2 ⟨l, hl⟩
 have hc := cat_c2 u
 cases hb : (clN (askN (l : Int))).testBit 2 with
 | true =>
  rw [if_pos hb] at h
  cases e : (decW (catN 2 u) (l : Int)).2.2 with
  | false => rfl
  | true =>
   have := dec_implied hc h e
   rw [dec_firstE hc (lv_in ⟨4, by omega⟩) (cat_s2 u), cat_n2] at this
   cases this
 | false =>
  rw [if_neg (by rw [hb]; simp)] at h
  rcases h with h | h
  ·exact dec_implied hc h (by rw [dec_firstE hc (lv_in ⟨5, by omega⟩) (cat_s2 u), cat_y2x5])
  ·exact dec_implied hc h (by rw [dec_firstE hc (lv_in ⟨8, by omega⟩) (cat_s2 u), cat_y2x8])
theorem cat_lv3 : ∀ l : Fin 12, if (clN (askN (l.val : Int))).testBit 3 = true then impB (l.val : Int) ((3 : Nat) : Int) = true else impB ((9 : Nat) : Int) (l.val : Int) = true := by decide +kernel
theorem cat_acc3 (u : Nat → Value) {l : Nat} (hl : l < 12) : (decW (catN 3 u) (l : Int)).2.2 = !(clN (askN (l : Int))).testBit 3 := by
 have h := cat_lv3 ⟨l, hl⟩
 have hc := cat_c3 u
 cases hb : (clN (askN (l : Int))).testBit 3 with
 | true =>
  rw [if_pos hb] at h
  cases e : (decW (catN 3 u) (l : Int)).2.2 with
  | false => rfl
  | true =>
   have := dec_implied hc h e
   rw [dec_firstE hc (lv_in ⟨3, by omega⟩) (cat_s3 u), cat_n3] at this
   cases this
 | false =>
  rw [if_neg (by rw [hb]; simp)] at h
  exact dec_implied hc h (by rw [dec_firstE hc (lv_in ⟨9, by omega⟩) (cat_s3 u), cat_y3x9])
theorem cat_lv4 : ∀ l : Fin 12, if (clN (askN (l.val : Int))).testBit 4 = true then impB (l.val : Int) ((7 : Nat) : Int) = true else impB ((10 : Nat) : Int) (l.val : Int) = true := by decide +kernel
theorem cat_acc4 (u : Nat → Value) {l : Nat} (hl : l < 12) : (decW (catN 4 u) (l : Int)).2.2 = !(clN (askN (l : Int))).testBit 4 := by
 have h := cat_lv4 ⟨l, hl⟩
 have hc := cat_c4 u
 cases hb : (clN (askN (l : Int))).testBit 4 with
 | true =>
  rw [if_pos hb] at h
  cases e : (decW (catN 4 u) (l : Int)).2.2 with
  | false => rfl
  | true =>
   have := dec_implied hc h e
   rw [dec_firstE hc (lv_in ⟨7, by omega⟩) (cat_s4 u), cat_n4] at this
   cases this
 | false =>
  rw [if_neg (by rw [hb]; simp)] at h
  exact dec_implied hc h (by rw [dec_firstE hc (lv_in ⟨10, by omega⟩) (cat_s4 u), cat_y4x10])
theorem cat_lv5 : ∀ l : Fin 12, if (clN (askN (l.val : Int))).testBit 5 = true then impB (l.val : Int) ((8 : Nat) : Int) = true else impB ((7 : Nat) : Int) (l.val : Int) = true := by decide +kernel
theorem cat_acc5 (u : Nat → Value) {l : Nat} (hl : l < 12) : (decW (catN 5 u) (l : Int)).2.2 = !(clN (askN (l : Int))).testBit 5 := by
 have h := cat_lv5 ⟨l, hl⟩
 have hc := cat_c5 u
 cases hb : (clN (askN (l : Int))).testBit 5 with
 | true =>
  rw [if_pos hb] at h
  cases e : (decW (catN 5 u) (l : Int)).2.2 with
  | false => rfl
  | true =>
   have := dec_implied hc h e
   rw [dec_firstE hc (lv_in ⟨8, by omega⟩) (cat_s5 u), cat_n5] at this
   cases this
 | false =>
  rw [if_neg (by rw [hb]; simp)] at h
  exact dec_implied hc h (by rw [dec_firstE hc (lv_in ⟨7, by omega⟩) (cat_s5 u), cat_y5x7])
theorem cat_acc {i : Nat} (hi : i < 6) (u : Nat → Value) {l : Nat} (hl : l < 12) : (decW (catN i u) (l : Int)).2.2 = !(clN (askN (l : Int))).testBit i := by
 rcases (by omega : i = 0 ∨ i = 1 ∨ i = 2 ∨ i = 3 ∨ i = 4 ∨ i = 5) with rfl | rfl | rfl | rfl | rfl | rfl
 ·exact cat_acc0 u hl
 ·exact cat_acc1 u hl
 ·exact cat_acc2 u hl
 ·exact cat_acc3 u hl
 ·exact cat_acc4 u hl
 ·exact cat_acc5 u hl
theorem cat_check {i : Nat} (hi : i < 6) (u : Nat → Value) : checkI (catN i u) = 0 := by
 rcases (by omega : i = 0 ∨ i = 1 ∨ i = 2 ∨ i = 3 ∨ i = 4 ∨ i = 5) with rfl | rfl | rfl | rfl | rfl | rfl
 ·exact cat_c0 u
 ·exact cat_c1 u
 ·exact cat_c2 u
 ·exact cat_c3 u
 ·exact cat_c4 u
 ·exact cat_c5 u
theorem cat_len {i : Nat} (hi : i < 6) (u : Nat → Value) : (catN i u).length ≤ 4 := by
 rcases (by omega : i = 0 ∨ i = 1 ∨ i = 2 ∨ i = 3 ∨ i = 4 ∨ i = 5) with rfl | rfl | rfl | rfl | rfl | rfl <;> (unfold catN; simp)
theorem cat_okB {i : Nat} (hi : i < 6) (u : Nat → Value) : ∀ t ∈ catN i u, t.ok ∧ t.l.length ≤ 2 := by
 have key : ∀ t : TxnV, (decide (0 ≤ t.s ∧ t.s ≤ 10 ∧ 0 ≤ t.b ∧ t.b ≤ 10 ∧ 0 ≤ t.c ∧ t.c ≤ 10) && (t.l.all (fun o => decide (0 ≤ o.key ∧ o.key ≤ 10 ∧ 0 ≤ o.val ∧ o.val ≤ 10)) && decide (t.l.length ≤ 2))) = true → t.ok ∧ t.l.length ≤ 2 := fun t ht => by
  simp only [Bool.and_eq_true, decide_eq_true_eq, List.all_eq_true] at ht
  obtain ⟨⟨a1, a2, a3, a4, a5, a6⟩, a7, a8⟩ := ht
  refine ⟨⟨⟨⟨by omega, by omega⟩, ⟨by omega, by omega⟩, ⟨by omega, by omega⟩⟩, fun o ho => ?_⟩, a8⟩
  obtain ⟨b1, b2, b3, b4⟩ := a7 o ho
  exact ⟨⟨by omega, by omega⟩, ⟨by omega, by omega⟩⟩
 intro t ht
 refine key t ?_
 rcases (by omega : i = 0 ∨ i = 1 ∨ i = 2 ∨ i = 3 ∨ i = 4 ∨ i = 5) with rfl | rfl | rfl | rfl | rfl | rfl <;> (simp [catN] at ht)
 ·rcases ht with rfl | rfl <;> rfl
 ·rcases ht with rfl | rfl | rfl <;> rfl
 ·rcases ht with rfl | rfl | rfl | rfl <;> rfl
 ·rcases ht with rfl | rfl <;> rfl
 ·rcases ht with rfl | rfl <;> rfl
 ·rcases ht with rfl | rfl <;> rfl
theorem cat_ok {i : Nat} (hi : i < 6) (u : Nat → Value) : ∀ t ∈ catN i u, t.ok := fun t ht => (cat_okB hi u t ht).1
theorem cat_short {i : Nat} (hi : i < 6) (u : Nat → Value) : Short (catN i u) := fun t ht => by have := (cat_okB hi u t ht).2; omega
end

section
open Go.RowKit
theorem infoTxn : (Tryz.prog.info? 59).map (fun i => (i.zero, i.size, i.bytes)) = some (some (.agg #[.int .i64 0, .int .i64 0, .int .i64 0, .slice none 0 0]), 4, 48) := by kernel_rfl
def OwnT (w : World) (base : Nat) (v : Value) (h : List TxnV) : Prop := w.ownsRow base 59 4 v h.length (txV h)
theorem OwnT.row {w : World} {base : Nat} {v : Value} {h : List TxnV} (hO : OwnT w base v h) : Row w v h.length 4 (txV h) := Row.of_owns hO
end

section
open Go.RowKit
theorem txV_app (l m : List TxnV) : txV (l ++ m) = txV l ++ txV m := by simp [txV]
theorem OwnT.below {w w' : World} {base : Nat} {v : Value} {h : List TxnV} (hO : OwnT w base v h) (hb : Below w.heap.size w w') : OwnT w' base v h := owns_below hO hb
theorem OwnT.at {w : World} {base g cap : Nat} {h : List TxnV} (hO : OwnT w base (.slice (some ⟨g, 0, none⟩) h.length cap) h) {j : Nat} (hj : j < h.length * 4) :
  w.cell? ⟨g, j, none⟩ = (txV h)[j]? ∧ w.frozen? ⟨g, j, none⟩ = false := by
 constructor
 ·obtain ⟨_, ao, cap', e, _, _, hc⟩ := hO.row
  cases e
  obtain ⟨b, off, e, hcell⟩ := hc (by omega)
  cases e
  have := hcell j hj
  simpa using this
 ·obtain ⟨h1, h2⟩ := hO
  rcases h2 with ⟨h2, _⟩ | ⟨g', cap', cur, e1, e2, hb, _⟩
  ·cases h2
  cases e1
  simp [World.frozen?, hb]
end

section
open Go.RowKit
section
variable {w w' : World} {b0 base : Nat} {v v' u : Value} {c : List TxnV}
end
section
variable {w w' : World} {gv b0 k : Nat} {D : List TxnV}
end
theorem Own.head {w : World} {base : Nat} {v : Value} {x : OpV} {r : List OpV} (h : Own w base v (x :: r)) : ∃ g cap, v = .slice (some ⟨g, 0, none⟩) (r.length + 1) cap ∧ w.cell? ⟨g, 1, none⟩ = some (.int .i64 x.key) ∧ w.frozen? ⟨g, 1, none⟩ = false ∧ base ≤ g ∧ g < w.heap.size := by
 have hr := Row.of_owns h
 have hl := World.ownsRow.lt h
 obtain ⟨h1, h2⟩ := h
 rcases h2 with ⟨_, e⟩ | ⟨g, cap, cur, e1, e2, hb, _⟩
 ·cases e
 subst e1
 obtain ⟨_, ao, cap', e, _, _, hc⟩ := hr
 cases e
 obtain ⟨b, off, e, hcell⟩ := hc (by simp)
 cases e
 refine ⟨g, cap, rfl, ?_, by simp [World.frozen?, hb], (hl g rfl).1, (hl g rfl).2⟩
 have := hcell 1 (by simp; omega)
 simpa [opV] using this
end

section
open Go.RowKit
theorem row4_newM (w : World) (x y z u : Value) (t : TypeId) : ∀ j v, [x, y, z, u][j]? = some v → (w.alloc (.cells #[x, y, z, u] t)).cell? ((⟨w.heap.size, 0, none⟩ : Addr).add j) = some v := fun j v hv => by
 rw [Addr.add_lit, cell_of_row _ _ _ _ _ _ (heap_alloc_new w _)]
 simpa using hv
end

end Go.Proofs.YtadihdkpoeibhaaGreatDoor
