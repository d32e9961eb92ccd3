/- Walks and plain facts that the proof of the statement WholeEnough uses, joined: OrdG OrdH RelF OrdD OrdE OrdI HisF HisG OrdJ OrdF OrdK OrdM RelP RelG RelH RelI RelN RelJ RelK RelL RelO SetH SetI RelQ OrdO OrdAH RelR LeaC OrdY HisH HisI HisJ. Conditions: each theorem's own. -/
import Derived.Deep.MidRow
import Derived.BigQuiet
import Derived.Deep.QuietTactic
import Derived.Deep.RegionHeld3
import Derived.Deep.RegionWith
import Derived.Deep.RegionHeld
import Derived.Deep.CutRange
import Derived.Test.YtnhkjehfmbfmmaaGreatDoorPWholeEnough0
import Derived.Test.YtnhkjehfmbfmmaaGreatDoorPWholeEnough1
namespace Go.Proofs.YtnhkjehfmbfmmaaGreatDoor
set_option maxHeartbeats 32000000
set_option maxRecDepth 100000
set_option linter.unusedSimpArgs false
set_option linter.unusedVariables false
open Lib (hid)
section
open Go.RowKit
def Frs (w : World) (v : Value) (l : List (Int × Int)) : Prop := Row w v l.length 2 (frV l)
theorem Frs.below {w w' : World} {v : Value} {l : List (Int × Int)} (h : Frs w v l) (hb : Below w.heap.size w w') : Frs w' v l := Row.below h hb
theorem frV_at : ∀ (l : List (Int × Int)) (k : Nat) (hk : k < l.length), (frV l)[k * 2]? = some (.int .i64 l[k].1) ∧ (frV l)[k * 2 + 1]? = some (.int .i64 l[k].2)
 | [], k, hk => by simp at hk
 | p :: l, 0, _ => by simp [frV]
 | p :: l, k + 1, hk => by
  obtain ⟨h1, h2⟩ := frV_at l k (by simpa using hk)
  have e : (k + 1) * 2 = k * 2 + 1 + 1 := by omega
  have e2 : frV (p :: l) = .int .i64 p.1 :: .int .i64 p.2 :: frV l := rfl
  rw [e, e2]
  exact ⟨by simpa using h1, by simpa using h2⟩
theorem Frs.form {w : World} {v : Value} {l : List (Int × Int)} (h : Frs w v l) : ∃ ao cap, v = .slice ao l.length cap ∧ l.length ≤ 9223372036854775807 := by
 obtain ⟨_, ao, cap, rfl, hm, _, _⟩ := h
 exact ⟨ao, cap, rfl, Nat.le_trans hm.1 hm.2⟩
theorem Frs.at {w : World} {ao : Option Addr} {n cap : Nat} {l : List (Int × Int)} (h : Frs w (.slice ao n cap) l) {k : Nat} (hk : k < l.length) :
  ∃ b off, ao = some ⟨b, off, none⟩ ∧ w.cell? ⟨b, off + k * 2, none⟩ = some (.int .i64 l[k].1) ∧ w.cell? ⟨b, off + k * 2 + 1, none⟩ = some (.int .i64 l[k].2) := by
 obtain ⟨_, ao', cap', he, hm, _, hc⟩ := h
 obtain ⟨rfl, _, _⟩ : ao = ao' ∧ n = l.length ∧ cap = cap' := by simpa using he
 obtain ⟨b, off, rfl, hcell⟩ := hc (by omega)
 obtain ⟨h0, h1⟩ := frV_at l k hk
 exact ⟨b, off, rfl, by rw [hcell _ (by omega), h0], by rw [Nat.add_assoc, hcell _ (by omega), h1]⟩
theorem offrom1_any (y f a : Int) (q : Nat) (w : World) (hq : w.cell? ⟨q, 0, none⟩ = some (.int .i64 a)) :
  Calls Tryz.prog 62 #[.agg #[.int .i64 y, .int .i64 f], .pointer (some ⟨q, 0, none⟩)] w fun e w' => e = .returned (.bool (decide (f = a))) ∧ Below w.heap.size w w' := by
 have hq' := (box_below w (.cells #[.int .i64 y, .int .i64 f] 121)).cell (p := ⟨q, 0, none⟩) (block_lt hq)
 rw [hq] at hq'
 go_enter Tryz.func62, Tryz.ntmps62
 go_wp2_with fail
 go_ret
 exact ⟨rfl, (Below.refl _ _).alloc (Nat.le_refl _) _⟩
theorem frs_take {f : Int × Int → Bool} {l : List (Int × Int)} {k : Nat} (hk : k < l.length) (h : (l.take k).any f = false) : (l.take (k + 1)).any f = f l[k] := by
 rw [List.take_succ_eq_append_getElem hk, List.any_append, h]; simp
theorem ofindex_any (va : Value) (l : List (Int × Int)) (a : Int) (q : Nat) (w : World) (hT : Frs w va l) (hq : w.cell? ⟨q, 0, none⟩ = some (.int .i64 a)) :
  Calls Tryz.prog 108 #[va, .func (.func 62) #[] #[.pointer (some ⟨q, 0, none⟩)]] w fun e w' => ∃ r : Int, e = .returned (.int .i64 r) ∧ decide (0 ≤ r) = l.any (fun p => decide (p.2 = a)) ∧ Below w.heap.size w w' := by
 obtain ⟨ao, cap, rfl, hal⟩ := hT.form
 have HQ := hid (fun wx (hx : Below w.heap.size w wx) => (hx.cell (p := ⟨q, 0, none⟩) (block_lt hq)).trans hq)
 clear hq
 go_enter Tryz.func108, Tryz.ntmps108
 go_wp2_with fail
 go_loopw [8] (fun i wr => ∃ k : Nat, k ≤ l.length ∧ i = .int .i64 k ∧ (l.take k).any (fun p => decide (p.2 = a)) = false ∧ Below w.heap.size w wr) (fun i _ => l.length - (intOf i).toNat)
 case atStart => exact ⟨0, by omega, rfl, rfl, Below.refl _ _⟩
 case round =>
  obtain ⟨k, hk, rfl, hno, hb⟩ := hrel
  have HNO := hid hno
  clear hno
  by_cases hlt : k < l.length
  ·have hki : (k : Int) < (l.length : Int) := by omega
   obtain ⟨g, o, hao, c0, c1⟩ := (hT.below hb).at hlt
   cases hao
   have HS := hid (frs_take hlt HNO.out)
   have HH : Hid (decide (l[k].2 = a) = true → l.any (fun p => decide (p.2 = a)) = true) := hid (fun h => List.any_eq_true.2 ⟨_, List.getElem_mem hlt, h⟩)
   have CF := hid (offrom1_any l[k].1 l[k].2 a q wr (HQ.out _ hb))
   generalize l[k] = z at *
   obtain ⟨y, f⟩ := z
   simp only at c0 c1 HS HH CF
   by_cases hf : f = a
   ·have HD : Hid (l.any (fun p => decide (p.2 = a)) = true) := hid (HH.out (decide_eq_true hf))
    rw [decide_eq_true hf] at CF
    clear hf HH HS
    go_wp2_with (go_at_call 62; refine (CF.out).mono ?_; rintro e w6 ⟨rfl, hb6⟩)
    have hbb := hb.trans (hb6.mono hb.size)
    go_ret
    exact ⟨_, rfl, by rw [HD.out]; exact decide_eq_true (by omega), hbb⟩
   ·have HD : Hid ((l.take (k + 1)).any (fun p => decide (p.2 = a)) = false) := hid (by rw [HS.out]; exact decide_eq_false hf)
    rw [decide_eq_false hf] at CF
    clear hf HH HS
    go_wp2_with (go_at_call 62; refine (CF.out).mono ?_; rintro e w6 ⟨rfl, hb6⟩)
    have hbb := hb.trans (hb6.mono hb.size)
    go_roundw
    case rel => exact ⟨k + 1, by omega, by go_num, HD.out, hbb⟩
    case measure => simp [intOf]; omega
  ·have hkl : k = l.length := by omega
   subst hkl
   have HD : Hid (l.any (fun p => decide (p.2 = a)) = false) := hid (by have h := HNO.out; rwa [List.take_length] at h)
   go_wp2_with fail
   go_ret
   exact ⟨_, rfl, by rw [HD.out]; rfl, hb⟩
end

section
open Go.RowKit
theorem ofcontains_any (va : Value) (l : List (Int × Int)) (a : Int) (q : Nat) (w : World) (hT : Frs w va l) (hq : w.cell? ⟨q, 0, none⟩ = some (.int .i64 a)) :
  Calls Tryz.prog 61 #[va, .func (.func 62) #[] #[.pointer (some ⟨q, 0, none⟩)]] w fun e w' => e = .returned (.bool (l.any (fun p => decide (p.2 = a)))) ∧ Below w.heap.size w w' := by
 have CI := hid (ofindex_any va l a q w hT hq)
 obtain ⟨ao, cap, rfl, hal⟩ := hT.form
 clear hT hq
 generalize l.any (fun p => decide (p.2 = a)) = B at *
 go_enter Tryz.func61, Tryz.ntmps61
 go_wp2_with fail
 refine (CI.out).mono ?_
 rintro e w6 ⟨r, rfl, hr, hb6⟩
 go_wp2_with fail
 go_ret
 exact ⟨by subst hr; rfl, hb6⟩
def FRws (w : World) (v : Value) (K : List (Value × List (Int × Int))) : Prop := Row w v K.length 1 (K.map (·.1)) ∧ ∀ p ∈ K, Frs w p.1 p.2
theorem FRws.below {w w' : World} {v : Value} {K : List (Value × List (Int × Int))} (h : FRws w v K) (hb : Below w.heap.size w w') : FRws w' v K := ⟨Row.below h.1 hb, fun p hp => (h.2 p hp).below hb⟩
theorem FRws.form {w : World} {v : Value} {K : List (Value × List (Int × Int))} (h : FRws w v K) : ∃ ao cap, v = .slice ao K.length cap := by
 obtain ⟨⟨_, ao, cap, rfl, _⟩, _⟩ := h
 exact ⟨ao, cap, rfl⟩
theorem FRws.at {w : World} {ao : Option Addr} {n cap : Nat} {K : List (Value × List (Int × Int))} (h : FRws w (.slice ao n cap) K) {k : Nat} (hk : k < K.length) :
  ∃ b off, ao = some ⟨b, off, none⟩ ∧ w.cell? ⟨b, off + k, none⟩ = some K[k].1 ∧ Frs w K[k].1 K[k].2 := by
 obtain ⟨⟨_, ao', cap', he, hm, _, hc⟩, hi⟩ := h
 obtain ⟨rfl, _, _⟩ : ao = ao' ∧ n = K.length ∧ cap = cap' := by simpa using he
 obtain ⟨b, off, rfl, hcell⟩ := hc (by omega)
 exact ⟨b, off, rfl, by rw [hcell k (by omega)]; simp [List.getElem?_eq_getElem hk], hi _ (List.getElem_mem hk)⟩
theorem offrom_any (vr : Value) (K : List (Value × List (Int × Int))) (a b : Nat) (p ob : Nat) (w : World) (hp : w.cell? ⟨p, 0, none⟩ = some (.pointer (some ⟨ob, 0, none⟩))) (hr : w.cell? ⟨ob, 195, none⟩ = some vr) (hT : FRws w vr K) (hb : b < K.length) :
  Calls Tryz.prog 60 #[.int .i64 a, .int .i64 b, .pointer (some ⟨p, 0, none⟩)] w fun e w' => e = .returned (.bool (K[b].2.any (fun r => decide (r.2 = (a : Int))))) ∧ Below w.heap.size w w' := by
 obtain ⟨ao, cap, rfl⟩ := hT.form
 have hbi : (b : Int) < (K.length : Int) := by omega
 have hb0 := box_below w (.cells #[.int .i64 a] 3)
 have hp0 := (hb0.cell (p := ⟨p, 0, none⟩) (block_lt hp)).trans hp
 have hr0 := (hb0.cell (p := ⟨ob, 195, none⟩) (block_lt hr)).trans hr
 have hq0 : (w.alloc (.cells #[.int .i64 a] 3)).cell? ⟨w.heap.size, 0, none⟩ = some (.int .i64 a) := by rw [cell_of_row _ _ 0 _ _ _ (heap_alloc_new w _)]; rfl
 obtain ⟨g, o, hao, c0, hF⟩ := (hT.below hb0).at hb
 cases hao
 have CC := hid (ofcontains_any _ _ (a : Int) w.heap.size _ hF hq0)
 obtain ⟨aq, capq, hqv, hql⟩ := hF.form
 rw [hqv] at c0 CC
 have hmf : ∀ (fn : Fn) (first cap : Array Value) (w : World), (Instr.makeFunc fn first cap).run Tryz.prog w = .ok (.func fn first cap) w := fun _ _ _ _ => rfl
 generalize K[b].2.any (fun r => decide (r.2 = (a : Int))) = B at *
 generalize K[b].2.length = m at *
 clear hT hF hqv hp hr
 go_enter Tryz.func60, Tryz.ntmps60
 go_wp2_with fail
 refine (CC.out).mono ?_
 rintro e w6 ⟨rfl, hb6⟩
 have hbb := below_then hb0 hb6
 go_wp2_with fail
 go_ret
 exact ⟨rfl, hbb⟩
end

section
open Go.RowKit
def addM (R : Mat) (a b : Int) : Mat := if mayB a = true ∧ mayB b = true then rowSet R a.toNat (fun j => R a.toNat j || decide (j = b.toNat)) else R
theorem add_yes (R : Mat) (g : Nat) (a b : Nat) (w : World) (h : RelAt w g 108 R) (ha : a < 64) (hb : b < 64) :
  Calls Tryz.prog 107 #[.pointer (some ⟨g, 0, none⟩), .int .i64 (a : Int), .int .i64 (b : Int)] w fun e w' => e = .returned (.bool true) ∧ RelAt w' g 108 (rowSet R a (fun j => R a j || decide (j = b))) ∧ w.grownBy w' (some g) := by
 have hma : mayB (a : Int) = true := by unfold mayB; simp; omega
 have hmb : mayB (b : Int) = true := by unfold mayB; simp; omega
 have hc := h.cell ha
 have hf := h.free a
 have hM := hid (withS_mkS (R a) b hb)
 have hset := isSet_mkS (R a)
 have hlt := h.lt
 have HN := hid (h.store a _ (fun j => R a j || decide (j = b)) hM.out)
 have CW : ∀ wx, Calls Tryz.prog 106 #[.int .u64 ((mkS (R a) : Nat) : Int), .int .i64 (b : Int)] wx fun e w' => e = .returned (.int .u64 ((withS (mkS (R a)) (b : Int) : Nat) : Int)) ∧ w' = wx :=
  fun wx => (with_any _ _ wx hset).mono fun _ _ h => ⟨h.1, h.2.symm⟩
 have HG : Hid (w.grownBy (w.setCell ⟨g, a, none⟩ (.int .u64 ((withS (mkS (R a)) (b : Int) : Nat) : Int))) (some g)) :=
  hid ⟨rfl, rfl, rfl, by simp, fun k _ hk => Below.heap_setCell w ⟨g, a, none⟩ _ k (fun e => hk (by rw [e]))⟩
 have CWH := hid CW
 clear CW h
 generalize mkS (R a) = x at *
 generalize withS x (b : Int) = z at *
 have hai : (a : Int) < 64 := by omega
 go_enter Tryz.func107, Tryz.ntmps107
 go_wp2_with (go_at_call 147; refine (rmayn_any _ _).mono ?_; rintro e w' ⟨rfl, rfl⟩)
 go_still_tail 11, (by kernel_rfl)
 still_call (CWH.out _)
 repeat still_step
 refine wpStill_nil ?_
 go_wp2
 go_ret
 exact ⟨rfl, HN.out, ⟨HG.out.os, HG.out.tape, HG.out.output, HG.out.size, HG.out.block⟩⟩
theorem add_no (R : Mat) (g : Nat) (a b : Int) (w : World) (h : RelAt w g 108 R) (hab : ¬ (mayB a = true ∧ mayB b = true)) :
  Calls Tryz.prog 107 #[.pointer (some ⟨g, 0, none⟩), .int .i64 a, .int .i64 b] w fun e w' => e = .returned (.bool false) ∧ RelAt w' g 108 R ∧ w.grownBy w' (some g) := by
 have HR := hid h
 clear h
 cases ha : mayB a
 ·clear hab
  go_enter Tryz.func107, Tryz.ntmps107
  go_wp2_with (go_at_call 147; refine (rmayn_any _ _).mono ?_; rintro e w' ⟨rfl, rfl⟩)
  go_ret
  exact ⟨rfl, HR.out, World.grownBy.refl _ _⟩
 ·have hb : mayB b = false := by cases hb : mayB b <;> simp_all
  clear hab
  go_enter Tryz.func107, Tryz.ntmps107
  go_wp2_with (go_at_call 147; refine (rmayn_any _ _).mono ?_; rintro e w' ⟨rfl, rfl⟩)
  go_ret
  exact ⟨rfl, HR.out, World.grownBy.refl _ _⟩
theorem mayB_iff (n : Int) : mayB n = true ↔ 0 ≤ n ∧ n < 64 := by unfold mayB; simp
theorem add_any (R : Mat) (g : Nat) (a b : Int) (w : World) (h : RelAt w g 108 R) :
  Calls Tryz.prog 107 #[.pointer (some ⟨g, 0, none⟩), .int .i64 a, .int .i64 b] w fun e w' => e = .returned (.bool (mayB a && mayB b)) ∧ RelAt w' g 108 (addM R a b) ∧ w.grownBy w' (some g) := by
 by_cases hab : mayB a = true ∧ mayB b = true
 ·have h1 := (mayB_iff a).1 hab.1
  have h2 := (mayB_iff b).1 hab.2
  have e1 : (mayB a && mayB b) = true := by rw [hab.1, hab.2]; rfl
  have e2 : addM R a b = rowSet R a.toNat (fun j => R a.toNat j || decide (j = b.toNat)) := if_pos hab
  rw [e1, e2]
  obtain ⟨i, rfl⟩ := Int.eq_ofNat_of_zero_le h1.1
  obtain ⟨j, rfl⟩ := Int.eq_ofNat_of_zero_le h2.1
  simp only [Int.toNat_natCast]
  exact add_yes R g i j w h (by omega) (by omega)
 ·have e1 : (mayB a && mayB b) = false := by cases ha : mayB a <;> cases hb : mayB b <;> simp_all
  have e2 : addM R a b = R := if_neg hab
  rw [e1, e2]
  exact add_no R g a b w h hab
end

section
open Go.RowKit
def prsRow (S : Nat → Nat → Bool) (a : Nat) (R : Mat) : Nat → Mat
 | 0 => R
 | b + 1 => if S a b then addM (prsRow S a R b) a b else prsRow S a R b
def prsTo (S : Nat → Nat → Bool) (n : Nat) : Nat → Mat
 | 0 => noR
 | a + 1 => prsRow S a (prsTo S n a) n
theorem prsRow_hit {S : Nat → Nat → Bool} {a b : Nat} (R : Mat) (h : S a b = true) : prsRow S a R (b + 1) = addM (prsRow S a R b) a b := if_pos h
theorem prsRow_miss {S : Nat → Nat → Bool} {a b : Nat} (R : Mat) (h : S a b = false) : prsRow S a R (b + 1) = prsRow S a R b := if_neg (by simp [h])
theorem results_rel1 {fn : Func} {p : Tmp} (h : fn.results = #[.cell p 108]) (tmps : Array Value) (w : World) (g : Nat) (R : Mat)
  (hp : tmps.getD p undef = .pointer (some ⟨g, 0, none⟩)) (hg : RelAt w g 108 R) : (results fn tmps).run Tryz.prog w = .ok (.agg (rowsA R)) w := by
 have hp' : tmps[p]?.getD undef = .pointer (some ⟨g, 0, none⟩) := by simpa using hp
 simp [results, h, hp', asAddr, run_loadVar_row w g _ 108 (rowsA R) _ _ hg Tryz.underlying108 rfl (infoRel' _)]
theorem pairs_any (S : Nat → Nat → Bool) (n : Nat) (hn : n ≤ 100) (f : FuncId) (cap : Array Value) (w : World) (hcf : ∀ (args : Array Value) (wx : World), Sem.run Tryz.prog (callFunc f args) wx = .ok (.enter f args) wx)
  (HF : ∀ (a b : Nat) (wx : World), a < n → b < n → Below w.heap.size w wx → Calls Tryz.prog f (#[.int .i64 a, .int .i64 b] ++ cap) wx fun e w' => e = .returned (.bool (S a b)) ∧ Below wx.heap.size wx w') :
  Calls Tryz.prog 57 #[.int .i64 n, .func (.func f) #[] cap] w fun e w' => e = .returned (.agg (rowsA (prsTo S n n))) ∧ Below w.heap.size w w' := by
 have HF' := hid HF
 clear HF
 go_enter Tryz.func57, Tryz.ntmps57
 go_wp2
 go_loopw [9] (fun i wr => ∃ k : Nat, k ≤ n ∧ i = .int .i64 k ∧ RelAt wr (w.heap.size + 1) 108 (prsTo S n k) ∧ RelAt wr w.heap.size 108 noR ∧ Below w.heap.size w wr)
  (fun i _ => n - (intOf i).toNat)
 case atStart =>
  refine ⟨0, by omega, rfl, ?_, ?_, ?_⟩
  ·exact RelAt.made _ _ noR (by simp) (by rw [rowsA_none]; rfl)
  ·exact (RelAt.made w _ noR rfl (by rw [rowsA_none]; rfl)).alloc _
  ·exact ((Below.refl w.heap.size w).alloc (Nat.le_refl _) _).alloc (by simp) _
 case round =>
  obtain ⟨k, hk, rfl, h1, h0, hb⟩ := hrel
  by_cases hlt : k < n
  ·have hki : (k : Int) < (n : Int) := by omega
   have HN : Hid (prsTo S n (k + 1) = prsRow S k (prsTo S n k) n) := hid rfl
   generalize prsTo S n k = R at *
   go_wp2_with fail
   go_loopw [13] (fun i wx => ∃ j : Nat, j ≤ n ∧ i = .int .i64 j ∧ RelAt wx (w.heap.size + 1) 108 (prsRow S k R j) ∧ RelAt wx w.heap.size 108 noR ∧ Below w.heap.size w wx)
    (fun i _ => n - (intOf i).toNat)
   case atStart => exact ⟨0, by omega, rfl, h1, h0, hb⟩
   case round =>
    clear h1 h0 hb
    obtain ⟨j, hj, rfl, h1, h0, hb⟩ := hrel
    by_cases hltj : j < n
    ·have hkj : (j : Int) < (n : Int) := by omega
     have CF := hid (HF'.out k j wr hlt hltj hb)
     cases hs : S k j
     ·rw [hs] at CF
      have HM := hid (prsRow_miss R hs)
      clear hs
      go_wp2_with fail
      refine (CF.out).mono ?_
      rintro e w6 ⟨rfl, hb6⟩
      have h16 := h1.below hb6 h1.lt
      have h06 := h0.below hb6 h0.lt
      have hbb := hb.trans (hb6.mono hb.size)
      clear h1 h0 hb hb6 CF
      go_wp2_with fail
      go_roundw
      case rel => exact ⟨j + 1, by omega, by go_num, by rw [HM.out]; exact h16, h06, hbb⟩
      case measure => simp [intOf]; omega
     ·rw [hs] at CF
      have HM := hid (prsRow_hit R hs)
      clear hs
      go_wp2_with fail
      refine (CF.out).mono ?_
      rintro e w6 ⟨rfl, hb6⟩
      have h16 := h1.below hb6 h1.lt
      have h06 := h0.below hb6 h0.lt
      have hbb := hb.trans (hb6.mono hb.size)
      have CA := hid (add_any _ _ (k : Int) (j : Int) _ h16)
      clear h1 h0 hb hb6 CF h16
      go_wp2_with fail
      refine (CA.out).mono ?_
      rintro e w7 ⟨rfl, h17, hg7⟩
      have h07 : RelAt w7 w.heap.size 108 noR := by
       have := hg7.block w.heap.size h06.lt (by simp)
       unfold RelAt at *
       rw [this]
       exact h06
      have hb7 : Below w.heap.size w w7 := hbb.grown hg7 hbb.size (by simp)
      clear CA h06 hbb hg7
      go_wp2_with fail
      go_roundw
      case rel => exact ⟨j + 1, by omega, by go_num, by rw [HM.out]; exact h17, h07, hb7⟩
      case measure => simp [intOf]; omega
    ·have hjn : j = n := by omega
     subst hjn
     go_wp2_with fail
     go_roundw
     case rel => exact ⟨k + 1, by omega, by go_num, by rw [HN.out]; exact h1, h0, hb⟩
     case measure => simp [intOf]; omega
  ·have hkn : k = n := by omega
   subst hkn
   go_wp2_with (first
    | (with_reducible refine wpList_load_rel h1 rfl _ rfl rfl ?_)
    | (with_reducible refine wpList_store_rel h0 (prsTo S k k) rfl _ _ rfl rfl rfl ?_))
   have h3 := h0.setRow (prsTo S k k)
   exact bodyPost_ret (results_rel1 rfl _ _ _ _ rfl h3) rfl ⟨rfl, below_setRow hb (by omega) _⟩
end

section
open Go.RowKit
def Rws (w : World) (v : Value) (K : List (Value × List Int)) : Prop := Row w v K.length 1 (K.map (·.1)) ∧ ∀ p ∈ K, Ints w p.1 p.2
theorem Rws.below {w w' : World} {v : Value} {K : List (Value × List Int)} (h : Rws w v K) (hb : Below w.heap.size w w') : Rws w' v K := ⟨Row.below h.1 hb, fun p hp => (h.2 p hp).below hb⟩
theorem Rws.form {w : World} {v : Value} {K : List (Value × List Int)} (h : Rws w v K) : ∃ ao cap, v = .slice ao K.length cap := by
 obtain ⟨⟨_, ao, cap, rfl, _⟩, _⟩ := h
 exact ⟨ao, cap, rfl⟩
theorem Rws.at {w : World} {ao : Option Addr} {n cap : Nat} {K : List (Value × List Int)} (h : Rws w (.slice ao n cap) K) {k : Nat} (hk : k < K.length) :
  ∃ b off, ao = some ⟨b, off, none⟩ ∧ w.cell? ⟨b, off + k, none⟩ = some K[k].1 ∧ Ints w K[k].1 K[k].2 := by
 obtain ⟨⟨_, ao', cap', he, hm, _, hc⟩, hi⟩ := h
 obtain ⟨rfl, _, _⟩ : ao = ao' ∧ n = K.length ∧ cap = cap' := by simpa using he
 obtain ⟨b, off, rfl, hcell⟩ := hc (by omega)
 exact ⟨b, off, rfl, by rw [hcell k (by omega)]; simp [List.getElem?_eq_getElem hk], hi _ (List.getElem_mem hk)⟩
def eS (s : Nat) : Value := .int .u64 (s : Int)
def wrsRow (i : Nat) (F : Int → Option Nat) (xs : List Int) : Int → Option Nat := xs.foldl (fun F x => putF F x (withS ((F x).getD 0) i)) F
def wrsTo (K : List (Value × List Int)) : Nat → Int → Option Nat
 | 0 => fun _ => none
 | k + 1 => wrsRow k (wrsTo K k) ((K[k]?.map (·.2)).getD [])
theorem wrsRow_snoc (i : Nat) (F : Int → Option Nat) (xs : List Int) (k : Nat) (hk : k < xs.length) : wrsRow i F (xs.take (k + 1)) = putF (wrsRow i F (xs.take k)) xs[k] (withS ((wrsRow i F (xs.take k) xs[k]).getD 0) i) := by
 unfold wrsRow; rw [List.take_succ_eq_append_getElem hk, List.foldl_append]; rfl
theorem wrsTo_succ {K : List (Value × List Int)} {k : Nat} (hk : k < K.length) : wrsTo K (k + 1) = wrsRow k (wrsTo K k) K[k].2 := by
 show wrsRow k (wrsTo K k) _ = _
 rw [List.getElem?_eq_getElem hk]; rfl
def AllSet (F : Int → Option Nat) : Prop := ∀ x, IsSet ((F x).getD 0)
theorem AllSet.put {F : Int → Option Nat} (h : AllSet F) (x : Int) {s : Nat} (hs : IsSet s) : AllSet (putF F x s) := fun y => by
 by_cases e : y = x
 ·rw [e, putF_same]; exact hs
 ·rw [putF_other F s e]; exact h y
theorem mapIS : Tryz.prog.underlying 109 = some (.map 3 106) := Tryz.underlying109
theorem zeroS (w : World) : (zeroValue 106).run Tryz.prog w = .ok (eS 0) w := by kernel_rfl
theorem owriters_any (v : Value) (K : List (Value × List Int)) (w : World) (hK : Rws w v K) (hlen : K.length ≤ 100) (hrow : ∀ p ∈ K, p.2.length ≤ 100000) (hint : ∀ p ∈ K, ∀ x ∈ p.2, InI x) :
  Calls Tryz.prog 56 #[v] w fun e w' => ∃ b n c, e = .returned (.map (some b)) ∧ w.heap.size ≤ b ∧ MapI eS Tryz.prog 3 w' b n (wrsTo K K.length) c ∧ AllSet (wrsTo K K.length) ∧ Below w.heap.size w w' := by
 obtain ⟨ao, cap, rfl⟩ := hK.form
 have HR := hid hrow
 have HI := hid hint
 clear hrow hint
 have hm0 := MapI.made eS Tryz.prog 3 w
 have hb1 := (Below.refl w.heap.size w).alloc (Nat.le_refl _) (.map #[] 0)
 have hmm := @run_makeMap Tryz.prog
 go_enter Tryz.func56, Tryz.ntmps56
 go_wp2_with fail
 go_loopw [11] (fun i wr => ∃ k n c : Nat, k ≤ K.length ∧ i = .int .i64 k ∧ n ≤ 100000 * k ∧ AllSet (wrsTo K k) ∧ MapI eS Tryz.prog 3 wr w.heap.size n (wrsTo K k) c ∧ Below w.heap.size w wr) (fun i _ => K.length - (intOf i).toNat)
 case atStart => exact ⟨0, 0, 0, by omega, rfl, by omega, fun _ => (show IsSet 0 from by unfold IsSet; omega), hm0, hb1⟩
 case round =>
  obtain ⟨k, n, c, hk, rfl, hnn, hA, hM, hb⟩ := hrel
  clear hm0 hb1
  by_cases hlt : k < K.length
  ·have hki : (k : Int) < (K.length : Int) := by omega
   have hKr := hK.below hb
   obtain ⟨g, o, hao, c0, hin⟩ := hKr.at hlt
   cases hao
   have HS := hid (wrsTo_succ hlt)
   have hrl := HR.out K[k] (List.getElem_mem hlt)
   have HIK := hid (HI.out K[k] (List.getElem_mem hlt))
   have HIN := hid (fun wx (hx : Below w.heap.size w wx) => (hK.2 K[k] (List.getElem_mem hlt)).below hx)
   generalize K[k] = q at *
   obtain ⟨qv, xs⟩ := q
   simp only at c0 hin HS hrl HIK HIN
   obtain ⟨ax, cx, rfl, hxl⟩ := hin.form
   generalize wrsTo K k = F at *
   clear hKr hin
   go_wp2_with fail
   go_loopw [18] (fun i wx => ∃ j m d : Nat, j ≤ xs.length ∧ i = .int .i64 j ∧ m ≤ 100000 * k + j ∧ AllSet (wrsRow k F (xs.take j)) ∧ MapI eS Tryz.prog 3 wx w.heap.size m (wrsRow k F (xs.take j)) d ∧ Below w.heap.size w wx) (fun i _ => xs.length - (intOf i).toNat)
   case atStart => exact ⟨0, n, c, by omega, rfl, by omega, hA, hM, hb⟩
   case round =>
    obtain ⟨j, m, d, hj, rfl, hmm2, hA2, hM2, hb2⟩ := hrel
    clear hA hM
    by_cases hltj : j < xs.length
    ·have hkj : (j : Int) < (xs.length : Int) := by omega
     obtain ⟨g2, o2, hao2, e0⟩ := (HIN.out _ hb2).at hltj
     cases hao2
     have HSJ := hid (wrsRow_snoc k F xs j hltj)
     have hkv := HIK.out xs[j] (List.getElem_mem hltj)
     have hset := hA2 xs[j]
     have HAN := hid (hA2.put xs[j] (isSet_withS (n := (k : Int)) hset))
     generalize xs[j] = x at *
     generalize wrsRow k F (xs.take j) = G at *
     have CW := hid (fun wx => with_any ((G x).getD 0) (k : Int) wx hset)
     clear hset hA2
     go_wp2_with (first
      | (at_lookup; refine wpList_lookI _ rfl _ _ 109 rfl 3 106 keyI mapIS 0 (zeroS _) _ _ _ _ rfl hM2 _ rfl hkv ?_; simp only [eS])
      | (go_at_call 106; refine (CW.out _).mono ?_; rintro e w' ⟨rfl, rfl⟩)
      | (at_mapUpdate; refine wpList_putI _ rfl _ _ _ 109 rfl 3 106 keyI mapIS _ _ _ _ rfl hM2 (by unfold maxLen; omega) _ rfl hkv (withS ((G x).getD 0) (k : Int)) rfl ?_; intro w5 hM5 hg5; go_frame))
     have hb5 := hb2.grown hg5 hb2.size (fun q hq => by cases hq; exact Nat.le_refl _)
     clear hM2 hb2 hg5
     go_wp2_with fail
     go_roundw
     case rel => exact ⟨j + 1, m + 1, _, by omega, by go_num, by omega, by rw [HSJ.out]; exact HAN.out, by rw [HSJ.out]; exact hM5, hb5⟩
     case measure => simp [intOf]; omega
    ·have hj2 : j = xs.length := by omega
     subst hj2
     rw [List.take_length] at hA2 hM2
     go_wp2_with fail
     go_roundw
     case rel => exact ⟨k + 1, m, d, by omega, by go_num, by omega, by rw [HS.out]; exact hA2, by rw [HS.out]; exact hM2, hb2⟩
     case measure => simp [intOf]; omega
  ·have hkl : k = K.length := by omega
   subst hkl
   go_wp2_with fail
   go_ret
   exact ⟨_, _, _, rfl, Nat.le_refl _, hM, hA, hb⟩
end

section
open Go.RowKit
def ordF (n : Int) (S T F : Mat) (vm vk vr : Value) (sd : Bool) (i : Nat) : Value :=
 if i = 0 then .int .i64 n else if i < 65 then .int .u64 ((mkS (S (i - 1)) : Nat) : Int) else if i < 129 then .int .u64 ((mkS (T (i - 65)) : Nat) : Int) else if i < 193 then .int .u64 ((mkS (F (i - 129)) : Nat) : Int) else
 if i = 193 then vm else if i = 194 then vk else if i = 195 then vr else .bool sd
def OrdAt (w : World) (B : Nat) (n : Int) (S T F : Mat) (vm vk vr : Value) (sd : Bool) : Prop := ∀ i, i < 197 → w.cell? ⟨B, i, none⟩ = some (ordF n S T F vm vk vr sd i) ∧ w.frozen? ⟨B, i, none⟩ = false
section
variable {w : World} {B : Nat} {n : Int} {S T F : Mat} {vm vk vr : Value} {sd : Bool}
theorem OrdAt.lt (h : OrdAt w B n S T F vm vk vr sd) : B < w.heap.size := block_lt (h 0 (by omega)).1
theorem OrdAt.below {w' : World} {B' : Nat} (h : OrdAt w B n S T F vm vk vr sd) (hb : Below B' w w') (hB : B < B') : OrdAt w' B n S T F vm vk vr sd := fun i hi => by
 rw [hb.cell (p := ⟨B, i, none⟩) hB, hb.frozen (p := ⟨B, i, none⟩) hB]; exact h i hi
theorem OrdAt.alloc (h : OrdAt w B n S T F vm vk vr sd) (o : Obj) : OrdAt (w.alloc o) B n S T F vm vk vr sd := h.below ((Below.refl w.heap.size w).alloc (Nat.le_refl _) o) h.lt
theorem OrdAt.grown {w' : World} {row : Option Nat} (h : OrdAt w B n S T F vm vk vr sd) (hg : w.grownBy w' row) (hne : some B ≠ row) : OrdAt w' B n S T F vm vk vr sd := fun i hi => by
 obtain ⟨h1, h2⟩ := h i hi
 have hb := hg.block B h.lt hne
 have e1 : w'.cell? ⟨B, i, none⟩ = w.cell? ⟨B, i, none⟩ := by simp only [World.cell?]; rw [hb]
 have e2 : w'.frozen? ⟨B, i, none⟩ = w.frozen? ⟨B, i, none⟩ := by simp only [World.frozen?]; rw [hb]
 rw [e1, e2]; exact ⟨h1, h2⟩
theorem OrdAt.cN (h : OrdAt w B n S T F vm vk vr sd) : w.cell? ⟨B, 0, none⟩ = some (.int .i64 n) := (h 0 (by omega)).1
theorem OrdAt.cM (h : OrdAt w B n S T F vm vk vr sd) : w.cell? ⟨B, 193, none⟩ = some vm := (h 193 (by omega)).1
theorem OrdAt.cK (h : OrdAt w B n S T F vm vk vr sd) : w.cell? ⟨B, 194, none⟩ = some vk := (h 194 (by omega)).1
theorem OrdAt.cR (h : OrdAt w B n S T F vm vk vr sd) : w.cell? ⟨B, 195, none⟩ = some vr := (h 195 (by omega)).1
theorem OrdAt.cS (h : OrdAt w B n S T F vm vk vr sd) : w.cell? ⟨B, 196, none⟩ = some (.bool sd) := (h 196 (by omega)).1
theorem OrdAt.free (h : OrdAt w B n S T F vm vk vr sd) {i : Nat} (hi : i < 197) : w.frozen? ⟨B, i, none⟩ = false := (h i hi).2
theorem OrdAt.put (h : OrdAt w B n S T F vm vk vr sd) (k : Nat) (hk : k < 197) (v : Value) {n' : Int} {S' T' F' : Mat} {vm' vk' vr' : Value} {sd' : Bool} (h1 : ordF n' S' T' F' vm' vk' vr' sd' k = v)
  (h2 : ∀ i, i < 197 → i ≠ k → ordF n' S' T' F' vm' vk' vr' sd' i = ordF n S T F vm vk vr sd i) : OrdAt (w.setCell ⟨B, k, none⟩ v) B n' S' T' F' vm' vk' vr' sd' := fun i hi => by
 refine ⟨?_, by rw [World.frozen?_setCell]; exact (h i hi).2⟩
 by_cases e : i = k
 ·subst e
  rw [World.cell?_setCell_same _ _ _ (h i hi).1, h1]
 ·have hne : (⟨B, k, none⟩ : Addr) ≠ ⟨B, i, none⟩ := by
   intro q
   injection q with _ q2
   exact e q2.symm
  rw [World.cell?_setCell_other _ _ _ _ hne, h2 i hi e]
  exact (h i hi).1
theorem OrdAt.setM (h : OrdAt w B n S T F vm vk vr sd) (v : Value) : OrdAt (w.setCell ⟨B, 193, none⟩ v) B n S T F v vk vr sd := h.put 193 (by omega) v rfl (fun i _ e => by unfold ordF; simp [e])
theorem OrdAt.setK (h : OrdAt w B n S T F vm vk vr sd) (v : Value) : OrdAt (w.setCell ⟨B, 194, none⟩ v) B n S T F vm v vr sd := h.put 194 (by omega) v rfl (fun i _ e => by unfold ordF; simp [e])
theorem OrdAt.setR (h : OrdAt w B n S T F vm vk vr sd) (v : Value) : OrdAt (w.setCell ⟨B, 195, none⟩ v) B n S T F vm vk v sd := h.put 195 (by omega) v rfl (fun i _ e => by unfold ordF; simp [e])
theorem OrdAt.setS (h : OrdAt w B n S T F vm vk vr sd) (v : Bool) : OrdAt (w.setCell ⟨B, 196, none⟩ (.bool v)) B n S T F vm vk vr v := h.put 196 (by omega) (.bool v) rfl (fun i hi e => by
 unfold ordF
 by_cases e1 : i < 193
 ·by_cases a0 : i = 0
  ·simp only [a0, if_true]
  ·by_cases a1 : i < 65
   ·simp only [a0, a1, if_true, if_false]
   ·by_cases a2 : i < 129
    ·simp only [a0, a1, a2, if_true, if_false]
    ·simp only [a0, a1, a2, e1, if_true, if_false]
 ·have e3 : i = 193 ∨ i = 194 ∨ i = 195 := by omega
  rcases e3 with rfl | rfl | rfl <;> rfl)
theorem OrdAt.put64 (h : OrdAt w B n S T F vm vk vr sd) (o : Nat) (ho : o + 64 ≤ 197) (R : Mat) {S' T' F' : Mat} (h1 : ∀ j, j < 64 → ordF n S' T' F' vm vk vr sd (o + j) = .int .u64 ((mkS (R j) : Nat) : Int))
  (h2 : ∀ i, i < 197 → (i < o ∨ o + 64 ≤ i) → ordF n S' T' F' vm vk vr sd i = ordF n S T F vm vk vr sd i) : OrdAt (w.setCells B o (rowsA R).toList) B n S' T' F' vm vk vr sd := fun i hi => by
 have hl : (rowsA R).toList.length = 64 := by simp [rowsA_size]
 refine ⟨?_, by rw [World.frozen?_setCells]; exact (h i hi).2⟩
 by_cases e : i < o ∨ o + 64 ≤ i
 ·rw [World.cell?_setCells_out B (rowsA R).toList o w ⟨B, i, none⟩ (fun _ _ => by simp only [hl]; exact e), h2 i hi e]
  exact (h i hi).1
 ·obtain ⟨j, rfl⟩ : ∃ j, i = o + j := ⟨i - o, by omega⟩
  have hj : j < 64 := by omega
  rw [World.cell?_setCells_in B (rowsA R).toList o w (fun q hq => by rw [(h (o + q) (by omega)).1]; rfl) j (by omega), h1 j hj]
  have := rowsA_at R hj
  rw [← Array.getElem?_toList, List.getElem?_eq_getElem (by omega)] at this
  exact this
theorem OrdAt.setS1 (h : OrdAt w B n S T F vm vk vr sd) (R : Mat) : OrdAt (w.setCells B 1 (rowsA R).toList) B n R T F vm vk vr sd := h.put64 1 (by omega) R (fun j hj => by unfold ordF; rw [if_neg (by omega), if_pos (by omega)]; simp) (fun i _ e => by
 unfold ordF
 by_cases e0 : i = 0
 ·simp only [e0, if_true]
 ·have e1 : ¬ i < 65 := by omega
  simp only [e0, e1, if_false])
theorem OrdAt.setT1 (h : OrdAt w B n S T F vm vk vr sd) (R : Mat) : OrdAt (w.setCells B 65 (rowsA R).toList) B n S R F vm vk vr sd := h.put64 65 (by omega) R (fun j hj => by unfold ordF; rw [if_neg (by omega), if_neg (by omega), if_pos (by omega)]; simp) (fun i _ e => by
 unfold ordF
 by_cases e0 : i = 0
 ·simp only [e0, if_true]
 ·by_cases e1 : i < 65
  ·simp only [e0, e1, if_true, if_false]
  ·have e2 : ¬ i < 129 := by omega
   simp only [e0, e1, e2, if_false])
theorem OrdAt.setF1 (h : OrdAt w B n S T F vm vk vr sd) (R : Mat) : OrdAt (w.setCells B 129 (rowsA R).toList) B n S T R vm vk vr sd := h.put64 129 (by omega) R (fun j hj => by unfold ordF; rw [if_neg (by omega), if_neg (by omega), if_neg (by omega), if_pos (by omega)]; simp) (fun i _ e => by
 unfold ordF
 by_cases e0 : i = 0
 ·simp only [e0, if_true]
 ·by_cases e1 : i < 65
  ·simp only [e0, e1, if_true, if_false]
  ·by_cases e2 : i < 129
   ·simp only [e0, e1, e2, if_true, if_false]
   ·have e3 : ¬ i < 193 := by omega
    simp only [e0, e1, e2, e3, if_false])
theorem OrdAt.range (h : OrdAt w B n S T F vm vk vr sd) (o : Nat) (ho : o + 64 ≤ 197) (R : Mat) (h1 : ∀ j, j < 64 → ordF n S T F vm vk vr sd (o + j) = .int .u64 ((mkS (R j) : Nat) : Int)) : w.rangeAt B o (rowsA R).toList := fun j v hv => by
 have hl : (rowsA R).toList.length = 64 := by simp [rowsA_size]
 have hj : j < 64 := by have := (List.getElem?_eq_some_iff.1 hv).1; omega
 rw [Array.getElem?_toList, rowsA_at R hj] at hv
 rw [(h (o + j) (by omega)).1, h1 j hj]; exact hv
theorem OrdAt.rS (h : OrdAt w B n S T F vm vk vr sd) : w.rangeAt B 1 (rowsA S).toList := h.range 1 (by omega) S (fun j hj => by unfold ordF; rw [if_neg (by omega), if_pos (by omega)]; simp)
theorem OrdAt.rT (h : OrdAt w B n S T F vm vk vr sd) : w.rangeAt B 65 (rowsA T).toList := h.range 65 (by omega) T (fun j hj => by unfold ordF; rw [if_neg (by omega), if_neg (by omega), if_pos (by omega)]; simp)
theorem OrdAt.rF (h : OrdAt w B n S T F vm vk vr sd) : w.rangeAt B 129 (rowsA F).toList := h.range 129 (by omega) F (fun j hj => by unfold ordF; rw [if_neg (by omega), if_neg (by omega), if_neg (by omega), if_pos (by omega)]; simp)
theorem OrdAt.there (h : OrdAt w B n S T F vm vk vr sd) (o : Nat) (ho : o + 64 ≤ 197) : w.there B o 64 := fun j hj => by
 obtain ⟨h1, h2⟩ := h (o + j) (by omega)
 exact ⟨by rw [h1]; rfl, h2⟩
end
theorem zeroOrd (n : Int) : (Tryz.zeroCells112.setIfInBounds 0 (.int .i64 n)).setIfInBounds 196 (.bool true) = ((List.range 197).map (ordF n noR noR noR (.map none) (.slice none 0 0) (.slice none 0 0) true)).toArray := by kernel_rfl
theorem OrdAt.made (w : World) (n : Int) (t : TypeId) {B : Nat} {cs : Array Value} (hB : B = w.heap.size) (hc : cs = (Tryz.zeroCells112.setIfInBounds 0 (.int .i64 n)).setIfInBounds 196 (.bool true)) : OrdAt (w.alloc (.cells cs t)) B n noR noR noR (.map none) (.slice none 0 0) (.slice none 0 0) true := by
 subst hB hc
 rw [zeroOrd]
 have hh := heap_alloc_new w (.cells ((List.range 197).map (ordF n noR noR noR (.map none) (.slice none 0 0) (.slice none 0 0) true)).toArray t)
 intro i hi
 refine ⟨?_, frozen_of_row _ _ _ _ _ hh⟩
 rw [cell_of_row _ _ _ _ _ _ hh]
 simp [hi]
end

section
open Go.RowKit
def rdOk (F : Int → Option WV) (o : OpV) : Bool := o.wr || o.val == 0 || (match F o.val with
 | none => false
 | some u => u.key == o.key)
def rowOk (F : Int → Option WV) (l : List OpV) : Bool := l.all (rdOk F)
def valuesB (h : List TxnV) : Bool := okW h && h.all fun t => rowOk (wrTo h h.length) t.l
theorem rowOk_succ (F : Int → Option WV) (l : List OpV) (k : Nat) (hk : k < l.length) : rowOk F (l.take (k + 1)) = (rowOk F (l.take k) && rdOk F l[k]) := by
 unfold rowOk; rw [take_snoc l k hk, List.all_append]; simp
theorem rowOk_no {F : Int → Option WV} {l : List OpV} {k : Nat} (hk : k < l.length) (hn : rdOk F l[k] = false) : rowOk F l = false := by
 unfold rowOk; exact List.all_eq_false.2 ⟨l[k], List.getElem_mem hk, by simp [hn]⟩
theorem valuesB_no {h : List TxnV} {k : Nat} (hk : k < h.length) (hn : rowOk (wrTo h h.length) h[k].l = false) : valuesB h = false := by
 unfold valuesB
 rw [Bool.and_eq_false_iff]
 exact .inr (List.all_eq_false.2 ⟨h[k], List.getElem_mem hk, by simp [hn]⟩)
theorem values_any (va : Value) (h : List TxnV) (w : World) (hT : Txns w va h) (hok : ∀ t ∈ h, t.ok) (hks : ∀ t ∈ h, keysIn t.l) (hn : opsN h ≤ 100000) (hlen : h.length ≤ 100000) :
  Calls Tryz.prog 85 #[va] w fun e w' => e = .returned (.bool (valuesB h)) ∧ Below w.heap.size w w' := by
 obtain ⟨ao, cap, rfl, hal⟩ := hT.form
 have HOK := hid hok
 have CW := hid (hwrites_any _ h w hT hok hks hn hlen)
 clear hok hks
 go_enter Tryz.func85, Tryz.ntmps85
 go_wp2_with fail
 refine (CW.out).mono ?_
 rintro e w1 ⟨hb1, ⟨hno, rfl⟩ | ⟨hyes, B, n0, rfl, hB, hM0⟩⟩
 ·have H : Hid (false = valuesB h) := hid (by unfold valuesB; rw [hno]; rfl)
  clear hno
  go_wp2_with fail
  go_ret
  exact ⟨ret_b H.out, hb1⟩
 have HY := hid hyes
 clear hyes CW
 have HVN : Hid (∀ k, ∀ hk : k < h.length, rowOk (wrTo h h.length) h[k].l = false → valuesB h = false) := hid (fun k hk hh => valuesB_no hk hh)
 have HVY : Hid (h.all (fun t => rowOk (wrTo h h.length) t.l) = true → valuesB h = true) := hid (fun hh => by unfold valuesB; rw [HY.out, hh]; rfl)
 generalize wrTo h h.length = F at *
 generalize (wvH h).length = cnt at *
 go_wp2_with fail
 go_loopw [20] (fun i wr => ∃ k : Nat, k ≤ h.length ∧ i = .int .i64 k ∧ ((h.take k).all (fun t => rowOk F t.l) = true) ∧ MapI eW Tryz.prog 3 wr B n0 F cnt ∧ Below w.heap.size w wr) (fun i _ => h.length - (intOf i).toNat)
 case atStart => exact ⟨0, by omega, rfl, rfl, hM0, hb1⟩
 case round =>
  obtain ⟨k, hk, rfl, hP, hM, hb⟩ := hrel
  have HP := hid hP
  clear hP hM0 hb1
  by_cases hlt : k < h.length
  ·have hki : (k : Int) < (h.length : Int) := by omega
   obtain ⟨g, o, hao, c0, c1, c2, c3⟩ := (hT.below hb).at hlt
   cases hao
   have HS : Hid ((h.take (k + 1)).all (fun t => rowOk F t.l) = ((h.take k).all (fun t => rowOk F t.l) && rowOk F h[k].l)) := hid (by rw [List.take_succ_eq_append_getElem hlt, List.all_append]; simp)
   have HNO := hid (HVN.out k hlt)
   have hOps := fun wx (hx : Below w.heap.size w wx) => (hT.ops hlt).below hx
   have HTK := hid (HOK.out h[k] (List.getElem_mem hlt))
   generalize h[k] = t at *
   obtain ⟨s, b, c, v, l⟩ := t
   simp only at c0 c1 c2 c3 HS HNO hOps HTK
   obtain ⟨ai, capi, rfl, hli⟩ := (hOps w (Below.refl _ _)).form
   have HOP := hid hOps
   have hM1 := hM.alloc (.cells #[.int .i64 s, .int .i64 b, .int .i64 c, .slice ai l.length capi] 83)
   have hbb := hb.alloc hb.size (.cells #[.int .i64 s, .int .i64 b, .int .i64 c, .slice ai l.length capi] 83)
   clear hOps hM hb HVN HVY
   go_wp2_with fail
   generalize wr.alloc (.cells #[.int .i64 s, .int .i64 b, .int .i64 c, .slice ai l.length capi] 83) = w2 at *
   go_loopw [27] (fun i wx => ∃ j : Nat, j ≤ l.length ∧ i = .int .i64 j ∧ rowOk F (l.take j) = true ∧ MapI eW Tryz.prog 3 wx B n0 F cnt ∧ Below w.heap.size w wx) (fun i _ => l.length - (intOf i).toNat)
   case atStart => exact ⟨0, by omega, rfl, rfl, hM1, hbb⟩
   case round =>
    obtain ⟨j, hj, rfl, hR, hM2, hb2⟩ := hrel
    have HR := hid hR
    clear hR hM1 hbb
    by_cases hltj : j < l.length
    ·have hkj : (j : Int) < (l.length : Int) := by omega
     obtain ⟨g2, o2, hao2, e0, e1, e2⟩ := (HOP.out _ hb2).at hltj
     cases hao2
     have HRS := hid (rowOk_succ F l j hltj)
     have HRN := hid (fun hh => rowOk_no (F := F) hltj hh)
     have hox := HTK.out.2 l[j] (List.getElem_mem hltj)
     generalize l[j] = x at *
     obtain ⟨xw, xk, xv⟩ := x
     simp only at e0 e1 e2
     have hkv := inI_of hox.2
     have hM3 := hM2.alloc (.cells #[.bool xw, .int .i64 xk, .int .i64 xv] 79)
     have hb3 := hb2.alloc hb2.size (.cells #[.bool xw, .int .i64 xk, .int .i64 xv] 79)
     clear hox hM2 hb2
     cases xw with
     | true =>
      have H : Hid (rowOk F (l.take (j + 1)) = true) := hid (by rw [HRS.out, HR.out]; rfl)
      clear HRS HRN
      go_wp2_with fail
      go_roundw
      case rel => exact ⟨j + 1, by omega, by go_num, H.out, hM3, hb3⟩
      case measure => simp [intOf]; omega
     | false =>
      by_cases hx0 : xv = 0
      ·subst hx0
       have H : Hid (rowOk F (l.take (j + 1)) = true) := hid (by rw [HRS.out, HR.out]; rfl)
       clear HRS HRN
       go_wp2_with fail
       go_roundw
       case rel => exact ⟨j + 1, by omega, by go_num, H.out, hM3, hb3⟩
       case measure => simp [intOf]; omega
      ·have hx1 : (xv == 0) = false := by simpa using hx0
       have HD : Hid (rdOk F ⟨false, xk, xv⟩ = (match F xv with | none => false | some u => u.key == xk)) := hid (by unfold rdOk; simp only [hx1]; rfl)
       clear hx0
       cases hv : F xv with
       | none =>
        have H : Hid (false = valuesB h) := hid (HNO.out (HRN.out (by rw [HD.out, hv]))).symm
        have hb4 := hb3.alloc hb3.size (.cells #[.int .i64 0, .int .i64 0, .bool false] 165)
        clear HRS HRN HD
        go_wp2_with (first | (at_lookup; refine wpList_lookI_ok _ rfl _ _ 102 rfl 3 165 keyI mapIW wZ (zeroW _) _ _ _ _ rfl hM3 _ rfl hkv ?_; rw [hv]; simp only [Option.getD_none, Option.isSome_none, eW, wZ]) | go_in)
        go_ret
        exact ⟨ret_b H.out, hb4⟩
       | some u =>
        obtain ⟨ui, uk, ul⟩ := u
        have HD2 : Hid (rdOk F ⟨false, xk, xv⟩ = (uk == xk)) := hid (by rw [HD.out, hv])
        have hM4 := hM3.alloc (.cells #[.int .i64 ui, .int .i64 uk, .bool ul] 165)
        have hb4 := hb3.alloc hb3.size (.cells #[.int .i64 ui, .int .i64 uk, .bool ul] 165)
        clear HD
        by_cases huk : uk = xk
        ·subst huk
         have H : Hid (rowOk F (l.take (j + 1)) = true) := hid (by rw [HRS.out, HR.out, HD2.out]; simp)
         have hne : (uk != uk) = false := by simp
         clear HRS HRN HD2
         go_wp2_with (first | (at_lookup; refine wpList_lookI_ok _ rfl _ _ 102 rfl 3 165 keyI mapIW wZ (zeroW _) _ _ _ _ rfl hM3 _ rfl hkv ?_; rw [hv]; simp only [Option.getD_some, Option.isSome_some, eW]) | go_in)
         go_roundw
         case rel => exact ⟨j + 1, by omega, by go_num, H.out, hM4, hb4⟩
         case measure => simp [intOf]; omega
        ·have H : Hid (false = valuesB h) := hid (HNO.out (HRN.out (by rw [HD2.out]; simpa using huk))).symm
         have hne : (uk != xk) = true := by simpa using huk
         clear HRS HRN HD2 huk
         go_wp2_with (first | (at_lookup; refine wpList_lookI_ok _ rfl _ _ 102 rfl 3 165 keyI mapIW wZ (zeroW _) _ _ _ _ rfl hM3 _ rfl hkv ?_; rw [hv]; simp only [Option.getD_some, Option.isSome_some, eW]) | go_in)
         go_ret
         exact ⟨ret_b H.out, hb4⟩
    ·have hj2 : j = l.length := by omega
     subst hj2
     have H : Hid ((h.take (k + 1)).all (fun t => rowOk F t.l) = true) := hid (by have := HR.out; rw [List.take_length] at this; rw [HS.out, HP.out, this]; rfl)
     go_wp2_with fail
     go_roundw
     case rel => exact ⟨k + 1, by omega, by go_num, H.out, hM2, hb2⟩
     case measure => simp [intOf]; omega
  ·have hkl : k = h.length := by omega
   subst hkl
   have H : Hid (true = valuesB h) := hid (HVY.out (by have := HP.out; rw [List.take_length] at this; exact this)).symm
   go_wp2_with fail
   go_ret
   exact ⟨ret_b H.out, hb⟩
end

section
open Go.RowKit
def rightB (h : List TxnV) : Bool := partsB h && (valuesB h && (stampsB h && sesB h))
def checkI (h : List TxnV) : Int := if 64 < h.length ∨ 1024 < opsN h then 3 else if rightB h then 0 else 2
theorem opsN_short : ∀ (h : List TxnV), Short h → opsN h ≤ h.length * 6000000000000
 | [], _ => by simp [opsN]
 | t :: h, hs => by
  have h1 := opsN_short h (fun u hu => hs u (List.mem_cons_of_mem _ hu))
  have h2 := hs t List.mem_cons_self
  unfold opsN at *
  simp only [List.map_cons, List.sum_cons, List.length_cons]
  omega
theorem parts_keys {h : List TxnV} (hp : partsB h = true) : ∀ t ∈ h, keysIn t.l := by
 intro t ht
 have := List.all_eq_true.1 hp t ht
 unfold mayT at this
 simp only [Bool.and_eq_true] at this
 exact allM_keys this.2
theorem hcheck_any (va : Value) (h : List TxnV) (w : World) (hT : Txns w va h) (hok : ∀ t ∈ h, t.ok) (hsh : Short h) :
  Calls Tryz.prog 39 #[va] w fun e w' => e = .returned (.int .i64 (checkI h)) ∧ Below w.heap.size w w' := by
 obtain ⟨ao, cap, rfl, hal⟩ := hT.form
 by_cases hbig : 64 < h.length
 ·have hbig' : (64 : Int) < (h.length : Int) := by omega
  have H : Hid ((3 : Int) = checkI h) := hid (by unfold checkI; rw [if_pos (.inl hbig)])
  go_enter Tryz.func39, Tryz.ntmps39
  go_wp2_with fail
  go_ret
  exact ⟨ret_int H.out, Below.refl _ _⟩
 have hbf : decide ((64 : Int) < (h.length : Int)) = false := by simp; omega
 have hle := opsN_short h hsh
 have CO := hid (hops_any _ h w hT (by omega))
 have HT := hid (fun wx (hx : Below w.heap.size w wx) => hT.below hx)
 have HOK := hid hok
 clear hT hok hsh
 go_enter Tryz.func39, Tryz.ntmps39
 go_wp2_with fail
 refine (CO.out).mono ?_
 rintro e w1 ⟨rfl, hb1⟩
 clear CO
 by_cases hov : 1024 < opsN h
 ·have hov' : (1024 : Int) < (opsN h : Int) := by omega
  have H : Hid ((3 : Int) = checkI h) := hid (by unfold checkI; rw [if_pos (.inr hov)])
  go_wp2_with fail
  go_ret
  exact ⟨ret_int H.out, hb1⟩
 have hov' : decide ((1024 : Int) < (opsN h : Int)) = false := by simp; omega
 have HCK : Hid (checkI h = if rightB h then 0 else 2) := hid (by unfold checkI; rw [if_neg (by omega)])
 have CP := hid (parts_any _ h w1 (HT.out _ hb1))
 cases hp : partsB h
 ·have H : Hid ((2 : Int) = checkI h) := hid (by rw [HCK.out]; unfold rightB; rw [hp]; rfl)
  rw [hp] at CP
  clear hp
  go_wp2_with fail
  refine (CP.out).mono ?_
  rintro e w2 ⟨rfl, hb2⟩
  have hb3 := below_then hb1 hb2
  go_wp2_with fail
  go_ret
  exact ⟨ret_int H.out, hb3⟩
 rw [hp] at CP
 have HKS := hid (parts_keys hp)
 have HR1 : Hid (rightB h = (valuesB h && (stampsB h && sesB h))) := hid (by unfold rightB; rw [hp]; rfl)
 clear hp
 go_wp2_with fail
 refine (CP.out).mono ?_
 rintro e w2 ⟨rfl, hb2⟩
 have hb3 := below_then hb1 hb2
 have CV := hid (values_any _ h w2 (HT.out _ hb3) HOK.out HKS.out (by omega) (by omega))
 clear CP hb1 hb2
 cases hv : valuesB h
 ·have H : Hid ((2 : Int) = checkI h) := hid (by rw [HCK.out, HR1.out, hv]; rfl)
  rw [hv] at CV
  clear hv
  go_wp2_with fail
  refine (CV.out).mono ?_
  rintro e w4 ⟨rfl, hb4⟩
  have hb5 := below_then hb3 hb4
  go_wp2_with fail
  go_ret
  exact ⟨ret_int H.out, hb5⟩
 rw [hv] at CV
 have HR2 : Hid (rightB h = (stampsB h && sesB h)) := hid (by rw [HR1.out, hv]; rfl)
 clear hv HR1
 go_wp2_with fail
 refine (CV.out).mono ?_
 rintro e w4 ⟨rfl, hb4⟩
 have hb5 := below_then hb3 hb4
 have CS := hid (stamps_any _ h w4 (HT.out _ hb5) HOK.out (by omega))
 clear CV hb3 hb4
 cases hs : stampsB h
 ·have H : Hid ((2 : Int) = checkI h) := hid (by rw [HCK.out, HR2.out, hs]; rfl)
  rw [hs] at CS
  clear hs
  go_wp2_with fail
  refine (CS.out).mono ?_
  rintro e w6 ⟨rfl, hb6⟩
  have hb7 := below_then hb5 hb6
  go_wp2_with fail
  go_ret
  exact ⟨ret_int H.out, hb7⟩
 rw [hs] at CS
 have HR3 : Hid (rightB h = sesB h) := hid (by rw [HR2.out, hs]; rfl)
 clear hs HR2
 go_wp2_with fail
 refine (CS.out).mono ?_
 rintro e w6 ⟨rfl, hb6⟩
 have hb7 := below_then hb5 hb6
 have CE := hid (sessions_any _ h w6 (HT.out _ hb7) HOK.out (by omega))
 clear CS hb5 hb6
 cases hse : sesB h
 ·have H : Hid ((2 : Int) = checkI h) := hid (by rw [HCK.out, HR3.out, hse]; rfl)
  rw [hse] at CE
  clear hse
  go_wp2_with fail
  refine (CE.out).mono ?_
  rintro e w8 ⟨rfl, hb8⟩
  have hb9 := below_then hb7 hb8
  go_wp2_with fail
  go_ret
  exact ⟨ret_int H.out, hb9⟩
 ·have H : Hid ((0 : Int) = checkI h) := hid (by rw [HCK.out, HR3.out, hse]; rfl)
  rw [hse] at CE
  clear hse
  go_wp2_with fail
  refine (CE.out).mono ?_
  rintro e w8 ⟨rfl, hb8⟩
  have hb9 := below_then hb7 hb8
  go_wp2_with fail
  go_ret
  exact ⟨ret_int H.out, hb9⟩
end

section
open Go.RowKit
theorem owns_apart {w : World} {b1 b2 : Nat} {e1 e2 : TypeId} {s1 s2 : Nat} {v1 v2 : Value} {n1 n2 : Nat} {x1 x2 : List Value} (h1 : w.ownsRow b1 e1 s1 v1 n1 x1) (h2 : w.ownsRow b2 e2 s2 v2 n2 x2) (he : e1 ≠ e2) : v1.ownBlock = none ∨ v1.ownBlock ≠ v2.ownBlock := by
 obtain ⟨_, h1⟩ := h1
 obtain ⟨_, h2⟩ := h2
 rcases h1 with ⟨rfl, _⟩ | ⟨g1, c1, cur1, rfl, _, hh1, _⟩
 ·exact .inl rfl
 ·right
  rcases h2 with ⟨rfl, _⟩ | ⟨g2, c2, cur2, rfl, _, hh2, _⟩
  ·simp [Value.ownBlock]
  ·intro e
   simp [Value.ownBlock] at e
   subst e
   rw [hh1] at hh2
   injection hh2 with hh2
   injection hh2 with _ hh2
   exact he hh2
theorem owns_cell_any {w : World} {base : Nat} {e : TypeId} {size : Nat} {v : Value} {n : Nat} {xs : List Value} (h : w.ownsRow base e size v n xs) {a : Addr} (hg : a.block < base) (x : Value) : (w.setCell a x).ownsRow base e size v n xs := by
 refine h.kept (row := some a.block) ⟨rfl, rfl, rfl, by simp, fun k hk hne => ?_⟩ ?_
 ·exact heap_setCell_other w a k x (fun e3 => hne (by rw [e3]))
 ·rcases h.2 with ⟨rfl, _⟩ | ⟨g, cap, cur, rfl, hb, _⟩
  ·exact .inl rfl
  ·right
   simp [Value.ownBlock]; omega
theorem owns_cells {base : Nat} {e : TypeId} {size : Nat} {v : Value} {n : Nat} {xs : List Value} {g : Nat} (hg : g < base) : ∀ (vs : List Value) (o : Nat) (w : World), w.ownsRow base e size v n xs → (w.setCells g o vs).ownsRow base e size v n xs
 | [], _, _, h => h
 | x :: r, o, w, h => by rw [World.setCells]; exact owns_cells hg r (o + 1) _ (owns_cell_any h hg x)
abbrev KRow := Value × List Int
abbrev RRow := Value × List (Int × Int)
structure OfR (b : Nat) (w : World) (vk vr : Value) (K : List KRow) (R : List RRow) : Prop where
 kr : w.ownsRow b 24 1 vk K.length (K.map (·.1))
 ke : ∀ p ∈ K, w.ownsRow b 3 1 p.1 p.2.length (p.2.map (Value.int .i64))
 rr : w.ownsRow b 114 1 vr R.length (R.map (·.1))
 re : ∀ p ∈ R, w.ownsRow b 121 2 p.1 p.2.length (frV p.2)
section
variable {b : Nat} {w : World} {vk vr : Value} {K : List KRow} {R : List RRow}
theorem OfR.nil (b : Nat) (w : World) : OfR b w (.slice none 0 0) (.slice none 0 0) [] [] := ⟨World.ownsRow_nil _ _ _ _, fun p hp => (by cases hp), World.ownsRow_nil _ _ _ _, fun p hp => (by cases hp)⟩
theorem OfR.below {w' : World} (h : OfR b w vk vr K R) (hb : Below w.heap.size w w') : OfR b w' vk vr K R := ⟨owns_below h.kr hb, fun p hp => owns_below (h.ke p hp) hb, owns_below h.rr hb, fun p hp => owns_below (h.re p hp) hb⟩
theorem OfR.cell (h : OfR b w vk vr K R) {a : Addr} (ha : a.block < b) (x : Value) : OfR b (w.setCell a x) vk vr K R := ⟨owns_cell_any h.kr ha x, fun p hp => owns_cell_any (h.ke p hp) ha x, owns_cell_any h.rr ha x, fun p hp => owns_cell_any (h.re p hp) ha x⟩
theorem OfR.cells (h : OfR b w vk vr K R) {g : Nat} (hg : g < b) (o : Nat) (vs : List Value) : OfR b (w.setCells g o vs) vk vr K R := ⟨owns_cells hg vs o w h.kr, fun p hp => owns_cells hg vs o w (h.ke p hp), owns_cells hg vs o w h.rr, fun p hp => owns_cells hg vs o w (h.re p hp)⟩
theorem OfR.addK {w2 : World} {o : Obj} {v v' : Value} {l : List Int} (h : OfR b w vk vr K R) (hv : w.ownsRow b 3 1 v l.length (l.map (Value.int .i64))) (hown : w2.ownsRow b 24 1 v' (K.length + 1) (K.map (·.1) ++ [v]))
  (hg : (w.alloc o).grownBy w2 vk.ownBlock) : OfR b w2 v' vr (K ++ [(v, l)]) R := by
 refine ⟨by simpa using hown, fun p hp => ?_, (h.rr.alloc o).kept hg (owns_apart h.rr h.kr (by decide)), fun p hp => ((h.re p hp).alloc o).kept hg (owns_apart (h.re p hp) h.kr (by decide))⟩
 rcases List.mem_append.1 hp with hp | hp
 ·exact ((h.ke p hp).alloc o).kept hg (owns_apart (h.ke p hp) h.kr (by decide))
 ·obtain rfl := List.mem_singleton.1 hp
  exact (hv.alloc o).kept hg (owns_apart hv h.kr (by decide))
theorem OfR.addR {w2 : World} {o : Obj} {v v' : Value} {l : List (Int × Int)} (h : OfR b w vk vr K R) (hv : w.ownsRow b 121 2 v l.length (frV l)) (hown : w2.ownsRow b 114 1 v' (R.length + 1) (R.map (·.1) ++ [v]))
  (hg : (w.alloc o).grownBy w2 vr.ownBlock) : OfR b w2 vk v' K (R ++ [(v, l)]) := by
 refine ⟨(h.kr.alloc o).kept hg (owns_apart h.kr h.rr (by decide)), fun p hp => ((h.ke p hp).alloc o).kept hg (owns_apart (h.ke p hp) h.rr (by decide)), by simpa using hown, fun p hp => ?_⟩
 rcases List.mem_append.1 hp with hp | hp
 ·exact ((h.re p hp).alloc o).kept hg (owns_apart (h.re p hp) h.rr (by decide))
 ·obtain rfl := List.mem_singleton.1 hp
  exact (hv.alloc o).kept hg (owns_apart hv h.rr (by decide))
theorem OfR.rws (h : OfR b w vk vr K R) : Rws w vk K := ⟨Row.of_owns h.kr, fun p hp => Ints.of_owns (h.ke p hp)⟩
theorem OfR.frws (h : OfR b w vk vr K R) : FRws w vr R := ⟨Row.of_owns h.rr, fun p hp => Row.of_owns (h.re p hp)⟩
end
def keysOf (l : List OpV) : List Int := (refWrites l).map OpV.key
def readsOf (h : List TxnV) (i : Nat) : List (Int × Int) := rdFr (wrTo h h.length) (i : Int) (refReads (opsAt h i))
def soundOf (h : List TxnV) (i : Nat) : Bool := !(refReads (opsAt h i)).any (badFr (wrTo h h.length) (i : Int)) && steadyL (opsAt h i)
def keysTo (h : List TxnV) (k : Nat) : List (List Int) := (List.range k).map fun i => keysOf (opsAt h i)
def readsTo (h : List TxnV) (k : Nat) : List (List (Int × Int)) := (List.range k).map (readsOf h)
def soundTo (h : List TxnV) (k : Nat) : Bool := (List.range k).all (soundOf h)
theorem keysTo_succ (h : List TxnV) (k : Nat) : keysTo h (k + 1) = keysTo h k ++ [keysOf (opsAt h k)] := by simp [keysTo, List.range_succ]
theorem readsTo_succ (h : List TxnV) (k : Nat) : readsTo h (k + 1) = readsTo h k ++ [readsOf h k] := by simp [readsTo, List.range_succ]
theorem soundTo_succ (h : List TxnV) (k : Nat) : soundTo h (k + 1) = (soundTo h k && soundOf h k) := by simp [soundTo, List.range_succ]
theorem check_zero {h : List TxnV} (hc : checkI h = 0) : h.length ≤ 64 ∧ opsN h ≤ 1024 ∧ okW h = true ∧ ∀ t ∈ h, keysIn t.l := by
 unfold checkI at hc
 by_cases hb : 64 < h.length ∨ 1024 < opsN h
 ·rw [if_pos hb] at hc; omega
 ·rw [if_neg hb] at hc
  cases hr : rightB h
  ·rw [hr] at hc; simp at hc
  ·unfold rightB valuesB at hr
   simp only [Bool.and_eq_true] at hr
   exact ⟨by omega, by omega, hr.2.1.1, parts_keys hr.1⟩
end

section
open Go.RowKit
theorem oftime_any (va : Value) (h : List TxnV) (p a b : Nat) (w : World) (hp : w.cell? ⟨p, 0, none⟩ = some va) (hT : Txns w va h) (ha : a < h.length) (hb : b < h.length) :
  Calls Tryz.prog 59 #[.int .i64 a, .int .i64 b, .pointer (some ⟨p, 0, none⟩)] w fun e w' => e = .returned (.bool (decide (h[a].c < h[b].b))) ∧ Below w.heap.size w w' := by
 obtain ⟨ao, cap, rfl, hal⟩ := hT.form
 obtain ⟨g, o, hao, c0, c1, c2, c3⟩ := hT.at ha
 cases hao
 obtain ⟨g', o', hao, d0, d1, d2, d3⟩ := hT.at hb
 cases hao
 have hai : (a : Int) < (h.length : Int) := by omega
 have hbi : (b : Int) < (h.length : Int) := by omega
 generalize h[a].c = x at *
 generalize h[b].b = y at *
 clear c0 c1 c3 d0 d2 d3 hT
 go_enter Tryz.func59, Tryz.ntmps59
 go_wp2_with fail
 go_quiet (fail)
 go_wp2_with fail
 go_ret
 exact ⟨rfl, below_drewN (Below.refl _ _) _⟩
theorem ofsession_any (va : Value) (h : List TxnV) (p a b : Nat) (w : World) (hp : w.cell? ⟨p, 0, none⟩ = some va) (hT : Txns w va h) (ha : a < h.length) (hb : b < h.length) :
  Calls Tryz.prog 58 #[.int .i64 a, .int .i64 b, .pointer (some ⟨p, 0, none⟩)] w fun e w' => e = .returned (.bool (decide (a < b) && decide (h[a].s = h[b].s))) ∧ Below w.heap.size w w' := by
 obtain ⟨ao, cap, rfl, hal⟩ := hT.form
 obtain ⟨g, o, hao, c0, c1, c2, c3⟩ := hT.at ha
 cases hao
 obtain ⟨g', o', hao, d0, d1, d2, d3⟩ := hT.at hb
 cases hao
 have hai : (a : Int) < (h.length : Int) := by omega
 have hbi : (b : Int) < (h.length : Int) := by omega
 generalize h[a].s = x at *
 generalize h[b].s = y at *
 clear c1 c2 c3 d1 d2 d3 hT
 by_cases hab : a < b
 ·have H : Hid ((decide (a < b) && decide (x = y)) = decide (x = y)) := hid (by rw [decide_eq_true hab]; rfl)
  have habi : (a : Int) < (b : Int) := by omega
  rw [H.out]
  clear hab H
  go_enter Tryz.func58, Tryz.ntmps58
  go_wp2_with fail
  go_quiet (fail)
  go_wp2_with fail
  go_ret
  exact ⟨rfl, below_drewN (Below.refl _ _) _⟩
 ·have H : Hid ((decide (a < b) && decide (x = y)) = false) := hid (by rw [decide_eq_false hab]; rfl)
  have habi : ¬ (a : Int) < (b : Int) := by omega
  have hd : decide ((a : Int) < (b : Int)) = false := decide_eq_false habi
  have hle : (b : Int) ≤ (a : Int) := by omega
  have hdn : decide (a < b) = false := decide_eq_false hab
  rw [H.out]
  clear H
  go_enter Tryz.func58, Tryz.ntmps58
  go_wp2_with fail
  go_quiet (fail)
  go_wp2_with fail
  go_ret
  exact ⟨rfl, below_drewN (Below.refl _ _) _⟩
end

section
open Go.RowKit
theorem infoLI : (Tryz.prog.info? 24).map (fun i => (i.zero, i.size, i.bytes)) = some (some (.slice none 0 0), 1, 24) := by kernel_rfl
theorem infoLR : (Tryz.prog.info? 114).map (fun i => (i.zero, i.size, i.bytes)) = some (some (.slice none 0 0), 1, 24) := by kernel_rfl
theorem owns_form {w : World} {b : Nat} {e : TypeId} {s : Nat} {v : Value} {n : Nat} {xs : List Value} (h : w.ownsRow b e s v n xs) : ∃ ao cap, v = .slice ao n cap := by
 rcases h.2 with ⟨rfl, rfl⟩ | ⟨g, cap, cur, rfl, _⟩
 ·exact ⟨_, _, rfl⟩
 ·exact ⟨_, _, rfl⟩
theorem row_ne {w : World} {b : Nat} {e : TypeId} {s : Nat} {v : Value} {n : Nat} {xs : List Value} (h : w.ownsRow b e s v n xs) {g : Nat} (hg : g < b) : some g ≠ v.ownBlock := fun e2 => by have := (h.lt g e2.symm).1; omega
theorem row_ne_box {w : World} {b : Nat} {e : TypeId} {s : Nat} {v : Value} {n : Nat} {xs : List Value} (h : w.ownsRow b e s v n xs) {g : Nat} {cs : Array Value} {t : TypeId} (hg : w.heap[g]? = some (.cells cs t (0, 0))) (he : e ≠ t) : some g ≠ v.ownBlock := by
 rcases h.2 with ⟨rfl, _⟩ | ⟨g1, c1, cur1, rfl, _, hh1, _⟩
 ·simp [Value.ownBlock]
 ·intro q
  simp [Value.ownBlock] at q
  subst q
  rw [hg] at hh1
  injection hh1 with hh1
  injection hh1 with _ hh1
  exact he hh1.symm
def SB (C B gx : Nat) (ts tb tc : Int) (tv : Value) (w : World) : Prop := w.cell? ⟨C, 0, none⟩ = some (.pointer (some ⟨B, 0, none⟩)) ∧ w.cell? ⟨gx, 0, none⟩ = some (.int .i64 ts) ∧ w.cell? ⟨gx, 1, none⟩ = some (.int .i64 tb) ∧ w.cell? ⟨gx, 2, none⟩ = some (.int .i64 tc) ∧ w.cell? ⟨gx, 3, none⟩ = some tv
section
variable {C B gx : Nat} {ts tb tc : Int} {tv : Value} {w w' : World}
theorem SB.below (h : SB C B gx ts tb tc tv w) (hb : Below w.heap.size w w') : SB C B gx ts tb tc tv w' := by
 obtain ⟨h0, h1, h2, h3, h4⟩ := h
 exact ⟨(hb.cell (p := ⟨C, 0, none⟩) (block_lt h0)).trans h0, (hb.cell (p := ⟨gx, 0, none⟩) (block_lt h1)).trans h1, (hb.cell (p := ⟨gx, 1, none⟩) (block_lt h2)).trans h2, (hb.cell (p := ⟨gx, 2, none⟩) (block_lt h3)).trans h3, (hb.cell (p := ⟨gx, 3, none⟩) (block_lt h4)).trans h4⟩
theorem SB.drew (h : SB C B gx ts tb tc tv w) : SB C B gx ts tb tc tv w.drew := h.below (Below.refl _ _).drew
theorem SB.alloc (h : SB C B gx ts tb tc tv w) (o : Obj) : SB C B gx ts tb tc tv (w.alloc o) := h.below (box_below w o)
theorem SB.grown {row : Option Nat} (h : SB C B gx ts tb tc tv w) (hg : w.grownBy w' row) (hC : some C ≠ row) (hX : some gx ≠ row) : SB C B gx ts tb tc tv w' := by
 obtain ⟨h0, h1, h2, h3, h4⟩ := h
 exact ⟨hg.cell h0 hC, hg.cell h1 hX, hg.cell h2 hX, hg.cell h3 hX, hg.cell h4 hX⟩
theorem SB.cell (h : SB C B gx ts tb tc tv w) {a : Addr} (hC : C ≠ a.block) (hX : gx ≠ a.block) (v : Value) : SB C B gx ts tb tc tv (w.setCell a v) := by
 obtain ⟨h0, h1, h2, h3, h4⟩ := h
 refine ⟨?_, ?_, ?_, ?_, ?_⟩
 ·rw [World.cell?_setCell_other _ _ _ _ (fun e => hC (by rw [e]))]; exact h0
 ·rw [World.cell?_setCell_other _ _ _ _ (fun e => hX (by rw [e]))]; exact h1
 ·rw [World.cell?_setCell_other _ _ _ _ (fun e => hX (by rw [e]))]; exact h2
 ·rw [World.cell?_setCell_other _ _ _ _ (fun e => hX (by rw [e]))]; exact h3
 ·rw [World.cell?_setCell_other _ _ _ _ (fun e => hX (by rw [e]))]; exact h4
end
structure OfS (W : World) (gx : Nat) (ts tb tc : Int) (tv : Value) (n : Int) (vk vr : Value) (sd : Bool) (K : List KRow) (R : List RRow) (w : World) : Prop where
 o : OrdAt w W.heap.size n noR noR noR (.map none) vk vr sd
 s : SB (W.heap.size + 1) W.heap.size gx ts tb tc tv w
 r : OfR (W.heap.size + 2) w vk vr K R
 b : Below W.heap.size W w
 z : W.heap.size + 2 ≤ w.heap.size
 x : ∃ cs, w.heap[gx]? = some (.cells cs 83 (0, 0))
 g : W.heap.size + 2 ≤ gx
section
variable {W w w' : World} {gx : Nat} {ts tb tc : Int} {tv : Value} {n : Int} {vk vr : Value} {sd : Bool} {K : List KRow} {R : List RRow}
theorem OfS.below (h : OfS W gx ts tb tc tv n vk vr sd K R w) (hb : Below w.heap.size w w') : OfS W gx ts tb tc tv n vk vr sd K R w' := by
 obtain ⟨cs, hx⟩ := h.x
 have hl : gx < w.heap.size := by
  by_cases h0 : gx < w.heap.size
  ·exact h0
  ·rw [Array.getElem?_eq_none (Nat.le_of_not_lt h0)] at hx; cases hx
 exact ⟨h.o.below hb h.o.lt, h.s.below hb, h.r.below hb, h.b.trans (hb.mono h.b.size), Nat.le_trans h.z hb.size, ⟨cs, (hb.block gx hl).trans hx⟩, h.g⟩
theorem OfS.addK {wx w5 : World} {v v5 : Value} {t : TypeId} {l : List Int} (h : OfS W gx ts tb tc tv n vk vr sd K R w) (hb : Below w.heap.size w wx) (hv : wx.ownsRow (W.heap.size + 2) 3 1 v l.length (l.map (Value.int .i64)))
  (hown : w5.ownsRow (W.heap.size + 2) 24 1 v5 (K.length + 1) (K.map (·.1) ++ [v])) (hg : (wx.alloc (.cells #[v] t)).grownBy w5 vk.ownBlock) :
  OfS W gx ts tb tc tv n v5 vr sd (K ++ [(v, l)]) R (w5.setCell ⟨W.heap.size, 194, none⟩ v5) ∧ SB (W.heap.size + 1) W.heap.size gx ts tb tc tv w5 ∧ w5.frozen? ⟨W.heap.size, 194, none⟩ = false ∧ w5.cell? ⟨W.heap.size, 194, none⟩ = some vk := by
 have hx := h.below hb
 have hsx := hx.b.size
 obtain ⟨cs, hgx⟩ := hx.x
 have hlx : gx < wx.heap.size := by
  by_cases h0 : gx < wx.heap.size
  ·exact h0
  ·rw [Array.getElem?_eq_none (Nat.le_of_not_lt h0)] at hgx; cases hgx
 have nC := row_ne hx.r.kr (g := W.heap.size + 1) (by omega)
 have nB := row_ne hx.r.kr (g := W.heap.size) (by omega)
 have nX := row_ne_box hx.r.kr hgx (by decide)
 have hz := hx.z
 have hgg := hx.g
 have s5 := (hx.s.alloc (.cells #[v] t)).grown hg nC nX
 have o5 := (hx.o.alloc (.cells #[v] t)).grown hg nB
 have r5 := hx.r.addK hv hown hg
 have b5 : Below W.heap.size W w5 := (hx.b.alloc hsx (.cells #[v] t)).grown hg (by simp; omega) (fun k hk => by have := (hx.r.kr.lt k hk).1; omega)
 refine ⟨⟨o5.setK v5, s5.cell (by simp) (by simp; omega) v5, r5.cell (by simp) v5, b5.setCell (Nat.le_refl _) v5, ?_, ⟨cs, ?_⟩, hgg⟩, s5, o5.free (by omega), o5.cK⟩
 ·have := hg.size; simp at this ⊢; omega
 ·rw [heap_setCell_other w5 ⟨W.heap.size, 194, none⟩ gx v5 (by simp; omega), hg.block gx (by simp; omega) nX, Below.heap_alloc wx _ gx hlx]
  exact hgx
theorem OfS.addR {wx w5 : World} {v v5 : Value} {t : TypeId} {l : List (Int × Int)} (h : OfS W gx ts tb tc tv n vk vr sd K R w) (hb : Below w.heap.size w wx) (hv : wx.ownsRow (W.heap.size + 2) 121 2 v l.length (frV l))
  (hown : w5.ownsRow (W.heap.size + 2) 114 1 v5 (R.length + 1) (R.map (·.1) ++ [v])) (hg : (wx.alloc (.cells #[v] t)).grownBy w5 vr.ownBlock) :
  OfS W gx ts tb tc tv n vk v5 sd K (R ++ [(v, l)]) (w5.setCell ⟨W.heap.size, 195, none⟩ v5) ∧ SB (W.heap.size + 1) W.heap.size gx ts tb tc tv w5 ∧ w5.frozen? ⟨W.heap.size, 195, none⟩ = false ∧ w5.cell? ⟨W.heap.size, 195, none⟩ = some vr := by
 have hx := h.below hb
 have hsx := hx.b.size
 obtain ⟨cs, hgx⟩ := hx.x
 have hlx : gx < wx.heap.size := by
  by_cases h0 : gx < wx.heap.size
  ·exact h0
  ·rw [Array.getElem?_eq_none (Nat.le_of_not_lt h0)] at hgx; cases hgx
 have nC := row_ne hx.r.rr (g := W.heap.size + 1) (by omega)
 have nB := row_ne hx.r.rr (g := W.heap.size) (by omega)
 have nX := row_ne_box hx.r.rr hgx (by decide)
 have hz := hx.z
 have hgg := hx.g
 have s5 := (hx.s.alloc (.cells #[v] t)).grown hg nC nX
 have o5 := (hx.o.alloc (.cells #[v] t)).grown hg nB
 have r5 := hx.r.addR hv hown hg
 have b5 : Below W.heap.size W w5 := (hx.b.alloc hsx (.cells #[v] t)).grown hg (by simp; omega) (fun k hk => by have := (hx.r.rr.lt k hk).1; omega)
 refine ⟨⟨o5.setR v5, s5.cell (by simp) (by simp; omega) v5, r5.cell (by simp) v5, b5.setCell (Nat.le_refl _) v5, ?_, ⟨cs, ?_⟩, hgg⟩, s5, o5.free (by omega), o5.cR⟩
 ·have := hg.size; simp at this ⊢; omega
 ·rw [heap_setCell_other w5 ⟨W.heap.size, 195, none⟩ gx v5 (by simp; omega), hg.block gx (by simp; omega) nX, Below.heap_alloc wx _ gx hlx]
  exact hgx
theorem OfS.setS (h : OfS W gx ts tb tc tv n vk vr sd K R w) (v : Bool) : OfS W gx ts tb tc tv n vk vr v K R (w.setCell ⟨W.heap.size, 196, none⟩ (.bool v)) := by
 obtain ⟨cs, hgx⟩ := h.x
 have hgg := h.g
 exact ⟨h.o.setS v, h.s.cell (by simp) (by simp; omega) _, h.r.cell (by simp) _, h.b.setCell (Nat.le_refl _) _, by have := h.z; simpa using this, ⟨cs, by rw [heap_setCell_other w ⟨W.heap.size, 196, none⟩ gx _ (by simp; omega)]; exact hgx⟩, hgg⟩
end
end

section
open Go.RowKit
theorem run_enters {f : FuncId} {fn : Func} {c : Code} (hf : Tryz.prog.funcs[f]? = some fn) (hname : (fn.name == "runtime.NumGoroutine") = false) (hb : fn.body = some c) (args : Array Value) (w : World) : Sem.run Tryz.prog (callFunc f args) w = .ok (.enter f args) w := by
 have h1 : fn.name ≠ "runtime.NumGoroutine" := by simpa using hname
 simp [callFunc, hf, h1, hb]
theorem enters_ses (args : Array Value) (w : World) : Sem.run Tryz.prog (callFunc 58 args) w = .ok (.enter 58 args) w := run_enters Tryz.func58 (by kernel_rfl) rfl args w
theorem enters_tim (args : Array Value) (w : World) : Sem.run Tryz.prog (callFunc 59 args) w = .ok (.enter 59 args) w := run_enters Tryz.func59 (by kernel_rfl) rfl args w
theorem enters_fro (args : Array Value) (w : World) : Sem.run Tryz.prog (callFunc 60 args) w = .ok (.enter 60 args) w := run_enters Tryz.func60 (by kernel_rfl) rfl args w
theorem MapI.cell {α : Type} {e : α → Value} {P : Program} {k : TypeId} {w : World} {b n : Nat} {f : Int → Option α} {c : Nat} (h : MapI e P k w b n f c) {a : Addr} (hb : b ≠ a.block) (v : Value) : MapI e P k (w.setCell a v) b n f c :=
 h.kept (row := some a.block) ⟨rfl, rfl, rfl, by simp, fun j hj hne => heap_setCell_other w a j v (fun e => hne (by rw [e]))⟩ (fun e => hb (by injection e))
theorem MapI.cells {α : Type} {e : α → Value} {P : Program} {k : TypeId} {b n : Nat} {f : Int → Option α} {c : Nat} {g : Nat} (hb : b ≠ g) : ∀ (vs : List Value) (o : Nat) (w : World), MapI e P k w b n f c → MapI e P k (w.setCells g o vs) b n f c
 | [], _, _, h => h
 | v :: r, o, w, h => by rw [World.setCells]; exact MapI.cells hb r (o + 1) _ (h.cell hb v)
def SA (C B A : Nat) (va : Value) (w : World) : Prop := w.cell? ⟨C, 0, none⟩ = some (.pointer (some ⟨B, 0, none⟩)) ∧ w.cell? ⟨A, 0, none⟩ = some va
theorem below_putC {B g : Nat} {W : World} (hg : B ≤ g) : ∀ (vs : List Value) (o : Nat) (w : World), Below B W w → Below B W (w.setCells g o vs)
 | [], _, _, h => h
 | v :: r, o, w, h => by rw [World.setCells]; exact below_putC hg r (o + 1) _ (h.setCell hg v)
theorem cell_put {g : Nat} {p : Addr} (hp : p.block ≠ g) (vs : List Value) (o : Nat) (w : World) : (w.setCells g o vs).cell? p = w.cell? p := World.cell?_setCells_out g vs o w p (fun e _ => absurd e hp)
structure OfT (W : World) (A : Nat) (va : Value) (n : Int) (S T F : Mat) (vm vk vr : Value) (sd : Bool) (K : List KRow) (R : List RRow) (w : World) : Prop where
 o : OrdAt w W.heap.size n S T F vm vk vr sd
 s : SA (W.heap.size + 1) W.heap.size A va w
 r : OfR (W.heap.size + 2) w vk vr K R
 b : Below W.heap.size W w
 a : A < W.heap.size
section
variable {W w w' : World} {A : Nat} {va : Value} {n : Int} {S T F : Mat} {vm vk vr : Value} {sd : Bool} {K : List KRow} {R : List RRow}
theorem OfT.below (h : OfT W A va n S T F vm vk vr sd K R w) (hb : Below w.heap.size w w') : OfT W A va n S T F vm vk vr sd K R w' := by
 obtain ⟨h0, h1⟩ := h.s
 exact ⟨h.o.below hb h.o.lt, ⟨(hb.cell (p := ⟨W.heap.size + 1, 0, none⟩) (block_lt h0)).trans h0, (hb.cell (p := ⟨A, 0, none⟩) (block_lt h1)).trans h1⟩, h.r.below hb, h.b.trans (hb.mono h.b.size), h.a⟩
theorem OfT.drew (h : OfT W A va n S T F vm vk vr sd K R w) : OfT W A va n S T F vm vk vr sd K R w.drew := h.below (Below.refl _ _).drew
theorem OfT.setM (h : OfT W A va n S T F vm vk vr sd K R w) (v : Value) : OfT W A va n S T F v vk vr sd K R (w.setCell ⟨W.heap.size, 193, none⟩ v) := by
 obtain ⟨h0, h1⟩ := h.s
 have ha := h.a
 refine ⟨h.o.setM v, ⟨?_, ?_⟩, h.r.cell (by simp) v, h.b.setCell (Nat.le_refl _) v, ha⟩
 ·rw [World.cell?_setCell_other _ _ _ _ (fun e => by injection e with e; omega)]; exact h0
 ·rw [World.cell?_setCell_other _ _ _ _ (fun e => by injection e with e; omega)]; exact h1
theorem OfT.sput (h : OfT W A va n S T F vm vk vr sd K R w) (o : Nat) (vs : List Value) : SA (W.heap.size + 1) W.heap.size A va (w.setCells W.heap.size o vs) := by
 have ha := h.a
 exact ⟨by rw [cell_put (by simp)]; exact h.s.1, by rw [cell_put (by simp; omega)]; exact h.s.2⟩
theorem OfT.setS (h : OfT W A va n S T F vm vk vr sd K R w) (M : Mat) : OfT W A va n M T F vm vk vr sd K R (w.setCells W.heap.size 1 (rowsA M).toList) := ⟨h.o.setS1 M, h.sput _ _, h.r.cells (by simp) _ _, below_putC (Nat.le_refl _) _ _ _ h.b, h.a⟩
theorem OfT.setT (h : OfT W A va n S T F vm vk vr sd K R w) (M : Mat) : OfT W A va n S M F vm vk vr sd K R (w.setCells W.heap.size 65 (rowsA M).toList) := ⟨h.o.setT1 M, h.sput _ _, h.r.cells (by simp) _ _, below_putC (Nat.le_refl _) _ _ _ h.b, h.a⟩
theorem OfT.setF (h : OfT W A va n S T F vm vk vr sd K R w) (M : Mat) : OfT W A va n S T M vm vk vr sd K R (w.setCells W.heap.size 129 (rowsA M).toList) := ⟨h.o.setF1 M, h.sput _ _, h.r.cells (by simp) _ _, below_putC (Nat.le_refl _) _ _ _ h.b, h.a⟩
end
def sAt (h : List TxnV) (k : Nat) : Int := ((h[k]?).map (·.s)).getD 0
def bAt (h : List TxnV) (k : Nat) : Int := ((h[k]?).map (·.b)).getD 0
def cAt (h : List TxnV) (k : Nat) : Int := ((h[k]?).map (·.c)).getD 0
theorem sAt_eq {h : List TxnV} {k : Nat} (hk : k < h.length) : sAt h k = h[k].s := by unfold sAt; rw [List.getElem?_eq_getElem hk]; rfl
theorem bAt_eq {h : List TxnV} {k : Nat} (hk : k < h.length) : bAt h k = h[k].b := by unfold bAt; rw [List.getElem?_eq_getElem hk]; rfl
theorem cAt_eq {h : List TxnV} {k : Nat} (hk : k < h.length) : cAt h k = h[k].c := by unfold cAt; rw [List.getElem?_eq_getElem hk]; rfl
def sesP (h : List TxnV) (a b : Nat) : Bool := decide (a < b) && decide (sAt h a = sAt h b)
def timP (h : List TxnV) (a b : Nat) : Bool := decide (cAt h a < bAt h b)
def froP (h : List TxnV) (a b : Nat) : Bool := (readsOf h b).any fun r => decide (r.2 = (a : Int))
def sesM (h : List TxnV) : Mat := prsTo (sesP h) h.length h.length
def timM (h : List TxnV) : Mat := prsTo (timP h) h.length h.length
def froM (h : List TxnV) : Mat := prsTo (froP h) h.length h.length
theorem ses_calls (va : Value) (h : List TxnV) (p a b : Nat) (w : World) (hp : w.cell? ⟨p, 0, none⟩ = some va) (hT : Txns w va h) (ha : a < h.length) (hb : b < h.length) :
  Calls Tryz.prog 58 (#[.int .i64 a, .int .i64 b] ++ #[.pointer (some ⟨p, 0, none⟩)]) w fun e w' => e = .returned (.bool (sesP h a b)) ∧ Below w.heap.size w w' := by
 have hh := ofsession_any va h p a b w hp hT ha hb
 unfold sesP
 rw [sAt_eq ha, sAt_eq hb]
 exact hh
theorem tim_calls (va : Value) (h : List TxnV) (p a b : Nat) (w : World) (hp : w.cell? ⟨p, 0, none⟩ = some va) (hT : Txns w va h) (ha : a < h.length) (hb : b < h.length) :
  Calls Tryz.prog 59 (#[.int .i64 a, .int .i64 b] ++ #[.pointer (some ⟨p, 0, none⟩)]) w fun e w' => e = .returned (.bool (timP h a b)) ∧ Below w.heap.size w w' := by
 have hh := oftime_any va h p a b w hp hT ha hb
 unfold timP
 rw [cAt_eq ha, bAt_eq hb]
 exact hh
theorem fro_calls (vr : Value) (h : List TxnV) (R : List RRow) (p ob a b : Nat) (w : World) (hp : w.cell? ⟨p, 0, none⟩ = some (.pointer (some ⟨ob, 0, none⟩))) (hr : w.cell? ⟨ob, 195, none⟩ = some vr) (hT : FRws w vr R) (hR : R.map (·.2) = readsTo h h.length) (hb : b < h.length) :
  Calls Tryz.prog 60 (#[.int .i64 a, .int .i64 b] ++ #[.pointer (some ⟨p, 0, none⟩)]) w fun e w' => e = .returned (.bool (froP h a b)) ∧ Below w.heap.size w w' := by
 have hl : R.length = h.length := by have := congrArg List.length hR; simpa [readsTo] using this
 have hbR : b < R.length := by omega
 have he : R[b].2 = readsOf h b := by
  have := congrArg (·[b]?) hR
  simp only [List.getElem?_map, List.getElem?_eq_getElem hbR, readsTo, List.getElem?_range hb, Option.map_some] at this
  exact Option.some.inj this
 have hh := offrom_any vr R a b p ob w hp hr hT hbR
 unfold froP
 rw [← he]
 exact hh
def OrdIs (w : World) (B b : Nat) (h : List TxnV) : Prop := ∃ (bm m c : Nat) (vk vr : Value) (K : List KRow) (R : List RRow), OrdAt w B h.length (sesM h) (timM h) (froM h) (.map (some bm)) vk vr (soundTo h h.length) ∧
 MapI eS Tryz.prog 3 w bm m (wrsTo K K.length) c ∧ AllSet (wrsTo K K.length) ∧ OfR b w vk vr K R ∧ K.map (·.2) = keysTo h h.length ∧ R.map (·.2) = readsTo h h.length
theorem OrdIs.below {w w' : World} {B b : Nat} {h : List TxnV} (hO : OrdIs w B b h) (hb : Below w.heap.size w w') : OrdIs w' B b h := by
 obtain ⟨bm, m, c, vk, vr, K, R, h1, h2, h3, h4, h5, h6⟩ := hO
 exact ⟨bm, m, c, vk, vr, K, R, h1.below hb h1.lt, h2.below hb, h3, h4.below hb, h5, h6⟩
end

section
open Go.RowKit
theorem wp_load_rel {o : Oper} {a : Act} {w : World} {K : Act → World → Prop} {Q : Exit → Act → World → Prop} {g : Nat} {R : Mat} (h : RelAt w g 108 R) (x : Operand) (ho : o.op = .load 108 x)
  (hx : a.eval x = .pointer (some ⟨g, 0, none⟩)) (hn : K (a.put o.dst (.agg (rowsA R))) w) : o.wp Tryz.prog a w K Q :=
 wp_load_row 108 x ho g hx _ (rowsA R) _ _ h Tryz.underlying108 rfl (infoRel' _) hn
end

section
open Go.RowKit
theorem inB_iff {s t : Nat} (hs : IsSet s) : inB s t = true ↔ ∀ i, i < 64 → s.testBit i = true → t.testBit i = true := by
 unfold inB
 rw [beq_iff_eq]
 constructor
 ·intro h i _ hi
  have := congrArg (fun x => Nat.testBit x i) h
  simp [Nat.testBit_xor, Nat.testBit_and, hi] at this
  exact this
 ·intro h
  apply set_ext (isSet_xor hs (isSet_and hs)) (by unfold IsSet; omega)
  intro i hi
  rw [Nat.testBit_xor, Nat.testBit_and]
  cases hb : s.testBit i
  ·simp
  ·simp [h i hi hb]
end

section
open Go.RowKit
theorem nodup_map {α β : Type} (f : α → β) (hf : ∀ a b, f a = f b → a = b) : ∀ {l : List α}, l.Nodup → (l.map f).Nodup := by
 intro l h
 induction l with
 | nil => exact List.nodup_nil
 | cons a l ih =>
  rw [List.nodup_cons] at h
  rw [List.map_cons, List.nodup_cons]
  refine ⟨?_, ih h.2⟩
  intro hm
  obtain ⟨b, hb, e⟩ := List.mem_map.1 hm
  exact h.1 (hf b a e ▸ hb)
theorem addM_iff (R : Mat) (a b : Int) (i j : Nat) (hi : i < 64) (hj : j < 64) : addM R a b i j = true ↔ R i j = true ∨ (a = (i : Int) ∧ b = (j : Int)) := by
 unfold addM
 split
 ·rename_i h
  have h1 := (mayB_iff a).1 h.1
  have h2 := (mayB_iff b).1 h.2
  unfold rowSet
  by_cases e : i = a.toNat
  ·rw [if_pos e, ← e, Bool.or_eq_true, decide_eq_true_iff]
   apply or_congr Iff.rfl
   constructor
   ·intro h; omega
   ·intro h; omega
  ·rw [if_neg e]
   constructor
   ·exact .inl
   ·rintro (h | h)
    ·exact h
    ·omega
 ·rename_i h
  constructor
  ·exact .inl
  ·rintro (h' | ⟨rfl, rfl⟩)
   ·exact h'
   ·exact absurd ⟨(mayB_iff _).2 (by omega), (mayB_iff _).2 (by omega)⟩ h
end

section
open Go.RowKit
theorem prsRow_iff (S : Nat → Nat → Bool) (a : Nat) (R : Mat) (i j : Nat) (hi : i < 64) (hj : j < 64) : ∀ b, prsRow S a R b i j = true ↔ R i j = true ∨ (i = a ∧ j < b ∧ S i j = true)
 | 0 => by simp [prsRow]
 | b + 1 => by
  have ih := prsRow_iff S a R i j hi hj b
  cases hs : S a b with
  | true =>
   rw [prsRow_hit R hs, addM_iff _ _ _ _ _ hi hj, ih]
   constructor
   ·rintro ((h | ⟨h1, h2, h3⟩) | ⟨h1, h2⟩)
    ·exact .inl h
    ·exact .inr ⟨h1, by omega, h3⟩
    ·have e1 : i = a := by omega
     have e2 : j = b := by omega
     subst e1 e2
     exact .inr ⟨rfl, by omega, hs⟩
   ·rintro (h | ⟨h1, h2, h3⟩)
    ·exact .inl (.inl h)
    ·by_cases e : j = b
     ·exact .inr ⟨by omega, by omega⟩
     ·exact .inl (.inr ⟨h1, by omega, h3⟩)
  | false =>
   rw [prsRow_miss R hs, ih]
   constructor
   ·rintro (h | ⟨h1, h2, h3⟩)
    ·exact .inl h
    ·exact .inr ⟨h1, by omega, h3⟩
   ·rintro (h | ⟨h1, h2, h3⟩)
    ·exact .inl h
    ·refine .inr ⟨h1, ?_, h3⟩
     by_cases e : j = b
     ·subst h1 e; rw [hs] at h3; cases h3
     ·omega
theorem prsTo_iff (S : Nat → Nat → Bool) (n : Nat) (i j : Nat) (hi : i < 64) (hj : j < 64) : ∀ a, prsTo S n a i j = true ↔ i < a ∧ j < n ∧ S i j = true
 | 0 => by simp [prsTo, noR]
 | a + 1 => by
  have ih := prsTo_iff S n i j hi hj a
  show prsRow S a (prsTo S n a) n i j = true ↔ _
  rw [prsRow_iff S a _ i j hi hj, ih]
  constructor
  ·rintro (⟨h1, h2⟩ | ⟨h1, h2⟩)
   ·exact ⟨by omega, h2⟩
   ·exact ⟨by omega, h2⟩
  ·rintro ⟨h1, h2⟩
   by_cases e : i = a
   ·exact .inr ⟨e, h2⟩
   ·exact .inl ⟨by omega, h2⟩
theorem wpList_load_part {ops : Array Oper} {rest : List Oper} {o : Oper} {a : Act} {w : World} {Q : Exit → Act → World → Prop} {B k : Nat} {R : Mat} (h : w.rangeAt B k (rowsA R).toList) (x : Operand) (ho : o.op = .load 108 x)
  (hw : Region.wanted o (yielded ops a.tmps) = true) (hx : a.eval x = .pointer (some ⟨B, k, none⟩)) (hn : wpList Tryz.prog ops Q rest (a.put o.dst (.agg (rowsA R))) w) : wpList Tryz.prog ops Q (o :: rest) a w :=
 wpList_step fun K hK => by
  rw [if_pos hw]
  refine wp_load_mid 108 x ho B k hx (rowsA R).toList _ h Tryz.underlying108 rfl (by rw [Array.length_toList]; exact infoRel' R) ?_
  rw [Array.toArray_toList]
  exact hK _ _ hn
end

section
open Go.RowKit
theorem takeG {P : Program} {ops : Array Oper} {Q : Exit → Act → World → Prop} {md : Region.Mode} {S : World → Prop} (d : Option Tmp) {i : Nat} {oi : Oper} {v : Value} {fuel : Nat} {listed : Array Bool} {a : Act} {w : World} (hi : ops[i]? = some oi) (hd : oi.dst = d)
  (hs : Region.noSelect ops = true) (hf : Region.free md ops listed i = true) (hr : (Region.ready md ops listed).contains i = true)
  (hQ : ∀ c a w, Q (.panic c) (a.put oi.dst v) w → Q (.panic c) a w) (hy : YieldsIf P ops S oi v a) (hS : S w)
  (h : wpAnyH P md ops Q S fuel (listed.setIfInBounds i true) (a.put d v) w) : wpAnyH P md ops Q S (fuel + 1) listed a w := by
 subst hd; exact wpAnyH_take hi hs hf hr hQ hy hS h
theorem yields_load_part {ops : Array Oper} {S : World → Prop} {o : Oper} {a : Act} {B k : Nat} {R : Mat} (hw : Region.wanted o (yielded ops a.tmps) = true) (x : Operand) (ho : o.op = .load 108 x)
  (hx : a.eval x = .pointer (some ⟨B, k, none⟩)) (hS : ∀ w, S w → w.rangeAt B k (rowsA R).toList) : YieldsIf Tryz.prog ops S o (.agg (rowsA R)) a := by
 have h := yieldsIf_load_mid (P := Tryz.prog) hw 108 x ho B k hx (rowsA R).toList _ hS Tryz.underlying108 rfl (by rw [Array.length_toList]; exact infoRel' R)
 rw [Array.toArray_toList] at h
 exact h
def OrdB (w : World) (B : Nat) (h : List TxnV) : Prop := ∃ vm vk vr, OrdAt w B h.length (sesM h) (timM h) (froM h) vm vk vr (soundTo h h.length)
theorem OrdIs.blk {w : World} {B b : Nat} {h : List TxnV} (hO : OrdIs w B b h) : OrdB w B h := by
 obtain ⟨bm, m, c, vk, vr, K, R, h1, _⟩ := hO
 exact ⟨_, _, _, h1⟩
theorem OrdB.rS {w : World} {B : Nat} {h : List TxnV} (hO : OrdB w B h) : w.rangeAt B 1 (rowsA (sesM h)).toList := by obtain ⟨_, _, _, h⟩ := hO; exact h.rS
theorem OrdB.rT {w : World} {B : Nat} {h : List TxnV} (hO : OrdB w B h) : w.rangeAt B 65 (rowsA (timM h)).toList := by obtain ⟨_, _, _, h⟩ := hO; exact h.rT
theorem OrdB.rF {w : World} {B : Nat} {h : List TxnV} (hO : OrdB w B h) : w.rangeAt B 129 (rowsA (froM h)).toList := by obtain ⟨_, _, _, h⟩ := hO; exact h.rF
theorem OrdB.cN {w : World} {B : Nat} {h : List TxnV} (hO : OrdB w B h) : w.cell? ⟨B, 0, none⟩ = some (.int .i64 h.length) := by obtain ⟨_, _, _, h⟩ := hO; exact h.cN
theorem OrdB.cS {w : World} {B : Nat} {h : List TxnV} (hO : OrdB w B h) : w.cell? ⟨B, 196, none⟩ = some (.bool (soundTo h h.length)) := by obtain ⟨_, _, _, h⟩ := hO; exact h.cS
theorem OrdB.below {w w' : World} {B : Nat} {h : List TxnV} (hO : OrdB w B h) (hb : Below w.heap.size w w') : OrdB w' B h := by
 obtain ⟨vm, vk, vr, h1⟩ := hO
 exact ⟨_, _, _, h1.below hb h1.lt⟩
end

section
open Go.RowKit
theorem zero_block (w : World) : RelAt (w.alloc (.cells #[.int .u64 0, .int .u64 0, .int .u64 0, .int .u64 0, .int .u64 0, .int .u64 0, .int .u64 0, .int .u64 0, .int .u64 0, .int .u64 0, .int .u64 0, .int .u64 0, .int .u64 0, .int .u64 0, .int .u64 0, .int .u64 0, .int .u64 0, .int .u64 0, .int .u64 0, .int .u64 0, .int .u64 0, .int .u64 0, .int .u64 0, .int .u64 0, .int .u64 0, .int .u64 0, .int .u64 0, .int .u64 0, .int .u64 0, .int .u64 0, .int .u64 0, .int .u64 0, .int .u64 0, .int .u64 0, .int .u64 0, .int .u64 0, .int .u64 0, .int .u64 0, .int .u64 0, .int .u64 0, .int .u64 0, .int .u64 0, .int .u64 0, .int .u64 0, .int .u64 0, .int .u64 0, .int .u64 0, .int .u64 0, .int .u64 0, .int .u64 0, .int .u64 0, .int .u64 0, .int .u64 0, .int .u64 0, .int .u64 0, .int .u64 0, .int .u64 0, .int .u64 0, .int .u64 0, .int .u64 0, .int .u64 0, .int .u64 0, .int .u64 0, .int .u64 0] 108)) w.heap.size 108 noR :=
 RelAt.made w _ noR rfl (by rw [rowsA_none]; rfl)
end

section
theorem zA {α : Type _} (l : List α) (i : Nat) (a : α) : l.toArray.setIfInBounds i a = (l.set i a).toArray := List.setIfInBounds_toArray ..
theorem zB {α : Type _} {x : α} {xs : List α} {a : α} : (x :: xs).set 0 a = a :: xs := List.set_cons_zero
theorem zC {α : Type _} {x : α} {xs : List α} {i : Nat} {a : α} : (x :: xs).set (i + 1) a = x :: xs.set i a := List.set_cons_succ
end
section
theorem tG {P : Program} {ops : Array Oper} {Q : Exit → Act → World → Prop} {md : Region.Mode} {S : World → Prop} (d : Option Tmp) (i : Nat) {oi : Oper} (v : Value) {fuel : Nat} {listed : Array Bool} {a : Act} {w : World} (hi : ops[i]? = some oi) (hd : oi.dst = d)
 (hy : YieldsIf P ops S oi v a) (hS : S w) (h : wpAnyH P md ops Q S fuel (listed.setIfInBounds i true) (a.put d v) w)
 (hs : Region.noSelect ops = true := by kernel_rfl) (hf : Region.free md ops listed i = true := by kernel_rfl) (hr : (Region.ready md ops listed).contains i = true := by kernel_rfl)
 (hQ : ∀ c a w, Q (.panic c) (a.put oi.dst v) w → Q (.panic c) a w := by exact fun _ _ _ h => h) : wpAnyH P md ops Q S (fuel + 1) listed a w := takeG d hi hd hs hf hr hQ hy hS h
theorem tA {P : Program} {ops : Array Oper} {Q : Exit → Act → World → Prop} {md : Region.Mode} {S : World → Prop} (d : Option Tmp) (i : Nat) {oi : Oper} {v : Value} {fuel : Nat} {listed : Array Bool} {a : Act} {w : World} (hi : ops[i]? = some oi) (hd : oi.dst = d)
 (hS : S w) (h : wpAnyH P md ops Q S fuel (listed.setIfInBounds i true) (a.put d v) w)
 (hy : YieldsIf P ops S oi v a := by exact Or.inl ⟨by rfl, by intro w _; go_simp; try (with_reducible rfl)⟩)
 (hs : Region.noSelect ops = true := by kernel_rfl) (hf : Region.free md ops listed i = true := by kernel_rfl) (hr : (Region.ready md ops listed).contains i = true := by kernel_rfl)
 (hQ : ∀ c a w, Q (.panic c) (a.put oi.dst v) w → Q (.panic c) a w := by exact fun _ _ _ h => h) : wpAnyH P md ops Q S (fuel + 1) listed a w := takeG d hi hd hs hf hr hQ hy hS h
end
section
theorem rD {P : Program} {ops : Array Oper} {Q : Exit → Act → World → Prop} {md : Region.Mode} {S : World → Prop} {fuel : Nat} {listed : Array Bool} {a : Act} {w : World} (i : Nat) {o : Oper} (ho : ops[i]? = some o)
 (h : ∀ K' : Act → World → Prop, Go.Shut (∀ a w, S w → (S w → wpAnyH P md ops Q S fuel (listed.setIfInBounds i true) a w) → K' a w) → if Region.wanted o (yielded ops a.tmps) = true then Oper.wp P o a w K' Q else K' (a.put o.dst undef) w)
 (hr : Region.ready md ops listed = [i] := by kernel_rfl) : wpAnyH P md ops Q S (fuel + 1) listed a w := wpAnyH_ready hr (by simp) (AllReadyH.cons ho h AllReadyH.nil)
end
section
open Go.RowKit
theorem RelAt.far {w : World} {g g' : Nat} {t : TypeId} {R : Mat} (h : RelAt w g t R) (hne : g ≠ g') (cs : Array Value) : RelAt (w.setRow g' cs) g t R := by
 unfold RelAt at *; rw [setRow_other _ _ _ _ hne]; exact h
theorem wp_store_rel {o : Oper} {a : Act} {w : World} {K : Act → World → Prop} {Q : Exit → Act → World → Prop} {g : Nat} {S : Mat} (h : RelAt w g 108 S) (R : Mat) (x y : Operand) (ho : o.op = .store 108 x y)
  (hx : a.eval x = .pointer (some ⟨g, 0, none⟩)) (hy : a.eval y = .agg (rowsA R)) (hn : K (a.put o.dst undef) (w.setRow g (rowsA R))) : o.wp Tryz.prog a w K Q :=
 wp_store_row 108 x y ho g (rowsA R) hx hy _ _ h (infoRel' _) (by rw [rowsA_size, rowsA_size]) (rows_one _) hn
theorem ret_rel {R S : Mat} (h : R = S) : Ending.returned (.agg (rowsA R)) = .returned (.agg (rowsA S)) := by rw [h]
def baseQ (h : List TxnV) (q1 q2 : Int) : Mat := if q2 = 0 then (if q1 = 0 then froM h else orR (froM h) (sesM h)) else orR (if q1 = 0 then froM h else orR (froM h) (sesM h)) (timM h)
def baseM (h : List TxnV) (x : Int) : Mat := baseQ h (bits .and .i64 x 1) (bits .and .i64 x 32)
theorem lbase_any (x : Int) (h : List TxnV) (B : Nat) (w : World) (hO : OrdB w B h) :
  Calls Tryz.prog 167 #[.pointer (some ⟨B, 0, none⟩), .int .i64 x] w fun e w' => e = .returned (.agg (rowsA (baseM h x))) ∧ Below w.heap.size w w' := by
 have HO := hid (fun wx (hx : Below w.heap.size w wx) => hO.below hx)
 obtain ⟨q1, h1⟩ : ∃ q, bits .and .i64 x 1 = q := ⟨_, rfl⟩
 obtain ⟨q2, h2⟩ : ∃ q, bits .and .i64 x 32 = q := ⟨_, rfl⟩
 have HQ : Hid (baseM h x = baseQ h q1 q2) := hid (by unfold baseM; rw [h1, h2])
 have z0 := zero_block w
 have z1 := zero_block (w.alloc (.cells #[.int .u64 0, .int .u64 0, .int .u64 0, .int .u64 0, .int .u64 0, .int .u64 0, .int .u64 0, .int .u64 0, .int .u64 0, .int .u64 0, .int .u64 0, .int .u64 0, .int .u64 0, .int .u64 0, .int .u64 0, .int .u64 0, .int .u64 0, .int .u64 0, .int .u64 0, .int .u64 0, .int .u64 0, .int .u64 0, .int .u64 0, .int .u64 0, .int .u64 0, .int .u64 0, .int .u64 0, .int .u64 0, .int .u64 0, .int .u64 0, .int .u64 0, .int .u64 0, .int .u64 0, .int .u64 0, .int .u64 0, .int .u64 0, .int .u64 0, .int .u64 0, .int .u64 0, .int .u64 0, .int .u64 0, .int .u64 0, .int .u64 0, .int .u64 0, .int .u64 0, .int .u64 0, .int .u64 0, .int .u64 0, .int .u64 0, .int .u64 0, .int .u64 0, .int .u64 0, .int .u64 0, .int .u64 0, .int .u64 0, .int .u64 0, .int .u64 0, .int .u64 0, .int .u64 0, .int .u64 0, .int .u64 0, .int .u64 0, .int .u64 0, .int .u64 0] 108))
 rw [show (w.alloc (.cells #[.int .u64 0, .int .u64 0, .int .u64 0, .int .u64 0, .int .u64 0, .int .u64 0, .int .u64 0, .int .u64 0, .int .u64 0, .int .u64 0, .int .u64 0, .int .u64 0, .int .u64 0, .int .u64 0, .int .u64 0, .int .u64 0, .int .u64 0, .int .u64 0, .int .u64 0, .int .u64 0, .int .u64 0, .int .u64 0, .int .u64 0, .int .u64 0, .int .u64 0, .int .u64 0, .int .u64 0, .int .u64 0, .int .u64 0, .int .u64 0, .int .u64 0, .int .u64 0, .int .u64 0, .int .u64 0, .int .u64 0, .int .u64 0, .int .u64 0, .int .u64 0, .int .u64 0, .int .u64 0, .int .u64 0, .int .u64 0, .int .u64 0, .int .u64 0, .int .u64 0, .int .u64 0, .int .u64 0, .int .u64 0, .int .u64 0, .int .u64 0, .int .u64 0, .int .u64 0, .int .u64 0, .int .u64 0, .int .u64 0, .int .u64 0, .int .u64 0, .int .u64 0, .int .u64 0, .int .u64 0, .int .u64 0, .int .u64 0, .int .u64 0, .int .u64 0] 108)).heap.size = w.heap.size + 1 from by simp] at z1
 have hb1 := box_below w (.cells #[.int .u64 0, .int .u64 0, .int .u64 0, .int .u64 0, .int .u64 0, .int .u64 0, .int .u64 0, .int .u64 0, .int .u64 0, .int .u64 0, .int .u64 0, .int .u64 0, .int .u64 0, .int .u64 0, .int .u64 0, .int .u64 0, .int .u64 0, .int .u64 0, .int .u64 0, .int .u64 0, .int .u64 0, .int .u64 0, .int .u64 0, .int .u64 0, .int .u64 0, .int .u64 0, .int .u64 0, .int .u64 0, .int .u64 0, .int .u64 0, .int .u64 0, .int .u64 0, .int .u64 0, .int .u64 0, .int .u64 0, .int .u64 0, .int .u64 0, .int .u64 0, .int .u64 0, .int .u64 0, .int .u64 0, .int .u64 0, .int .u64 0, .int .u64 0, .int .u64 0, .int .u64 0, .int .u64 0, .int .u64 0, .int .u64 0, .int .u64 0, .int .u64 0, .int .u64 0, .int .u64 0, .int .u64 0, .int .u64 0, .int .u64 0, .int .u64 0, .int .u64 0, .int .u64 0, .int .u64 0, .int .u64 0, .int .u64 0, .int .u64 0, .int .u64 0] 108)
 have z0 := (z0.alloc (.cells #[.int .u64 0, .int .u64 0, .int .u64 0, .int .u64 0, .int .u64 0, .int .u64 0, .int .u64 0, .int .u64 0, .int .u64 0, .int .u64 0, .int .u64 0, .int .u64 0, .int .u64 0, .int .u64 0, .int .u64 0, .int .u64 0, .int .u64 0, .int .u64 0, .int .u64 0, .int .u64 0, .int .u64 0, .int .u64 0, .int .u64 0, .int .u64 0, .int .u64 0, .int .u64 0, .int .u64 0, .int .u64 0, .int .u64 0, .int .u64 0, .int .u64 0, .int .u64 0, .int .u64 0, .int .u64 0, .int .u64 0, .int .u64 0, .int .u64 0, .int .u64 0, .int .u64 0, .int .u64 0, .int .u64 0, .int .u64 0, .int .u64 0, .int .u64 0, .int .u64 0, .int .u64 0, .int .u64 0, .int .u64 0, .int .u64 0, .int .u64 0, .int .u64 0, .int .u64 0, .int .u64 0, .int .u64 0, .int .u64 0, .int .u64 0, .int .u64 0, .int .u64 0, .int .u64 0, .int .u64 0, .int .u64 0, .int .u64 0, .int .u64 0, .int .u64 0] 108)).far (g' := w.heap.size + 1) (by omega) (rowsA (froM h))
 have hb2 := below_setRow (hb1.alloc hb1.size (.cells #[.int .u64 0, .int .u64 0, .int .u64 0, .int .u64 0, .int .u64 0, .int .u64 0, .int .u64 0, .int .u64 0, .int .u64 0, .int .u64 0, .int .u64 0, .int .u64 0, .int .u64 0, .int .u64 0, .int .u64 0, .int .u64 0, .int .u64 0, .int .u64 0, .int .u64 0, .int .u64 0, .int .u64 0, .int .u64 0, .int .u64 0, .int .u64 0, .int .u64 0, .int .u64 0, .int .u64 0, .int .u64 0, .int .u64 0, .int .u64 0, .int .u64 0, .int .u64 0, .int .u64 0, .int .u64 0, .int .u64 0, .int .u64 0, .int .u64 0, .int .u64 0, .int .u64 0, .int .u64 0, .int .u64 0, .int .u64 0, .int .u64 0, .int .u64 0, .int .u64 0, .int .u64 0, .int .u64 0, .int .u64 0, .int .u64 0, .int .u64 0, .int .u64 0, .int .u64 0, .int .u64 0, .int .u64 0, .int .u64 0, .int .u64 0, .int .u64 0, .int .u64 0, .int .u64 0, .int .u64 0, .int .u64 0, .int .u64 0, .int .u64 0, .int .u64 0] 108)) (g := w.heap.size + 1) (by omega) (rowsA (froM h))
 have q0 := (HO.out _ hb1).rF
 have n0 := (HO.out _ hb1).cN
 clear hO hb1
 go_enter Tryz.func167, Tryz.ntmps167
 go_upto_region 2 with (first
  | (with_reducible refine wpList_load_part q0 _ rfl (by kernel_rfl) rfl ?_)
  | (with_reducible refine wpList_store_rel z1 (froM h) rfl _ _ rfl rfl rfl ?_))
 have z1 := z1.setRow (froM h)
 clear q0 n0
 generalize World.setRow _ _ _ = w2 at *
 have hb := hb2
 clear hb2
 by_cases e1 : q1 = 0
 ·subst e1
  go_upto_region 4 with fail
  by_cases e2 : q2 = 0
  ·subst e2
   go_upto_region 6 with fail
   have HE : Hid ((froM h) = baseM h x) := hid (by rw [HQ.out]; unfold baseQ; rw [if_pos rfl, if_pos rfl])
   clear HQ HO
   go_wp2_with (first | (with_reducible refine wpList_load_rel z1 rfl _ rfl rfl ?_) | (with_reducible refine wpList_store_rel z0 (froM h) rfl _ _ rfl rfl rfl ?_))
   have h3 := z0.setRow (froM h)
   exact bodyPost_ret (results_rel rfl _ _ _ _ rfl h3) rfl ⟨ret_rel HE.out, below_setRow hb (Nat.le_refl _) _⟩
  ·go_upto_region 5 with fail
   have kd := (Below.refl w2.heap.size w2).drew
   have HV : Hid (∀ wx, Below w2.heap.size w2 wx → RelAt wx (w.heap.size + 1) 108 (froM h)) := hid (fun wx hx => z1.below hx z1.lt)
   have HZ : Hid (∀ wx, Below w2.heap.size w2 wx → RelAt wx w.heap.size 108 noR) := hid (fun wx hx => z0.below hx z0.lt)
   have HB := hid (fun wx (hx : Below w2.heap.size w2 wx) => hb.trans (hx.mono hb.size))
   have HSB := hid (fun wx (hx : Below w2.heap.size w2 wx) => HO.out wx (hb.trans (hx.mono hb.size)))
   have HSF : Hid (∀ wx, Below w2.heap.size w2 wx → ∀ (cs : Array Value), OrdB (wx.setRow (w.heap.size + 1) cs) B h) := hid (fun wx hx cs => HO.out _ (below_setRow (hb.trans (hx.mono hb.size)) (by omega) cs))
   clear z1 z0 hb
   refine wp_region_held_drew (S := fun wx => OrdB wx B h) (by kernel_rfl) (HSB.out _ kd) (fun hS0 => ?_)
   refine tG (some 23) 1 ?vbw21 rfl rfl (Or.inl ⟨by rfl, ?hbw21⟩) hS0 ?rbw21
   case hbw21 => (intro w hw; go_simp; try (with_reducible rfl))
   try simp only [Act.put, zA, zB, zC]
   refine tG (some 24) 2 ?vbw22 rfl rfl (Or.inl ⟨by rfl, ?hbw22⟩) hS0 ?rbw22
   case hbw22 => (intro w hw; have hn := hw.cN; go_simp; try (with_reducible rfl))
   try simp only [Act.put, zA, zB, zC]
   refine tG (some 25) 3 ?vbw23 rfl rfl (Or.inl ⟨by rfl, ?hbw23⟩) hS0 ?rbw23
   case hbw23 => (intro w hw; have hn := hw.cN; go_simp; try (with_reducible rfl))
   try simp only [Act.put, zA, zB, zC]
   refine tG (some 26) 4 _ rfl rfl (yields_load_part (by rfl) _ rfl rfl (fun wx hx => OrdB.rT hx)) hS0 ?_
   try simp only [Act.put, zA, zB, zC]
   refine rD 0 rfl (fun K hK => ?_)
   rw [if_pos (by rfl)]
   refine wp_load_rel (HV.out _ kd) _ rfl rfl ?_
   refine hK.out _ _ hS0 (fun _ => ?_)
   clear hK K
   refine rD 5 rfl (fun K hK => ?_)
   go_simp
   refine (union_any (froM h) (timM h) _).mono ?_
   rintro e qbw21 ⟨rfl, hqbw21⟩
   show K _ _
   have kbw21 := below_then kd hqbw21
   have sbw21 := HSB.out _ kbw21
   refine hK.out _ _ sbw21 (fun _ => ?_)
   clear hK K
   refine rD 6 rfl (fun K hK => ?_)
   rw [if_pos (by rfl)]
   refine wp_store_rel (HV.out _ kbw21) (orR (froM h) (timM h)) _ _ rfl rfl rfl ?_
   refine hK.out _ _ (HSF.out _ kbw21 _) (fun _ => ?_)
   clear hK K
   refine wpAnyH_done (by kernel_rfl) ?_ _
   have z1 := (HV.out _ kbw21).setRow (orR (froM h) (timM h))
   have z0 := (HZ.out _ kbw21).far (g' := w.heap.size + 1) (by omega) (rowsA (orR (froM h) (timM h)))
   have hb := below_setRow (HB.out _ kbw21) (g := w.heap.size + 1) (by omega) (rowsA (orR (froM h) (timM h)))
   generalize World.setRow _ _ _ = w2' at *
   clear HV HZ HB HSB HSF kd
   have HE : Hid ((orR (froM h) (timM h)) = baseM h x) := hid (by rw [HQ.out]; unfold baseQ; rw [if_neg e2, if_pos rfl])
   clear HQ HO
   go_wp2_with (first | (with_reducible refine wpList_load_rel z1 rfl _ rfl rfl ?_) | (with_reducible refine wpList_store_rel z0 (orR (froM h) (timM h)) rfl _ _ rfl rfl rfl ?_))
   have h3 := z0.setRow (orR (froM h) (timM h))
   exact bodyPost_ret (results_rel rfl _ _ _ _ rfl h3) rfl ⟨ret_rel HE.out, below_setRow hb (Nat.le_refl _) _⟩
 ·go_upto_region 3 with fail
  have kd := (Below.refl w2.heap.size w2).drew
  have HV : Hid (∀ wx, Below w2.heap.size w2 wx → RelAt wx (w.heap.size + 1) 108 (froM h)) := hid (fun wx hx => z1.below hx z1.lt)
  have HZ : Hid (∀ wx, Below w2.heap.size w2 wx → RelAt wx w.heap.size 108 noR) := hid (fun wx hx => z0.below hx z0.lt)
  have HB := hid (fun wx (hx : Below w2.heap.size w2 wx) => hb.trans (hx.mono hb.size))
  have HSB := hid (fun wx (hx : Below w2.heap.size w2 wx) => HO.out wx (hb.trans (hx.mono hb.size)))
  have HSF : Hid (∀ wx, Below w2.heap.size w2 wx → ∀ (cs : Array Value), OrdB (wx.setRow (w.heap.size + 1) cs) B h) := hid (fun wx hx cs => HO.out _ (below_setRow (hb.trans (hx.mono hb.size)) (by omega) cs))
  clear z1 z0 hb
  refine wp_region_held_drew (S := fun wx => OrdB wx B h) (by kernel_rfl) (HSB.out _ kd) (fun hS0 => ?_)
  refine tG (some 14) 1 ?va1 rfl rfl (Or.inl ⟨by rfl, ?ha1⟩) hS0 ?ra1
  case ha1 => (intro w hw; go_simp; try (with_reducible rfl))
  try simp only [Act.put, zA, zB, zC]
  refine tG (some 15) 2 ?va2 rfl rfl (Or.inl ⟨by rfl, ?ha2⟩) hS0 ?ra2
  case ha2 => (intro w hw; have hn := hw.cN; go_simp; try (with_reducible rfl))
  try simp only [Act.put, zA, zB, zC]
  refine tG (some 16) 3 ?va3 rfl rfl (Or.inl ⟨by rfl, ?ha3⟩) hS0 ?ra3
  case ha3 => (intro w hw; have hn := hw.cN; go_simp; try (with_reducible rfl))
  try simp only [Act.put, zA, zB, zC]
  refine tG (some 17) 4 _ rfl rfl (yields_load_part (by rfl) _ rfl rfl (fun wx hx => OrdB.rS hx)) hS0 ?_
  try simp only [Act.put, zA, zB, zC]
  refine rD 0 rfl (fun K hK => ?_)
  rw [if_pos (by rfl)]
  refine wp_load_rel (HV.out _ kd) _ rfl rfl ?_
  refine hK.out _ _ hS0 (fun _ => ?_)
  clear hK K
  refine rD 5 rfl (fun K hK => ?_)
  go_simp
  refine (union_any (froM h) (sesM h) _).mono ?_
  rintro e qa1 ⟨rfl, hqa1⟩
  show K _ _
  have ka1 := below_then kd hqa1
  have sa1 := HSB.out _ ka1
  refine hK.out _ _ sa1 (fun _ => ?_)
  clear hK K
  refine rD 6 rfl (fun K hK => ?_)
  rw [if_pos (by rfl)]
  refine wp_store_rel (HV.out _ ka1) (orR (froM h) (sesM h)) _ _ rfl rfl rfl ?_
  refine hK.out _ _ (HSF.out _ ka1 _) (fun _ => ?_)
  clear hK K
  refine wpAnyH_done (by kernel_rfl) ?_ _
  have z1 := (HV.out _ ka1).setRow (orR (froM h) (sesM h))
  have z0 := (HZ.out _ ka1).far (g' := w.heap.size + 1) (by omega) (rowsA (orR (froM h) (sesM h)))
  have hb := below_setRow (HB.out _ ka1) (g := w.heap.size + 1) (by omega) (rowsA (orR (froM h) (sesM h)))
  generalize World.setRow _ _ _ = w2' at *
  clear HV HZ HB HSB HSF kd
  go_upto_region 4 with fail
  by_cases e2 : q2 = 0
  ·subst e2
   go_upto_region 6 with fail
   have HE : Hid ((orR (froM h) (sesM h)) = baseM h x) := hid (by rw [HQ.out]; unfold baseQ; rw [if_pos rfl, if_neg e1])
   clear HQ HO
   go_wp2_with (first | (with_reducible refine wpList_load_rel z1 rfl _ rfl rfl ?_) | (with_reducible refine wpList_store_rel z0 (orR (froM h) (sesM h)) rfl _ _ rfl rfl rfl ?_))
   have h3 := z0.setRow (orR (froM h) (sesM h))
   exact bodyPost_ret (results_rel rfl _ _ _ _ rfl h3) rfl ⟨ret_rel HE.out, below_setRow hb (Nat.le_refl _) _⟩
  ·go_upto_region 5 with fail
   have kd := (Below.refl w2'.heap.size w2').drew
   have HV : Hid (∀ wx, Below w2'.heap.size w2' wx → RelAt wx (w.heap.size + 1) 108 (orR (froM h) (sesM h))) := hid (fun wx hx => z1.below hx z1.lt)
   have HZ : Hid (∀ wx, Below w2'.heap.size w2' wx → RelAt wx w.heap.size 108 noR) := hid (fun wx hx => z0.below hx z0.lt)
   have HB := hid (fun wx (hx : Below w2'.heap.size w2' wx) => hb.trans (hx.mono hb.size))
   have HSB := hid (fun wx (hx : Below w2'.heap.size w2' wx) => HO.out wx (hb.trans (hx.mono hb.size)))
   have HSF : Hid (∀ wx, Below w2'.heap.size w2' wx → ∀ (cs : Array Value), OrdB (wx.setRow (w.heap.size + 1) cs) B h) := hid (fun wx hx cs => HO.out _ (below_setRow (hb.trans (hx.mono hb.size)) (by omega) cs))
   clear z1 z0 hb
   refine wp_region_held_drew (S := fun wx => OrdB wx B h) (by kernel_rfl) (HSB.out _ kd) (fun hS0 => ?_)
   refine tG (some 23) 1 ?vbw2'1 rfl rfl (Or.inl ⟨by rfl, ?hbw2'1⟩) hS0 ?rbw2'1
   case hbw2'1 => (intro w hw; go_simp; try (with_reducible rfl))
   try simp only [Act.put, zA, zB, zC]
   refine tG (some 24) 2 ?vbw2'2 rfl rfl (Or.inl ⟨by rfl, ?hbw2'2⟩) hS0 ?rbw2'2
   case hbw2'2 => (intro w hw; have hn := hw.cN; go_simp; try (with_reducible rfl))
   try simp only [Act.put, zA, zB, zC]
   refine tG (some 25) 3 ?vbw2'3 rfl rfl (Or.inl ⟨by rfl, ?hbw2'3⟩) hS0 ?rbw2'3
   case hbw2'3 => (intro w hw; have hn := hw.cN; go_simp; try (with_reducible rfl))
   try simp only [Act.put, zA, zB, zC]
   refine tG (some 26) 4 _ rfl rfl (yields_load_part (by rfl) _ rfl rfl (fun wx hx => OrdB.rT hx)) hS0 ?_
   try simp only [Act.put, zA, zB, zC]
   refine rD 0 rfl (fun K hK => ?_)
   rw [if_pos (by rfl)]
   refine wp_load_rel (HV.out _ kd) _ rfl rfl ?_
   refine hK.out _ _ hS0 (fun _ => ?_)
   clear hK K
   refine rD 5 rfl (fun K hK => ?_)
   go_simp
   refine (union_any (orR (froM h) (sesM h)) (timM h) _).mono ?_
   rintro e qbw2'1 ⟨rfl, hqbw2'1⟩
   show K _ _
   have kbw2'1 := below_then kd hqbw2'1
   have sbw2'1 := HSB.out _ kbw2'1
   refine hK.out _ _ sbw2'1 (fun _ => ?_)
   clear hK K
   refine rD 6 rfl (fun K hK => ?_)
   rw [if_pos (by rfl)]
   refine wp_store_rel (HV.out _ kbw2'1) (orR (orR (froM h) (sesM h)) (timM h)) _ _ rfl rfl rfl ?_
   refine hK.out _ _ (HSF.out _ kbw2'1 _) (fun _ => ?_)
   clear hK K
   refine wpAnyH_done (by kernel_rfl) ?_ _
   have z1 := (HV.out _ kbw2'1).setRow (orR (orR (froM h) (sesM h)) (timM h))
   have z0 := (HZ.out _ kbw2'1).far (g' := w.heap.size + 1) (by omega) (rowsA (orR (orR (froM h) (sesM h)) (timM h)))
   have hb := below_setRow (HB.out _ kbw2'1) (g := w.heap.size + 1) (by omega) (rowsA (orR (orR (froM h) (sesM h)) (timM h)))
   generalize World.setRow _ _ _ = w2'' at *
   clear HV HZ HB HSB HSF kd
   have HE : Hid ((orR (orR (froM h) (sesM h)) (timM h)) = baseM h x) := hid (by rw [HQ.out]; unfold baseQ; rw [if_neg e2, if_neg e1])
   clear HQ HO
   go_wp2_with (first | (with_reducible refine wpList_load_rel z1 rfl _ rfl rfl ?_) | (with_reducible refine wpList_store_rel z0 (orR (orR (froM h) (sesM h)) (timM h)) rfl _ _ rfl rfl rfl ?_))
   have h3 := z0.setRow (orR (orR (froM h) (sesM h)) (timM h))
   exact bodyPost_ret (results_rel rfl _ _ _ _ rfl h3) rfl ⟨ret_rel HE.out, below_setRow hb (Nat.le_refl _) _⟩
end

section
open Go.RowKit
def rivS (F : Int → Option Nat) (xs : List Int) : Nat := xs.foldl (fun s x => s ||| (F x).getD 0) 0
theorem rivS_snoc (F : Int → Option Nat) (xs : List Int) (k : Nat) (hk : k < xs.length) : rivS F (xs.take (k + 1)) = rivS F (xs.take k) ||| (F xs[k]).getD 0 := by
 unfold rivS; rw [List.take_succ_eq_append_getElem hk, List.foldl_append]; rfl
theorem isSet_or2 {a b : Nat} (ha : IsSet a) (hb : IsSet b) : IsSet (a ||| b) := by
 unfold IsSet at *
 exact Nat.or_lt_two_pow (n := 64) ha hb
theorem rivS_set {F : Int → Option Nat} (hA : AllSet F) (xs : List Int) : ∀ k, k ≤ xs.length → IsSet (rivS F (xs.take k))
 | 0, _ => by unfold rivS IsSet; simp
 | k + 1, hk => by rw [rivS_snoc F xs k (by omega)]; exact isSet_or2 (rivS_set hA xs k (by omega)) (hA _)
section
variable {w : World} {B bm m c : Nat} {n : Int} {S T F : Mat} {vk vr : Value} {sd : Bool} {Fm : Int → Option Nat} {K : List KRow}
theorem orivals_none (i : Int) (hO : OrdAt w B n S T F (.map (some bm)) vk vr sd) (hK : Rws w vk K) (hi : i < 0 ∨ K.length ≤ i) :
  Calls Tryz.prog 242 #[.pointer (some ⟨B, 0, none⟩), .int .i64 i] w fun e w' => e = .returned (.int .u64 0) ∧ Below w.heap.size w w' := by
 have q1 := hO.cK
 obtain ⟨ao, cap, rfl⟩ := hK.form
 have hf : hi = hi := rfl
 clear hO hK hf
 by_cases h0 : i < 0
 ·go_enter Tryz.func242, Tryz.ntmps242
  go_wp2_with fail
  go_ret
  exact ⟨rfl, Below.refl _ _⟩
 ·have h1 : (K.length : Int) ≤ i := by omega
  go_enter Tryz.func242, Tryz.ntmps242
  go_wp2_with fail
  go_ret
  exact ⟨rfl, Below.refl _ _⟩
theorem orivals_any (i : Nat) (hO : OrdAt w B n S T F (.map (some bm)) vk vr sd) (hM : MapI eS Tryz.prog 3 w bm m Fm c) (hA : AllSet Fm) (hK : Rws w vk K) (hk : ∀ p ∈ K, ∀ x ∈ p.2, InI x) (hi : i < K.length) :
  Calls Tryz.prog 242 #[.pointer (some ⟨B, 0, none⟩), .int .i64 i] w fun e w' => e = .returned (.int .u64 ((woS (rivS Fm K[i].2) (i : Int) : Nat) : Int)) ∧ Below w.heap.size w w' := by
 have q1 := hO.cK
 have q2 := hO.cM
 obtain ⟨ao, cap, rfl⟩ := hK.form
 obtain ⟨g, o, hao, c0, hin⟩ := hK.at hi
 cases hao
 have hii : (i : Int) < (K.length : Int) := by omega
 have HIK := hid (hk _ (List.getElem_mem hi))
 have HIN := hid (fun wx (hx : Below w.heap.size w wx) => hin.below hx)
 have HM := hid (fun wx (hx : Below w.heap.size w wx) => hM.below hx)
 have HC := hid (fun wx (hx : Below w.heap.size w wx) => (hx.cell (p := ⟨B, 193, none⟩) (block_lt q2)).trans q2)
 have HA := hid hA
 generalize K[i] = p at *
 obtain ⟨v, xs⟩ := p
 simp only at c0 hin HIK HIN
 obtain ⟨ax, cx, rfl, hxl⟩ := hin.form
 clear hO hM hA hK hk hin
 go_enter Tryz.func242, Tryz.ntmps242
 go_wp2_with fail
 have e1 : decide ((i : Int) < 0) = false := decide_eq_false (by omega)
 have e2 : decide (K.length ≤ i) = false := decide_eq_false (by omega)
 simp only [e1, e2, Bool.or_self]
 clear e1 e2 c0 q1 hii
 go_loopw [5, 27] (fun s j wr => ∃ k : Nat, k ≤ xs.length ∧ j = .int .i64 k ∧ s = .int .u64 ((rivS Fm (xs.take k) : Nat) : Int) ∧ Below w.heap.size w wr) (fun _ j _ => xs.length - (intOf j).toNat)
 case atStart => exact ⟨0, by omega, rfl, rfl, Below.refl _ _⟩
 case round =>
  obtain ⟨k, hk, rfl, rfl, hb⟩ := hrel
  have hset := rivS_set HA.out xs k hk
  by_cases hlt : k < xs.length
  ·have hki : (k : Int) < (xs.length : Int) := by omega
   obtain ⟨g2, o2, hao2, e0⟩ := (HIN.out _ hb).at hlt
   cases hao2
   have HS := hid (rivS_snoc Fm xs k hlt)
   have hkv := HIK.out xs[k] (List.getElem_mem hlt)
   have hset2 := HA.out xs[k]
   have hM2 := HM.out _ hb
   have q3 := HC.out _ hb
   generalize xs[k] = x at *
   generalize rivS Fm (xs.take k) = a at *
   have HR := hid (Go.bits_or_u64_nat a ((Fm x).getD 0) hset hset2)
   go_wp2_with (at_lookup; refine wpList_lookI _ rfl _ _ 109 rfl 3 106 keyI mapIS 0 (zeroS _) _ _ _ _ rfl hM2 _ rfl hkv ?_; simp only [eS])
   go_roundw
   case rel => exact ⟨k + 1, by omega, by go_num, by rw [HS.out]; exact congrArg _ HR.out, hb⟩
   case measure => simp [intOf]; omega
  ·have hk2 : k = xs.length := by omega
   subst hk2
   rw [List.take_length] at *
   have CW := hid (fun wx => wo_any (rivS Fm xs) (i : Int) wx hset)
   go_wp2_with fail
   refine (CW.out _).mono ?_
   rintro e w1 ⟨rfl, rfl⟩
   go_wp2_with fail
   go_ret
   exact ⟨rfl, hb⟩
end
end

section
open Go.RowKit
theorem mayop_any (wr : Bool) (key val : Int) (w : World) :
  Calls Tryz.prog 130 #[.agg #[.bool wr, .int .i64 key, .int .i64 val]] w fun e w' => e = .returned (.bool (mayO ⟨wr, key, val⟩)) ∧ Below w.heap.size w w' := by
 have hi : mayO ⟨wr, key, val⟩ = true ↔ (0 ≤ key ∧ key < 64) ∧ (0 ≤ val ∧ val ≤ 2147483647) ∧ (wr = true → val ≠ 0) := mayO_iff ⟨wr, key, val⟩
 have hb := box_below w (.cells #[.bool wr, .int .i64 key, .int .i64 val] 79)
 have NO : Hid (¬ ((0 ≤ key ∧ key < 64) ∧ (0 ≤ val ∧ val ≤ 2147483647) ∧ (wr = true → val ≠ 0)) → false = mayO ⟨wr, key, val⟩) := hid (fun h => by
  cases hm : mayO ⟨wr, key, val⟩
  ·rfl
  ·exact absurd (hi.1 hm) h)
 by_cases d1 : key < 0
 ·have H := hid (NO.out (by omega))
  go_enter Tryz.func130, Tryz.ntmps130
  go_wp2_with fail
  go_ret
  exact ⟨ret_b H.out, hb⟩
 by_cases d2 : (63 : Int) < key
 ·have H := hid (NO.out (by omega))
  go_enter Tryz.func130, Tryz.ntmps130
  go_wp2_with fail
  go_ret
  exact ⟨ret_b H.out, hb⟩
 by_cases d3 : val < 0
 ·have H := hid (NO.out (by omega))
  go_enter Tryz.func130, Tryz.ntmps130
  go_wp2_with fail
  go_ret
  exact ⟨ret_b H.out, hb⟩
 by_cases d4 : (2147483647 : Int) < val
 ·have H := hid (NO.out (by omega))
  go_enter Tryz.func130, Tryz.ntmps130
  go_wp2_with fail
  go_ret
  exact ⟨ret_b H.out, hb⟩
 cases wr
 ·have H : Hid (true = mayO ⟨false, key, val⟩) := hid (hi.2 ⟨by omega, by omega, fun h => by cases h⟩).symm
  clear hi NO
  go_enter Tryz.func130, Tryz.ntmps130
  go_wp2_with fail
  go_ret
  exact ⟨ret_b H.out, hb⟩
 ·by_cases d5 : val = 0
  ·have H := hid (NO.out (fun h => h.2.2 rfl d5))
   subst d5
   clear hi NO
   go_enter Tryz.func130, Tryz.ntmps130
   go_wp2_with fail
   go_ret
   exact ⟨ret_b H.out, hb⟩
  ·have H : Hid (true = mayO ⟨true, key, val⟩) := hid (hi.2 ⟨by omega, by omega, fun _ => d5⟩).symm
   have d6 : (val != 0) = true := by simpa using d5
   clear hi NO d5
   go_enter Tryz.func130, Tryz.ntmps130
   go_wp2_with fail
   go_ret
   exact ⟨ret_b H.out, hb⟩
theorem maytxn_any (s b c : Int) (va : Value) (l : List OpV) (w : World) (ha : Ops w va l) :
  Calls Tryz.prog 80 #[.agg #[.int .i64 s, .int .i64 b, .int .i64 c, va]] w fun e w' => e = .returned (.bool (mayT s b c l)) ∧ Below w.heap.size w w' := by
 obtain ⟨ao, cap, rfl, hal⟩ := ha.form
 have hb0 := (Below.refl w.heap.size w).alloc (Nat.le_refl _) (.cells #[.int .i64 s, .int .i64 b, .int .i64 c, .slice ao l.length cap] 83)
 have hA0 := At.new w (.cells #[.int .i64 s, .int .i64 b, .int .i64 c, .slice ao l.length cap] 83)
 have NO : Hid (¬ (0 ≤ s ∧ s < 64 ∧ 0 ≤ b ∧ b < c ∧ c ≤ 2147483647 ∧ 1 ≤ l.length ∧ l.length ≤ 64) → false = mayT s b c l) := hid (fun h => (mayT_no h).symm)
 by_cases d1 : s < 0
 ·have H := hid (NO.out (by omega))
  go_enter Tryz.func80, Tryz.ntmps80
  go_wp2_with fail
  go_ret
  exact ⟨ret_b H.out, hb0⟩
 by_cases d2 : (63 : Int) < s
 ·have H := hid (NO.out (by omega))
  go_enter Tryz.func80, Tryz.ntmps80
  go_wp2_with fail
  go_ret
  exact ⟨ret_b H.out, hb0⟩
 by_cases d3 : b < 0
 ·have H := hid (NO.out (by omega))
  go_enter Tryz.func80, Tryz.ntmps80
  go_wp2_with fail
  go_ret
  exact ⟨ret_b H.out, hb0⟩
 by_cases d4 : c ≤ b
 ·have H := hid (NO.out (by omega))
  go_enter Tryz.func80, Tryz.ntmps80
  go_wp2_with fail
  go_ret
  exact ⟨ret_b H.out, hb0⟩
 by_cases d5 : (2147483647 : Int) < c
 ·have H := hid (NO.out (by omega))
  go_enter Tryz.func80, Tryz.ntmps80
  go_wp2_with fail
  go_ret
  exact ⟨ret_b H.out, hb0⟩
 by_cases d6 : (l.length : Int) < 1
 ·have H := hid (NO.out (by omega))
  go_enter Tryz.func80, Tryz.ntmps80
  go_wp2_with fail
  go_ret
  exact ⟨ret_b H.out, hb0⟩
 by_cases d7 : (64 : Int) < (l.length : Int)
 ·have H := hid (NO.out (by omega))
  go_enter Tryz.func80, Tryz.ntmps80
  go_wp2_with fail
  go_ret
  exact ⟨ret_b H.out, hb0⟩
 have YES : Hid (mayT s b c l = allM l) := hid (mayT_yes (by omega))
 clear NO
 go_enter Tryz.func80, Tryz.ntmps80
 go_wp2_with fail
 clear d1 d2 d3 d4 d5 d6 d7
 go_loopw [3] (fun i wr => ∃ k : Nat, k ≤ l.length ∧ i = .int .i64 k ∧ allM (l.take k) = true ∧ At wr w.heap.size (.cells #[.int .i64 s, .int .i64 b, .int .i64 c, .slice ao l.length cap] 83) ∧ Below w.heap.size w wr) (fun i _ => l.length - (intOf i).toNat)
 case atStart => exact ⟨0, by omega, rfl, rfl, hA0, hb0⟩
 case round =>
  obtain ⟨k, hk, rfl, hal2, hA, hb⟩ := hrel
  have HA := hid hal2
  clear hal2 hb0 hA0
  obtain ⟨q0, q1, q2, q3⟩ := hA.cells4
  by_cases hlt : k < l.length
  ·have hki : (k : Int) < (l.length : Int) := by omega
   obtain ⟨g, o, hao, c0, c1, c2⟩ := (ha.below hb).at hlt
   cases hao
   have HS := hid (allM_succ l k hlt)
   have HNO := hid (allM_no l k hlt)
   generalize l[k] = x at *
   obtain ⟨xw, xk, xv⟩ := x
   try simp only at c0 c1 c2
   have CR := hid (mayop_any xw xk xv wr)
   generalize mayO ⟨xw, xk, xv⟩ = q at *
   go_wp2_with fail
   refine (CR.out).mono ?_
   rintro e w1 ⟨rfl, hb1⟩
   have hb2 := below_then hb hb1
   have hA1 := hA.below hb1
   clear CR q0 q1 q2 q3
   cases q
   ·have H : Hid (false = mayT s b c l) := hid (by rw [YES.out, HNO.out rfl])
    go_wp2_with fail
    go_ret
    exact ⟨ret_b H.out, hb2⟩
   ·have H : Hid (allM (l.take (k + 1)) = true) := hid (by rw [HS.out, HA.out]; rfl)
    go_wp2_with fail
    go_roundw
    case rel => exact ⟨k + 1, by omega, by go_num, H.out, hA1, hb2⟩
    case measure => simp [intOf]; omega
  ·have hkl : k = l.length := by omega
   have H : Hid (true = mayT s b c l) := hid (by have := HA.out; rw [hkl, List.take_length] at this; rw [YES.out, this])
   go_wp2_with fail
   go_ret
   exact ⟨ret_b H.out, hb⟩
def tmO (x : Int) (l : List OpV) : Nat := (wv l).count x
def tmH (x : Int) (h : List TxnV) : Nat := (wvH h).count x
theorem tmO_succ (x : Int) (l : List OpV) (k : Nat) (hk : k < l.length) : tmO x (l.take (k + 1)) = tmO x (l.take k) + (if l[k].wr = true ∧ l[k].val = x then 1 else 0) := by
 unfold tmO
 rw [take_snoc l k hk, wv_snoc, List.count_append]
 cases hw : l[k].wr
 ·simp
 ·by_cases e : l[k].val = x <;> simp [e]
theorem tmH_succ (x : Int) (h : List TxnV) (k : Nat) (hk : k < h.length) : tmH x (h.take (k + 1)) = tmH x (h.take k) + tmO x h[k].l := by
 unfold tmH tmO; rw [wvH_succ h k hk, List.count_append]
theorem tmO_le (x : Int) (l : List OpV) (k : Nat) : tmO x (l.take k) ≤ k := by
 unfold tmO
 have h1 := List.count_le_length (a := x) (l := wv (l.take k))
 have h2 := wv_len (l.take k)
 rw [List.length_take] at h2
 omega
theorem tmH_le (x : Int) (h : List TxnV) : tmH x h ≤ opsN h := by
 unfold tmH
 have h1 := List.count_le_length (a := x) (l := wvH h)
 have h2 : (wvH h).length ≤ opsN h := by
  unfold wvH opsN
  rw [List.length_flatMap]
  clear h1
  induction h with
  | nil => simp
  | cons t h ih =>
   have := wv_len t.l
   simp only [List.map_cons, List.sum_cons]
   omega
 omega
theorem times_any (va : Value) (h : List TxnV) (x : Int) (w : World) (hT : Txns w va h) (hn : opsN h ≤ 100000) :
  Calls Tryz.prog 81 #[va, .int .i64 x] w fun e w' => e = .returned (.int .i64 (tmH x h)) ∧ Below w.heap.size w w' := by
 obtain ⟨ao, cap, rfl, hal⟩ := hT.form
 go_enter Tryz.func81, Tryz.ntmps81
 go_wp2_with fail
 go_loopw [5, 6] (fun n i wr => ∃ k : Nat, k ≤ h.length ∧ i = .int .i64 k ∧ n = .int .i64 (tmH x (h.take k)) ∧ w = wr) (fun _ i _ => h.length - (intOf i).toNat)
 case atStart => exact ⟨0, by omega, rfl, by simp [tmH, wvH], rfl⟩
 case round =>
  obtain ⟨k, hk, rfl, rfl, rfl⟩ := hrel
  by_cases hlt : k < h.length
  ·have hki : (k : Int) < (h.length : Int) := by omega
   obtain ⟨g, o, hao, c0, c1, c2, c3⟩ := hT.at hlt
   cases hao
   have HS := hid (tmH_succ x h k hlt)
   have hle1 := tmH_le x (h.take k)
   have hle2 := opsN_le h k
   have hle3 := opsN_at h k hlt
   obtain ⟨ai, capi, hv, hli⟩ := (hT.ops hlt).form
   have hO := hT.ops hlt
   rw [hv] at c3 hO
   generalize h[k].l = l at *
   generalize tmH x (h.take k) = m at *
   clear hv c0 c1 c2 hT
   go_wp2_with fail
   go_loopw [5, 7] (fun n i wx => ∃ j : Nat, j ≤ l.length ∧ i = .int .i64 j ∧ n = .int .i64 ((m + tmO x (l.take j) : Nat)) ∧ w = wx) (fun _ i _ => l.length - (intOf i).toNat)
   case atStart => exact ⟨0, by omega, rfl, by simp [tmO, wv], rfl⟩
   case round =>
    obtain ⟨j, hj, rfl, rfl, rfl⟩ := hrel
    have htj := tmO_le x l j
    by_cases hltj : j < l.length
    ·have hkj : (j : Int) < (l.length : Int) := by omega
     obtain ⟨g2, o2, hao2, e0, e1, e2⟩ := hO.at hltj
     cases hao2
     have HSJ := hid (tmO_succ x l j hltj)
     generalize l[j] = y at *
     obtain ⟨yw, yk, yv⟩ := y
     try simp only at e0 e1 e2
     generalize tmO x (l.take j) = n at *
     cases yw with
     | false =>
      have H : Hid (tmO x (l.take (j + 1)) = n) := hid (by rw [HSJ.out]; simp)
      clear HSJ
      go_wp2_with fail
      go_roundw
      case rel => exact ⟨j + 1, by omega, by go_num, by rw [H.out], by first | rfl | trivial⟩
      case measure => simp [intOf]; omega
     | true =>
      by_cases hx : yv = x
      ·have H : Hid (tmO x (l.take (j + 1)) = n + 1) := hid (by rw [HSJ.out]; simp [hx])
       subst hx
       clear HSJ
       go_wp2_with fail
       go_roundw
       case rel => exact ⟨j + 1, by omega, by go_num, by rw [H.out]; go_num, by first | rfl | trivial⟩
       case measure => simp [intOf]; omega
      ·have H : Hid (tmO x (l.take (j + 1)) = n) := hid (by rw [HSJ.out]; simp [hx])
       have hx' : (yv == x) = false := by simpa using hx
       clear HSJ hx
       go_wp2_with fail
       go_roundw
       case rel => exact ⟨j + 1, by omega, by go_num, by rw [H.out], by first | rfl | trivial⟩
       case measure => simp [intOf]; omega
    ·have hj2 : j = l.length := by omega
     subst hj2
     have H : Hid (tmH x (h.take (k + 1)) = m + tmO x (l.take l.length)) := hid (by rw [HS.out, List.take_length])
     generalize tmO x (l.take l.length) = n at *
     go_wp2_with fail
     go_roundw
     case rel => exact ⟨k + 1, by omega, by go_num, by rw [H.out], by first | rfl | trivial⟩
     case measure => simp [intOf]; omega
  ·have hkl : k = h.length := by omega
   subst hkl
   have H : Hid ((tmH x (h.take h.length) : Int) = tmH x h) := hid (by rw [List.take_length])
   generalize tmH x (h.take h.length) = n at *
   go_wp2_with fail
   go_ret
   exact ⟨ret_int H.out, Below.refl _ _⟩
end

section
open Go.RowKit
def isWr (key x : Int) (o : OpV) : Bool := o.wr && (o.key == key && o.val == x)
def wrI (key x : Int) (h : List TxnV) : Int := match h.findIdx? (fun t => t.l.any (isWr key x)) with
 | some i => i
 | none => -1
theorem wrI_hit {key x : Int} {h : List TxnV} {k j : Nat} (hk : k < h.length) (hj : j < h[k].l.length) (hn : ∀ i, ∀ hi : i < k, (h[i]'(by omega)).l.any (isWr key x) = false) (hh : isWr key x h[k].l[j] = true) : wrI key x h = k := by
 unfold wrI
 have : h.findIdx? (fun t => t.l.any (isWr key x)) = some k := by
  rw [List.findIdx?_eq_some_iff_getElem]
  exact ⟨hk, List.any_eq_true.2 ⟨_, List.getElem_mem hj, hh⟩, fun i hi => by rw [hn i hi]; simp⟩
 rw [this]
theorem wrI_none {key x : Int} {h : List TxnV} (hn : ∀ i, ∀ hi : i < h.length, h[i].l.any (isWr key x) = false) : wrI key x h = -1 := by
 unfold wrI
 have : h.findIdx? (fun t => t.l.any (isWr key x)) = none := by
  rw [List.findIdx?_eq_none_iff]
  intro t ht
  obtain ⟨i, hi, rfl⟩ := List.getElem_of_mem ht
  exact hn i hi
 rw [this]
theorem wrI_nonneg {key x : Int} {h : List TxnV} : wrI key x h < 0 ↔ ∀ t ∈ h, ∀ o ∈ t.l, isWr key x o = false := by
 unfold wrI
 cases hf : h.findIdx? (fun t => t.l.any (isWr key x)) with
 | none =>
  rw [List.findIdx?_eq_none_iff] at hf
  simp only [Int.reduceNeg, Int.reduceLT, true_iff]
  intro t ht o ho
  have := List.any_eq_false.1 (hf t ht) o ho
  simpa using this
 | some i =>
  rw [List.findIdx?_eq_some_iff_getElem] at hf
  obtain ⟨hi, h1, _⟩ := hf
  constructor
  ·intro h2; simp only at h2; omega
  ·intro h2
   obtain ⟨o, ho, hw⟩ := List.any_eq_true.1 h1
   rw [h2 _ (List.getElem_mem hi) o ho] at hw
   cases hw
theorem writer_any (va : Value) (h : List TxnV) (key x : Int) (w : World) (hT : Txns w va h) :
  Calls Tryz.prog 82 #[va, .int .i64 key, .int .i64 x] w fun e w' => e = .returned (.int .i64 (wrI key x h)) ∧ Below w.heap.size w w' := by
 obtain ⟨ao, cap, rfl, hal⟩ := hT.form
 have HT := hid (fun wx (hx : Below w.heap.size w wx) => hT.below hx)
 have HHIT : Hid (∀ k j, ∀ hk : k < h.length, ∀ hj : j < h[k].l.length, (∀ i, ∀ hi : i < k, (h[i]'(by omega)).l.any (isWr key x) = false) → isWr key x h[k].l[j] = true → (k : Int) = wrI key x h) := hid (fun k j hk hj hn hh => (wrI_hit hk hj hn hh).symm)
 have HNONE : Hid ((∀ i, ∀ hi : i < h.length, h[i].l.any (isWr key x) = false) → (-1 : Int) = wrI key x h) := hid (fun hn => (wrI_none hn).symm)
 clear hT
 go_enter Tryz.func82, Tryz.ntmps82
 go_wp2_with fail
 go_loopw [7] (fun i wr => ∃ k : Nat, k ≤ h.length ∧ i = .int .i64 k ∧ (∀ i, ∀ _ : i < k, ∀ hi2 : i < h.length, h[i].l.any (isWr key x) = false) ∧ Below w.heap.size w wr) (fun i _ => h.length - (intOf i).toNat)
 case atStart => exact ⟨0, by omega, rfl, by omega, Below.refl _ _⟩
 case round =>
  obtain ⟨k, hk, rfl, hN, hb⟩ := hrel
  have HN := hid hN
  clear hN
  by_cases hlt : k < h.length
  ·have hki : (k : Int) < (h.length : Int) := by omega
   obtain ⟨g, o, hao, c0, c1, c2, c3⟩ := (HT.out _ hb).at hlt
   cases hao
   have HOP := hid (fun wx (hx : Below w.heap.size w wx) => (HT.out wx hx).ops hlt)
   have HAT := hid (fun wx (hx : Below w.heap.size w wx) => (HT.out wx hx).at hlt)
   have HHK := hid (fun j hj hh => HHIT.out k j hlt hj (fun i hi => HN.out i hi (by omega)) hh)
   have HLK : Hid (h[k].l.any (isWr key x) = false → ∀ i, ∀ _ : i < k + 1, ∀ hi2 : i < h.length, h[i].l.any (isWr key x) = false) := hid (fun hh i hi hi2 => by
    rcases Nat.lt_or_eq_of_le (Nat.le_of_lt_succ hi) with h1 | rfl
    ·exact HN.out i h1 hi2
    ·exact hh)
   obtain ⟨ai, capi, hv, hli⟩ := ((HT.out _ hb).ops hlt).form
   rw [hv] at HOP c3 HAT
   generalize h[k].l = l at *
   clear hv c0 c1 c2 c3 HHIT HNONE
   go_wp2_with fail
   go_loopw [8] (fun i wx => ∃ j : Nat, j ≤ l.length ∧ i = .int .i64 j ∧ ((l.take j).any (isWr key x) = false) ∧ Below w.heap.size w wx) (fun i _ => l.length - (intOf i).toNat)
   case atStart => exact ⟨0, by omega, rfl, rfl, hb⟩
   case round =>
    obtain ⟨j, hj, rfl, hA, hb2⟩ := hrel
    have HA := hid hA
    clear hA hb
    obtain ⟨_, _, hao, c0, c1, c2, c3⟩ := HAT.out _ hb2
    cases hao
    clear c0 c1 c2
    by_cases hltj : j < l.length
    ·have hkj : (j : Int) < (l.length : Int) := by omega
     obtain ⟨g2, o2, hao2, e0, e1, e2⟩ := (HOP.out _ hb2).at hltj
     cases hao2
     have HS : Hid ((l.take (j + 1)).any (isWr key x) = ((l.take j).any (isWr key x) || isWr key x l[j])) := hid (by rw [take_snoc l j hltj, List.any_append]; simp)
     have HH := hid (HHK.out j hltj)
     generalize l[j] = y at *
     obtain ⟨yw, yk, yv⟩ := y
     try simp only at e0 e1 e2
     have hb3 := hb2.alloc hb2.size (.cells #[.bool yw, .int .i64 yk, .int .i64 yv] 79)
     clear HHK
     cases yw with
     | false =>
      have H : Hid ((l.take (j + 1)).any (isWr key x) = false) := hid (by rw [HS.out, HA.out]; rfl)
      clear HS HH
      go_wp2_with fail
      go_roundw
      case rel => exact ⟨j + 1, by omega, by go_num, H.out, hb3⟩
      case measure => simp [intOf]; omega
     | true =>
      by_cases hyk : yk = key
      ·subst hyk
       by_cases hyv : yv = x
       ·have H := hid (HH.out (by subst hyv; unfold isWr; simp))
        subst hyv
        clear HS HH
        go_wp2_with fail
        go_ret
        exact ⟨ret_int H.out, hb3⟩
       ·have H : Hid ((l.take (j + 1)).any (isWr yk x) = false) := hid (by rw [HS.out, HA.out]; unfold isWr; simp [hyv])
        have hyv' : (yv == x) = false := by simpa using hyv
        clear HS HH hyv
        go_wp2_with fail
        go_roundw
        case rel => exact ⟨j + 1, by omega, by go_num, H.out, hb3⟩
        case measure => simp [intOf]; omega
      ·have H : Hid ((l.take (j + 1)).any (isWr key x) = false) := hid (by rw [HS.out, HA.out]; unfold isWr; simp [hyk])
       have hyk' : (yk == key) = false := by simpa using hyk
       clear HS HH hyk
       go_wp2_with fail
       go_roundw
       case rel => exact ⟨j + 1, by omega, by go_num, H.out, hb3⟩
       case measure => simp [intOf]; omega
    ·have hj2 : j = l.length := by omega
     subst hj2
     have H := hid (HLK.out (by have := HA.out; rwa [List.take_length] at this))
     go_wp2_with fail
     go_roundw
     case rel => exact ⟨k + 1, by omega, by go_num, H.out, hb2⟩
     case measure => simp [intOf]; omega
  ·have hkl : k = h.length := by omega
   subst hkl
   have H := hid (HNONE.out (fun i hi => HN.out i hi hi))
   clear HHIT HNONE
   go_wp2_with fail
   go_ret
   exact ⟨ret_int H.out, hb⟩
end

section
open Go.RowKit
def apartB (a t : TxnV) : Bool := (a.b != t.b && (a.b != t.c && (a.c != t.b && a.c != t.c))) && !(a.s == t.s && decide (t.b < a.c))
def opR (h : List TxnV) (o : OpV) : Bool := if o.wr then tmH o.val h == 1 else o.val == 0 || !decide (wrI o.key o.val h < 0)
def rowR (h : List TxnV) (k : Nat) (t : TxnV) : Bool := mayT t.s t.b t.c t.l && ((h.take k).all (fun a => apartB a t) && t.l.all (opR h))
def mayRef (h : List TxnV) : Bool := (List.range h.length).all fun k => match h[k]? with
 | some t => rowR h k t
 | none => true
theorem mayRef_no {h : List TxnV} {k : Nat} (hk : k < h.length) (hn : rowR h k h[k] = false) : mayRef h = false := by
 unfold mayRef
 rw [List.all_eq_false]
 exact ⟨k, List.mem_range.2 hk, by rw [List.getElem?_eq_getElem hk]; simp [hn]⟩
theorem mayRef_yes {h : List TxnV} (hn : ∀ k, ∀ hk : k < h.length, rowR h k h[k] = true) : mayRef h = true := by
 unfold mayRef
 rw [List.all_eq_true]
 intro k hk
 have := List.mem_range.1 hk
 rw [List.getElem?_eq_getElem this]; exact hn k this
theorem rowR_a {h : List TxnV} {k : Nat} {t : TxnV} (hn : mayT t.s t.b t.c t.l = false) : rowR h k t = false := by unfold rowR; rw [hn]; rfl
theorem rowR_b {h : List TxnV} {k : Nat} {t : TxnV} {j : Nat} (hj : j < k) (hk : k ≤ h.length) (hn : apartB (h[j]'(by omega)) t = false) : rowR h k t = false := by
 unfold rowR
 have : (h.take k).all (fun a => apartB a t) = false := List.all_eq_false.2 ⟨h[j]'(by omega), by rw [List.mem_take_iff_getElem]; exact ⟨j, by omega, rfl⟩, by simp [hn]⟩
 rw [this]; simp
theorem rowR_c {h : List TxnV} {k : Nat} {t : TxnV} {j : Nat} (hj : j < t.l.length) (hn : opR h t.l[j] = false) : rowR h k t = false := by
 unfold rowR
 have : t.l.all (opR h) = false := List.all_eq_false.2 ⟨t.l[j], List.getElem_mem hj, by simp [hn]⟩
 rw [this]; simp
theorem rmay_any (va : Value) (h : List TxnV) (w : World) (hT : Txns w va h) (hn : opsN h ≤ 100000) :
  Calls Tryz.prog 38 #[va] w fun e w' => e = .returned (.bool (mayRef h)) ∧ Below w.heap.size w w' := by
 obtain ⟨ao, cap, rfl, hal⟩ := hT.form
 have HT := hid (fun wx (hx : Below w.heap.size w wx) => hT.below hx)
 have HNO : Hid (∀ k, ∀ hk : k < h.length, rowR h k h[k] = false → false = mayRef h) := hid (fun k hk hh => (mayRef_no hk hh).symm)
 have HTM : Hid (∀ x wx, Below w.heap.size w wx → Calls Tryz.prog 81 #[.slice ao h.length cap, .int .i64 x] wx fun e w' => e = .returned (.int .i64 (tmH x h)) ∧ Below wx.heap.size wx w') := hid (fun x wx hx => times_any _ h x wx (hT.below hx) hn)
 have HWR : Hid (∀ key x wx, Below w.heap.size w wx → Calls Tryz.prog 82 #[.slice ao h.length cap, .int .i64 key, .int .i64 x] wx fun e w' => e = .returned (.int .i64 (wrI key x h)) ∧ Below wx.heap.size wx w') := hid (fun key x wx hx => writer_any _ h key x wx (hT.below hx))
 clear hT
 go_enter Tryz.func38, Tryz.ntmps38
 go_wp2_with fail
 go_loopw [3] (fun i wr => ∃ k : Nat, k ≤ h.length ∧ i = .int .i64 k ∧ (∀ j, ∀ _ : j < k, ∀ hj : j < h.length, rowR h j h[j] = true) ∧ Below w.heap.size w wr) (fun i _ => h.length - (intOf i).toNat)
 case atStart => exact ⟨0, by omega, rfl, by omega, Below.refl _ _⟩
 case round =>
  obtain ⟨k, hk, rfl, hN, hb⟩ := hrel
  have HN := hid hN
  clear hN
  by_cases hlt : k < h.length
  ·have hki : (k : Int) < (h.length : Int) := by omega
   obtain ⟨g, o, hao, c0, c1, c2, c3⟩ := (HT.out _ hb).at hlt
   cases hao
   have HOP := hid (fun wx (hx : Below w.heap.size w wx) => (HT.out wx hx).ops hlt)
   have HAT := hid (fun wx (hx : Below w.heap.size w wx) => (HT.out wx hx).at hlt)
   have HAJ := hid (fun wx (hx : Below w.heap.size w wx) j (hj : j < h.length) => (HT.out wx hx).at hj)
   have HNK := hid (HNO.out k hlt)
   have HLK : Hid (rowR h k h[k] = true → ∀ i, ∀ _ : i < k + 1, ∀ hi2 : i < h.length, rowR h i h[i] = true) := hid (fun hh i hi hi2 => by
    rcases Nat.lt_or_eq_of_le (Nat.le_of_lt_succ hi) with h1 | rfl
    ·exact HN.out i h1 hi2
    ·exact hh)
   have HJV : Hid (∀ wx, Below w.heap.size w wx → ∀ j, ∀ hj : j < h.length, ∃ a' m' c', (h[j]).v = .slice a' m' c') := hid (fun wx hx j hj => by
    obtain ⟨a', c', hv', _⟩ := ((HT.out wx hx).ops hj).form
    exact ⟨a', _, c', hv'⟩)
   generalize ht : h[k] = t at *
   have HTK := hid ht
   clear ht
   obtain ⟨s, b, c, v, l⟩ := t
   simp only at c0 c1 c2 c3 HOP HAT
   obtain ⟨ai, capi, rfl, hli⟩ := (HOP.out _ hb).form
   have CM := hid (maytxn_any s b c _ l wr (HOP.out _ hb))
   clear HN
   cases hm : mayT s b c l
   ·have H := hid (HNK.out (rowR_a hm))
    rw [hm] at CM
    clear hm HNK HLK HNO
    go_wp2_with fail
    refine (CM.out).mono ?_
    rintro e w1 ⟨rfl, hb1⟩
    have hb2 := below_then hb hb1
    go_wp2_with fail
    go_ret
    exact ⟨ret_b H.out, hb2⟩
   rw [hm] at CM
   have HM := hid hm
   clear hm
   go_wp2_with fail
   refine (CM.out).mono ?_
   rintro e w1 ⟨rfl, hb1⟩
   have hb2 := below_then hb hb1
   clear CM hb hb1 c0 c1 c2 c3
   go_wp2_with fail
   go_loopw [4] (fun i wx => ∃ j : Nat, j ≤ k ∧ i = .int .i64 j ∧ ((h.take j).all (fun a => apartB a ⟨s, b, c, .slice ai l.length capi, l⟩) = true) ∧ Below w.heap.size w wx) (fun i _ => k - (intOf i).toNat)
   case atStart => exact ⟨0, by omega, rfl, rfl, hb2⟩
   case round =>
    obtain ⟨j, hj, rfl, hA, hb3⟩ := hrel
    have HA := hid hA
    clear hA hb2
    by_cases hltj : j < k
    ·have hkj : (j : Int) < (k : Int) := by omega
     have hjl : j < h.length := by omega
     have hjl' : (j : Int) < (h.length : Int) := by omega
     obtain ⟨_, _, hao, c0, c1, c2, c3⟩ := HAJ.out _ hb3 j hjl
     cases hao
     have HS : Hid ((h.take (j + 1)).all (fun a => apartB a ⟨s, b, c, .slice ai l.length capi, l⟩) = ((h.take j).all (fun a => apartB a ⟨s, b, c, .slice ai l.length capi, l⟩) && apartB h[j] ⟨s, b, c, .slice ai l.length capi, l⟩)) := hid (by rw [List.take_succ_eq_append_getElem hjl, List.all_append]; simp)
     have HB := hid (fun hh => HNK.out (rowR_b hltj hk hh))
     obtain ⟨a1, m1, cap1, hv1⟩ := HJV.out _ hb3 j hjl
     rw [hv1] at c3
     generalize h[j] = u at *
     obtain ⟨us, ub, uc, uv, ul⟩ := u
     simp only at c0 c1 c2 hv1
     subst hv1
     have hb4 := hb3.alloc hb3.size (.cells #[.int .i64 us, .int .i64 ub, .int .i64 uc, .slice a1 m1 cap1] 83)
     have hb5 := hb4.alloc hb4.size (.cells #[.int .i64 s, .int .i64 b, .int .i64 c, .slice ai l.length capi] 83)
     obtain ⟨_, _, hao, e0, e1, e2, e3⟩ := HAT.out _ hb4
     cases hao
     have HAP : Hid (apartB ⟨us, ub, uc, .slice a1 m1 cap1, ul⟩ ⟨s, b, c, .slice ai l.length capi, l⟩ = ((ub != b && (ub != c && (uc != b && uc != c))) && !(us == s && decide (b < uc)))) := hid rfl
     generalize apartB ⟨us, ub, uc, .slice a1 m1 cap1, ul⟩ ⟨s, b, c, .slice ai l.length capi, l⟩ = q at *
     cases b1 : ub == b
     case true =>
      have H := hid (HB.out (by rw [HAP.out]; simp [bne, b1]))
      clear HLK HNO HNK HB HAP HS
      go_wp2_with fail
      go_ret
      exact ⟨ret_b H.out, hb5⟩
     cases b2 : ub == c
     case true =>
      have H := hid (HB.out (by rw [HAP.out]; simp [bne, b1, b2]))
      clear HLK HNO HNK HB HAP HS
      go_wp2_with fail
      go_ret
      exact ⟨ret_b H.out, hb5⟩
     cases b3 : uc == b
     case true =>
      have H := hid (HB.out (by rw [HAP.out]; simp [bne, b1, b2, b3]))
      clear HLK HNO HNK HB HAP HS
      go_wp2_with fail
      go_ret
      exact ⟨ret_b H.out, hb5⟩
     cases b4 : uc == c
     case true =>
      have H := hid (HB.out (by rw [HAP.out]; simp [bne, b1, b2, b3, b4]))
      clear HLK HNO HNK HB HAP HS
      go_wp2_with fail
      go_ret
      exact ⟨ret_b H.out, hb5⟩
     cases b5 : us == s
     case false =>
      have H : Hid ((h.take (j + 1)).all (fun a => apartB a ⟨s, b, c, .slice ai l.length capi, l⟩) = true) := hid (by rw [HS.out, HA.out, HAP.out]; simp [bne, b1, b2, b3, b4, b5])
      clear HB HAP HS
      go_wp2_with fail
      go_roundw
      case rel => exact ⟨j + 1, by omega, by go_num, H.out, hb5⟩
      case measure => simp [intOf]; omega
     by_cases d6 : b < uc
     ·have H := hid (HB.out (by rw [HAP.out]; simp [bne, b1, b2, b3, b4, b5, d6]))
      clear HLK HNO HNK HB HAP HS
      go_wp2_with fail
      go_ret
      exact ⟨ret_b H.out, hb5⟩
     ·have H : Hid ((h.take (j + 1)).all (fun a => apartB a ⟨s, b, c, .slice ai l.length capi, l⟩) = true) := hid (by rw [HS.out, HA.out, HAP.out]; simp [bne, b1, b2, b3, b4, b5, d6])
      clear HB HAP HS
      go_wp2_with fail
      go_roundw
      case rel => exact ⟨j + 1, by omega, by go_num, H.out, hb5⟩
      case measure => simp [intOf]; omega
    ·have hjk : j = k := by omega
     subst hjk
     have HRO : Hid (rowR h j ⟨s, b, c, .slice ai l.length capi, l⟩ = l.all (opR h)) := hid (by unfold rowR; rw [HM.out, HA.out]; rfl)
     have HOO := hid (fun i hi hh => HNK.out (rowR_c (j := i) hi hh))
     clear HNK HM HA HJV HAJ
     go_wp2_with fail
     go_loopw [7] (fun i wx => ∃ m : Nat, m ≤ l.length ∧ i = .int .i64 m ∧ (l.take m).all (opR h) = true ∧ Below w.heap.size w wx) (fun i _ => l.length - (intOf i).toNat)
     case atStart => exact ⟨0, by omega, rfl, rfl, hb3⟩
     case round =>
      obtain ⟨m, hm, rfl, hA, hb4⟩ := hrel
      have HA := hid hA
      clear hA hb3
      obtain ⟨_, _, hao, c0, c1, c2, c3⟩ := HAT.out _ hb4
      cases hao
      clear c0 c1 c2
      by_cases hltm : m < l.length
      ·have hkm : (m : Int) < (l.length : Int) := by omega
       obtain ⟨g2, o2, hao2, e0, e1, e2⟩ := (HOP.out _ hb4).at hltm
       cases hao2
       have HS : Hid ((l.take (m + 1)).all (opR h) = ((l.take m).all (opR h) && opR h l[m])) := hid (by rw [take_snoc l m hltm, List.all_append]; simp)
       have HB := hid (HOO.out m hltm)
       generalize l[m] = y at *
       obtain ⟨yw, yk, yv⟩ := y
       try simp only at e0 e1 e2
       have hb5 := hb4.alloc hb4.size (.cells #[.bool yw, .int .i64 yk, .int .i64 yv] 79)
       have HOR : Hid (opR h ⟨yw, yk, yv⟩ = if yw then tmH yv h == 1 else yv == 0 || !decide (wrI yk yv h < 0)) := hid rfl
       generalize opR h ⟨yw, yk, yv⟩ = q at *
       cases yw with
       | true =>
        simp only [if_true] at HOR
        have CT := hid (HTM.out yv _ hb5)
        generalize tmH yv h = n at *
        cases hn1 : n == 1
        ·have H := hid (HB.out (by rw [HOR.out, hn1]))
         have hn2 : ((n : Int) != 1) = true := by simp at hn1 ⊢; omega
         clear HLK HNO HOO HB HOR HS hn1
         go_wp2_with fail
         refine (CT.out).mono ?_
         rintro e w6 ⟨rfl, hb6⟩
         have hb7 := below_then hb5 hb6
         go_wp2_with fail
         go_ret
         exact ⟨ret_b H.out, hb7⟩
        ·have H : Hid ((l.take (m + 1)).all (opR h) = true) := hid (by rw [HS.out, HA.out, HOR.out, hn1]; rfl)
         obtain rfl : n = 1 := by simpa using hn1
         change Hid (Calls _ _ _ _ fun e w' => e = .returned (.int .i64 1) ∧ _) at CT
         clear HB HOR HS hn1
         obtain ⟨x0, x1, x2⟩ := opBlock wr (.bool true) (.int .i64 yk) (.int .i64 yv) 79
         go_wp2_with fail
         refine (CT.out).mono ?_
         rintro e w6 ⟨rfl, hb6⟩
         have hb7 := below_then hb5 hb6
         have z0 := (hb6.cell (p := ⟨wr.heap.size, 0, none⟩) (block_lt x0)).trans x0
         have z1 := (hb6.cell (p := ⟨wr.heap.size, 1, none⟩) (block_lt x1)).trans x1
         have z2 := (hb6.cell (p := ⟨wr.heap.size, 2, none⟩) (block_lt x2)).trans x2
         clear x0 x1 x2
         go_wp2_with fail
         go_roundw
         case rel => exact ⟨m + 1, by omega, by go_num, H.out, hb7⟩
         case measure => simp [intOf]; omega
       | false =>
        simp only [Bool.false_eq_true, if_false] at HOR
        cases hz : yv == 0
        ·have hz2 : (yv != 0) = true := by simp [bne, hz]
         have CW := hid (HWR.out yk yv _ hb5)
         generalize wrI yk yv h = n at *
         by_cases hneg : n < 0
         ·have H := hid (HB.out (by rw [HOR.out, hz]; simp [hneg]))
          clear HLK HNO HOO HB HOR HS
          go_wp2_with fail
          refine (CW.out).mono ?_
          rintro e w6 ⟨rfl, hb6⟩
          have hb7 := below_then hb5 hb6
          go_wp2_with fail
          go_ret
          exact ⟨ret_b H.out, hb7⟩
         ·have H : Hid ((l.take (m + 1)).all (opR h) = true) := hid (by rw [HS.out, HA.out, HOR.out, hz]; simp [hneg])
          clear HB HOR HS
          go_wp2_with fail
          refine (CW.out).mono ?_
          rintro e w6 ⟨rfl, hb6⟩
          have hb7 := below_then hb5 hb6
          go_wp2_with fail
          go_roundw
          case rel => exact ⟨m + 1, by omega, by go_num, H.out, hb7⟩
          case measure => simp [intOf]; omega
        ·have hz2 : (yv != 0) = false := by simp [bne, hz]
         have H : Hid ((l.take (m + 1)).all (opR h) = true) := hid (by rw [HS.out, HA.out, HOR.out, hz]; rfl)
         clear HB HOR HS
         go_wp2_with fail
         go_roundw
         case rel => exact ⟨m + 1, by omega, by go_num, H.out, hb5⟩
         case measure => simp [intOf]; omega
      ·have hm2 : m = l.length := by omega
       subst hm2
       have H := hid (HLK.out (by rw [HRO.out]; have := HA.out; rwa [List.take_length] at this))
       go_wp2_with fail
       go_roundw
       case rel => exact ⟨j + 1, by omega, by go_num, H.out, hb4⟩
       case measure => simp [intOf]; omega
  ·have hkl : k = h.length := by omega
   subst hkl
   have H : Hid (true = mayRef h) := hid (mayRef_yes (fun k hk => HN.out k hk hk)).symm
   clear HNO HTM HWR
   go_wp2_with fail
   go_ret
   exact ⟨ret_b H.out, hb⟩
end

end Go.Proofs.YtnhkjehfmbfmmaaGreatDoor
