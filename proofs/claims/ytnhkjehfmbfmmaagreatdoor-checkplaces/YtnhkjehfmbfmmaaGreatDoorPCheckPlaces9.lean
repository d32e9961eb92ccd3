/- Walks and plain facts that the proof of the statement CheckPlaces uses, joined: CnoB CanA CanB CanC CanD CanE CanF CanG HisW OrdAG CanH CanJ VecH LevD TblD TblE TblF TblG TblJ TblH TblK VecJ VecK CanK ChkB LatA LatB LatC TblN LatD LatE LatH FueD ChkC ChkD ChkG. Conditions: each theorem's own. -/
import Derived.Shelf.SortM.Plain
import Derived.Outline
import Derived.Deep.MidRow
import Derived.Laws.BitsAllLaws
import Derived.Deep.CutRange
import Derived.Deep.AppendLies
import Derived.Deep.RegionHeld
import Derived.Test.YtnhkjehfmbfmmaaGreatDoorPCheckPlaces0
import Derived.Test.YtnhkjehfmbfmmaaGreatDoorPCheckPlaces1
import Derived.Test.YtnhkjehfmbfmmaaGreatDoorPCheckPlaces2
import Derived.Test.YtnhkjehfmbfmmaaGreatDoorPCheckPlaces3
import Derived.Test.YtnhkjehfmbfmmaaGreatDoorPCheckPlaces4
import Derived.Test.YtnhkjehfmbfmmaaGreatDoorPCheckPlaces5
import Derived.Test.YtnhkjehfmbfmmaaGreatDoorPCheckPlaces7
import Derived.Test.YtnhkjehfmbfmmaaGreatDoorPCheckPlaces8
namespace Go.Proofs.YtnhkjehfmbfmmaaGreatDoor
set_option maxHeartbeats 32000000
set_option maxRecDepth 100000
set_option linter.unusedSimpArgs false
set_option linter.unusedVariables false
open Lib (hid)
section
open Go.RowKit
theorem check_rightB {h : List TxnV} (hc : checkI h = 0) : partsB h = true ∧ valuesB h = true ∧ stampsB h = true ∧ sesB h = true := by
 unfold checkI at hc
 split at hc
 ·cases hc
 ·split at hc
  ·rename_i hr
   unfold rightB at hr
   simp only [Bool.and_eq_true] at hr
   exact ⟨hr.1, hr.2.1, hr.2.2.1, hr.2.2.2⟩
  ·cases hc
theorem may_at {h : List TxnV} (hp : partsB h = true) {t : TxnV} (ht : t ∈ h) : (0 ≤ t.s ∧ t.s < 64 ∧ 0 ≤ t.b ∧ t.b < t.c ∧ t.c ≤ 2147483647 ∧ 1 ≤ t.l.length ∧ t.l.length ≤ 64) ∧ ∀ o ∈ t.l, mayO o = true := by
 have h1 := List.all_eq_true.1 hp t ht
 unfold mayT at h1
 rw [Bool.and_eq_true, decide_eq_true_eq] at h1
 exact ⟨h1.1, fun o ho => List.all_eq_true.1 h1.2 o ho⟩
section
variable {h s c : List TxnV} {f τ κ ν : Int → Int}
end
section
variable {h c : List TxnV} {f τ κ ν : Int → Int} {π ρ : Nat → Nat}
end
section
variable {h s c : List TxnV}
end
end

section
open Go.RowKit Go.Lib Go.Sort Go.Shelf
structure TxS where
 s : Int
 b : Int
 c : Int
 ao : Option Addr
 n : Nat
 cp : Nat
 l : List OpV
instance : Inhabited TxS := ⟨⟨0, 0, 0, none, 0, 0, []⟩⟩
end

section
open Go.RowKit
def hasI (k : Nat) (t : Int) : Bool := hasT k t.toNat
theorem rl_hasI (k : Nat) (hk : k < 64) (t : Int) (w : World) (ht : 0 < t) (ht2 : t ≤ 32) : Calls Tryz.prog 77 #[.int .i64 k, .int .i64 t] w fun e w' => e = .returned (.bool (hasI k t)) ∧ w = w' := by
 obtain ⟨n, rfl⟩ := Int.eq_ofNat_of_zero_le (Int.le_of_lt ht)
 exact rl_has k n hk (by omega) (by omega) w
def clV (h16 h4 h32 h1 h2 h8 : Bool) : Int :=
 (if h1 || h32 then 1 else 0) + (if h2 || (h4 || h16) then 2 else 0) + (if h4 || h16 then 4 else 0) + (if h8 || h16 then 8 else 0) + (if h16 then 16 else 0) + (if h32 then 32 else 0)
theorem clV_eq : ∀ k : Fin 64, ((clN k.val : Nat) : Int) = clV (hasI k.val 16) (hasI k.val 4) (hasI k.val 32) (hasI k.val 1) (hasI k.val 2) (hasI k.val 8) := by decide +kernel
theorem rl_closed (k : Nat) (hk : k < 64) (w : World) : Calls Tryz.prog 75 #[.int .i64 k] w fun e w' => e = .returned (.int .i64 (clN k)) ∧ w = w' := by
 have H := clV_eq ⟨k, hk⟩
 have C := hid (rl_hasI k hk)
 simp only at H
 cases h16 : hasI k 16 <;> cases h4 : hasI k 4 <;> cases h32 : hasI k 32 <;> cases h1 : hasI k 1 <;> cases h2 : hasI k 2 <;> cases h8 : hasI k 8
 all_goals
  rw [h16, h4, h32, h1, h2, h8] at H
  have HH := hid H
  clear H
  rw [HH.out]
  clear HH
  go_enter Tryz.func75, Tryz.ntmps75
  go_wp2_with (go_at_call 77; refine (C.out _ _ (by omega) (by omega)).mono ?_; rintro e w' ⟨rfl, rfl⟩)
  go_ret
  exact ⟨rfl, rfl⟩
end

section
open Go.RowKit
def chkB (a b : Int) (k : Nat) : Bool := (List.range k).all fun i => !(hasT (askN b) (2 ^ i) && !hasT (clN (askN a)) (2 ^ i))
theorem chkB_succ (a b : Int) (k : Nat) : chkB a b (k + 1) = (chkB a b k && !(hasT (askN b) (2 ^ k) && !hasT (clN (askN a)) (2 ^ k))) := by
 unfold chkB; rw [List.range_succ, List.all_append]; simp
theorem impB_chk : ∀ a b : Fin 12, impB (a.val : Int) (b.val : Int) = chkB (a.val : Int) (b.val : Int) 6 := by decide +kernel
theorem impB_chk' {a b : Int} (ha : isLv a = true) (hb : isLv b = true) : impB a b = chkB a b 6 := by
 have h1 : 0 ≤ a ∧ a < 12 := by simpa [isLv] using ha
 have h2 : 0 ≤ b ∧ b < 12 := by simpa [isLv] using hb
 have := impB_chk ⟨a.toNat, by omega⟩ ⟨b.toNat, by omega⟩
 simp only at this
 rwa [Int.toNat_of_nonneg h1.1, Int.toNat_of_nonneg h2.1] at this
theorem chkB_no {a b : Int} {k : Nat} (hk : k < 6) (h : (!(hasT (askN b) (2 ^ k) && !hasT (clN (askN a)) (2 ^ k))) = false) : chkB a b 6 = false := by
 unfold chkB
 rw [List.all_eq_false]
 exact ⟨k, List.mem_range.2 hk, by rw [h]; simp⟩
theorem pow_six : ∀ i : Fin 6, 0 < 2 ^ i.val ∧ 2 ^ i.val ≤ 32 := by decide
theorem rimp_any (a b : Int) (w : World) : Calls Tryz.prog 32 #[.int .i64 a, .int .i64 b] w fun e w' => e = .returned (.bool (impB a b)) ∧ w = w' := by
 by_cases hin : (0 ≤ a ∧ a < 12) ∧ 0 ≤ b ∧ b < 12
 ·obtain ⟨⟨a0, a1⟩, b0, b1⟩ := hin
  have ha : isLv a = true := by simpa [isLv] using ⟨a0, a1⟩
  have hb : isLv b = true := by simpa [isLv] using ⟨b0, b1⟩
  have HI := hid (impB_chk' ha hb)
  have hal := askN_lt a
  have hbl := askN_lt b
  have hcl := clN_lt ⟨askN a, hal⟩
  simp only at hcl
  have CA := hid (fun wx => rl_asks a wx)
  have CB := hid (fun wx => rl_asks b wx)
  have CC := hid (fun wx => rl_closed (askN a) hal wx)
  have HS := hid (chkB_succ a b)
  have HN := hid (fun k => chkB_no (a := a) (b := b) (k := k))
  have CW := hid (fun t wx h1 h2 => rl_has (askN b) t hbl h1 h2 wx)
  have CH := hid (fun t wx h1 h2 => rl_has (clN (askN a)) t hcl h1 h2 wx)
  clear ha hb hal hbl hcl
  rw [HI.out]
  clear HI
  generalize clN (askN a) = hv at *
  generalize askN a = aa at *
  generalize askN b = wt at *
  have a2 : a ≤ 11 := by omega
  have b2 : b ≤ 11 := by omega
  go_enter Tryz.func32, Tryz.ntmps32
  go_wp2_with fail
  refine (CA.out _).mono ?_
  rintro e w' ⟨rfl, rfl⟩
  go_wp2_with fail
  refine (CC.out _).mono ?_
  rintro e w' ⟨rfl, rfl⟩
  go_wp2_with fail
  refine (CB.out _).mono ?_
  rintro e w' ⟨rfl, rfl⟩
  go_wp2_with fail
  go_loopw [7] (fun v wr => ∃ k t : Nat, k ≤ 6 ∧ Hid (2 ^ k = t) ∧ v = .int .i64 (t : Int) ∧ chkB a b k = true ∧ w = wr) (fun v _ => 64 - (intOf v).toNat)
  case atStart => exact ⟨0, 1, by omega, hid rfl, rfl, rfl, rfl⟩
  case round =>
   obtain ⟨k, t, hk, HT, rfl, hno, rfl⟩ := hrel
   have HNO := hid hno
   clear hno
   by_cases hlt : k < 6
   ·obtain ⟨p0, p1⟩ := pow_six ⟨k, hlt⟩
    simp only at p0 p1
    have HSk := hid (HS.out k)
    rw [HNO.out] at HSk
    have HNk := hid (HN.out k hlt)
    have HP : Hid (2 ^ (k + 1) = t * 2) := hid (by rw [Nat.pow_succ, HT.out])
    rw [HT.out] at p0 p1
    have CWk := hid (fun wx => CW.out t wx p0 p1)
    have CHk := hid (fun wx => CH.out t wx p0 p1)
    have hti : (t : Int) ≤ 32 := by omega
    rw [HT.out] at HSk HNk
    generalize hasT wt t = h1 at *
    generalize hasT hv t = h2 at *
    cases h1
    ·have HM : Hid (chkB a b (k + 1) = true) := hid (by rw [HSk.out]; rfl)
     go_wp2_with (go_at_call 77; refine (CWk.out _).mono ?_; rintro e w' ⟨rfl, rfl⟩)
     go_roundw
     case rel => exact ⟨k + 1, t * 2, by omega, HP, by go_num, HM.out, by trivial⟩
     case measure => simp [intOf]; omega
    ·cases h2
     ·have HM : Hid (false = chkB a b 6) := hid (HNk.out rfl).symm
      go_wp2_with fail
      refine (CWk.out _).mono ?_
      rintro e w' ⟨rfl, rfl⟩
      go_wp2_with fail
      refine (CHk.out _).mono ?_
      rintro e w' ⟨rfl, rfl⟩
      go_wp2_with fail
      go_ret
      exact ⟨lret_b HM.out, rfl⟩
     ·have HM : Hid (chkB a b (k + 1) = true) := hid (by rw [HSk.out]; rfl)
      go_wp2_with fail
      refine (CWk.out _).mono ?_
      rintro e w' ⟨rfl, rfl⟩
      go_wp2_with fail
      refine (CHk.out _).mono ?_
      rintro e w' ⟨rfl, rfl⟩
      go_wp2_with fail
      go_roundw
      case rel => exact ⟨k + 1, t * 2, by omega, HP, by go_num, HM.out, by trivial⟩
      case measure => simp [intOf]; omega
   ·have hk6 : k = 6 := by omega
    subst hk6
    have ht6 : t = 64 := by have h := HT.out; omega
    subst ht6
    have HM : Hid (true = chkB a b 6) := hid HNO.out.symm
    go_wp2_with fail
    go_ret
    exact ⟨lret_b HM.out, rfl⟩
 ·have HI : Hid (false = impB a b) := hid (by
   unfold impB isLv
   by_cases h1 : 0 ≤ a ∧ a < 12
   ·have h2 : ¬ (0 ≤ b ∧ b < 12) := fun h => hin ⟨h1, h⟩
    rw [decide_eq_false h2]; simp
   ·rw [decide_eq_false h1]; rfl)
  by_cases c0 : a < 0
  ·go_enter Tryz.func32, Tryz.ntmps32
   go_wp2_with fail
   go_ret
   exact ⟨lret_b HI.out, rfl⟩
  by_cases c1 : 11 < a
  ·go_enter Tryz.func32, Tryz.ntmps32
   go_wp2_with fail
   go_ret
   exact ⟨lret_b HI.out, rfl⟩
  by_cases c2 : b < 0
  ·go_enter Tryz.func32, Tryz.ntmps32
   go_wp2_with fail
   go_ret
   exact ⟨lret_b HI.out, rfl⟩
  have c3 : 11 < b := by omega
  go_enter Tryz.func32, Tryz.ntmps32
  go_wp2_with fail
  go_ret
  exact ⟨lret_b HI.out, rfl⟩
end

section
open Go.RowKit
theorem imp_self : ∀ x : Fin 12, impB (x.val : Int) (x.val : Int) = true := by decide +kernel
theorem imp_trans : ∀ x y z : Fin 12, impB (x.val : Int) (y.val : Int) = true → impB (y.val : Int) (z.val : Int) = true → impB (x.val : Int) (z.val : Int) = true := by decide +kernel
end

section
open Go.RowKit
def lvTo (r : Nat → Bool) (k : Nat) : List Nat := (List.range k).filter r
end

section
open Go.RowKit
def lvI (r : Nat → Bool) : List Int := (lvTo r 12).map Int.ofNat
theorem mem_lvI {r : Nat → Bool} {x : Int} : x ∈ lvI r ↔ ∃ a, a < 12 ∧ r a = true ∧ x = (a : Int) := by
 unfold lvI lvTo
 rw [List.mem_map]
 constructor
 ·rintro ⟨a, ha, rfl⟩
  obtain ⟨h1, h2⟩ := List.mem_filter.1 ha
  exact ⟨a, List.mem_range.1 h1, h2, rfl⟩
 ·rintro ⟨a, h1, h2, rfl⟩
  exact ⟨a, List.mem_filter.2 ⟨List.mem_range.2 h1, h2⟩, rfl⟩
def Shut (r : Nat → Bool) : Prop := ∀ a b : Nat, a < 12 → b < 12 → r a = true → impB (a : Int) (b : Int) = true → r b = true
theorem abv_iff {r : Nat → Bool} {b : Nat} : abv r (b : Int) = true ↔ ∃ a, a < 12 ∧ r a = true ∧ a ≠ b ∧ impB (a : Int) (b : Int) = true := by
 unfold abv abvTo
 rw [List.any_eq_true]
 constructor
 ·rintro ⟨a, ha, h⟩
  simp only [Bool.and_eq_true, decide_eq_true_eq] at h
  exact ⟨a, List.mem_range.1 ha, h.1, fun e => h.2.1 (by rw [e]), h.2.2⟩
 ·rintro ⟨a, ha, h1, h2, h3⟩
  refine ⟨a, List.mem_range.2 ha, ?_⟩
  simp only [Bool.and_eq_true, decide_eq_true_eq]
  exact ⟨h1, fun e => h2 (by omega), h3⟩
theorem cls_iff {r : Nat → Bool} : cls r = true ↔ Shut r := by
 unfold cls clsTo Shut
 rw [List.all_eq_true]
 constructor
 ·intro h a b ha hb hr hi
  cases hrb : r b
  ·exfalso
   have := h b (List.mem_range.2 hb)
   rw [hrb] at this
   have hv : abv r (b : Int) = true := abv_iff.2 ⟨a, ha, hr, fun e => (by rw [e, hrb] at hr; cases hr), hi⟩
   rw [hv] at this
   cases this
  ·rfl
 ·intro h b hb
  cases hrb : r b
  ·cases hv : abv r (b : Int)
   ·rfl
   ·exfalso
    obtain ⟨a, ha, h1, _, h3⟩ := abv_iff.1 hv
    have := h a b ha (List.mem_range.1 hb) h1 h3
    rw [hrb] at this; cases this
  ·rfl
def stI (r : Nat → Bool) : List Int := (strTo r 12).map Int.ofNat
theorem mem_stI {r : Nat → Bool} {x : Int} : x ∈ stI r ↔ ∃ a, a < 12 ∧ r a = true ∧ abv r (a : Int) = false ∧ x = (a : Int) := by
 unfold stI strTo
 rw [List.mem_map]
 constructor
 ·rintro ⟨a, ha, rfl⟩
  obtain ⟨h1, h2⟩ := List.mem_filter.1 ha
  simp only [Bool.and_eq_true, Bool.not_eq_true'] at h2
  exact ⟨a, List.mem_range.1 h1, h2.1, h2.2, rfl⟩
 ·rintro ⟨a, h1, h2, h3, rfl⟩
  exact ⟨a, List.mem_filter.2 ⟨List.mem_range.2 h1, by rw [h2, h3]; rfl⟩, rfl⟩
def rank (a : Nat) : Nat := ((List.range 12).filter fun b : Nat => impB (a : Int) (b : Int)).length
theorem rank_lt : ∀ a b : Fin 12, a ≠ b → impB (a.val : Int) (b.val : Int) = true → rank b.val < rank a.val := by decide +kernel
theorem rank_le : ∀ a : Fin 12, rank a.val ≤ 12 := by decide +kernel
theorem strong_over (r : Nat → Bool) : ∀ (n a : Nat), a < 12 → r a = true → 12 - rank a ≤ n → ∃ s, s < 12 ∧ r s = true ∧ abv r (s : Int) = false ∧ impB (s : Int) (a : Int) = true := by
 intro n
 induction n with
 | zero =>
  intro a ha hr hn
  cases hv : abv r (a : Int)
  ·exact ⟨a, ha, hr, hv, imp_self ⟨a, ha⟩⟩
  ·obtain ⟨c, hc, _, h2, h3⟩ := abv_iff.1 hv
   have h4 := rank_lt ⟨c, hc⟩ ⟨a, ha⟩ (fun e => h2 (by simpa using e)) h3
   have h5 := rank_le ⟨c, hc⟩
   simp only at h4 h5
   omega
 | succ n ih =>
  intro a ha hr hn
  cases hv : abv r (a : Int)
  ·exact ⟨a, ha, hr, hv, imp_self ⟨a, ha⟩⟩
  ·obtain ⟨c, hc, h1, h2, h3⟩ := abv_iff.1 hv
   have h4 := rank_lt ⟨c, hc⟩ ⟨a, ha⟩ (fun e => h2 (by simpa using e)) h3
   have h5 := rank_le ⟨c, hc⟩
   simp only at h4 h5
   obtain ⟨s, hs, g1, g2, g3⟩ := ih c hc h1 (by omega)
   exact ⟨s, hs, g1, g2, imp_trans ⟨s, hs⟩ ⟨c, hc⟩ ⟨a, ha⟩ g3 h3⟩
theorem blw_strong (r : Nat → Bool) {b : Nat} (hb : b < 12) : blw (stI r) b = (lvI r).any fun a => impB a (b : Int) := by
 rw [Bool.eq_iff_iff]
 unfold blw
 rw [List.any_eq_true, List.any_eq_true]
 constructor
 ·rintro ⟨x, hx, h⟩
  obtain ⟨a, ha, hr, _, rfl⟩ := mem_stI.1 hx
  exact ⟨_, mem_lvI.2 ⟨a, ha, hr, rfl⟩, h⟩
 ·rintro ⟨x, hx, h⟩
  obtain ⟨a, ha, hr, rfl⟩ := mem_lvI.1 hx
  obtain ⟨s, hs, g1, g2, g3⟩ := strong_over r _ a ha hr (Nat.le_refl _)
  exact ⟨_, mem_stI.2 ⟨s, hs, g1, g2, rfl⟩, imp_trans ⟨s, hs⟩ ⟨a, ha⟩ ⟨b, hb⟩ g3 h⟩
theorem blw_shut {r : Nat → Bool} (h : cls r = true) : rowB (blw (stI r)) = rowB r := by
 apply rowB_congr
 intro b hb
 rw [blw_strong r hb, Bool.eq_iff_iff, List.any_eq_true]
 constructor
 ·rintro ⟨x, hx, hi⟩
  obtain ⟨a, ha, hr, rfl⟩ := mem_lvI.1 hx
  exact cls_iff.1 h a b ha hb hr hi
 ·intro hr
  exact ⟨_, mem_lvI.2 ⟨b, hb, hr, rfl⟩, imp_self ⟨b, hb⟩⟩
end

section
open Go.RowKit
theorem can_ok {c : List TxnV} (hc : checkI c = 0) : ∀ t ∈ c, t.ok := fun t ht => by
 obtain ⟨m1, m2⟩ := may_at (check_rightB hc).1 ht
 refine ⟨⟨by unfold IntOk; omega, by unfold IntOk; omega, by unfold IntOk; omega⟩, fun o ho => ?_⟩
 have := (mayO_iff o).1 (m2 o ho)
 refine ⟨by unfold IntOk; omega, by unfold IntOk; omega⟩
theorem can_short {c : List TxnV} (hc : checkI c = 0) : Short c := fun t ht => by
 have := (may_at (check_rightB hc).1 ht).1
 omega
end

section
open Go.RowKit
theorem checkI_vals (h : List TxnV) : checkI h = 0 ∨ checkI h = 2 ∨ checkI h = 3 := by
 unfold checkI
 split
 ·exact .inr (.inr rfl)
 ·split
  ·exact .inl rfl
  ·exact .inr (.inl rfl)
def ChkRes (s : ByteArray) (much : Int) (base : Nat) (w' : World) (e : Ending) : Prop :=
 (∃ n x b w0, x ≠ 0 ∧ ParseRes s b w0 (.returned (.tuple #[.slice none 0 0, .int .i64 n, .int .i64 x])) ∧ e = .returned (.agg (outL (if x = 1 ∨ x = 2 then 1 else 2) (if x = 1 ∨ x = 2 then n else 0) noB wZ0).toArray)) ∨
 (∃ c : List TxnV, runL (linesB s) = some (c.map txE) ∧ endedB s = true ∧ checkI c = 0 ∧ ((Lasts (fuelN much) 0 (vecTo c 12).2 ∧ ∃ ws, e = .returned (.agg (outL 4 0 (accV c) ws).toArray) ∧ WitsIn c ws base w') ∨ (¬ Lasts (fuelN much) 0 (vecTo c 12).2 ∧ e = .returned (.agg (outL 3 0 noB wZ0).toArray))))
theorem outL_oneW {k n : Int} {h : List TxnV} {ws : Nat → Value × Value} {b : Nat} {w : World} (q : WitsIn h ws b w) (r : Nat → Bool) : (outL k n r ws).toArray.all (·.oneCell') = true := outL_one (q.one r)
theorem ccheck_any (s : ByteArray) (much : Int) (w : World) (he : EnvM w) (hs : s.size ≤ 100000) (ht : Tab w) (hK : Kinds w) (hF : ∀ c : List TxnV, runL (linesB s) = some (c.map txE) → endedB s = true → checkI c = 0 → c.length ≤ 7) :
  Calls Tryz.prog 19 #[.string s, .int .i64 much] w fun e w' => ChkRes s much w.heap.size w' e ∧ Below w.heap.size w w' := by
 have hg := ht.pos
 have O1 := OutAt.zero w
 have hb1 := box_below w (.cells #[.int .i64 0, .int .i64 0, .bool false, .bool false, .bool false, .bool false, .bool false, .bool false, .bool false, .bool false, .bool false, .bool false, .bool false, .bool false, .slice none 0 0, .slice none 0 0, .slice none 0 0, .slice none 0 0, .slice none 0 0, .slice none 0 0, .slice none 0 0, .slice none 0 0, .slice none 0 0, .slice none 0 0, .slice none 0 0, .slice none 0 0, .slice none 0 0, .slice none 0 0, .slice none 0 0, .slice none 0 0, .slice none 0 0, .slice none 0 0, .slice none 0 0, .slice none 0 0, .slice none 0 0, .slice none 0 0, .slice none 0 0, .slice none 0 0] 52)
 have CP := hid (sparse_any s _ (he.below hb1) hs)
 have HT : Hid (∀ wx, Below w.heap.size w wx → Tab wx ∧ Kinds wx) := hid (fun wx hb => ⟨ht.below hb hg, hK.below hb⟩)
 have HF := hid hF
 have hs1 : (w.alloc (.cells #[.int .i64 0, .int .i64 0, .bool false, .bool false, .bool false, .bool false, .bool false, .bool false, .bool false, .bool false, .bool false, .bool false, .bool false, .bool false, .slice none 0 0, .slice none 0 0, .slice none 0 0, .slice none 0 0, .slice none 0 0, .slice none 0 0, .slice none 0 0, .slice none 0 0, .slice none 0 0, .slice none 0 0, .slice none 0 0, .slice none 0 0, .slice none 0 0, .slice none 0 0, .slice none 0 0, .slice none 0 0, .slice none 0 0, .slice none 0 0, .slice none 0 0, .slice none 0 0, .slice none 0 0, .slice none 0 0, .slice none 0 0, .slice none 0 0] 52)).heap.size = w.heap.size + 1 := by simp
 clear he hs ht hK hF
 go_enter Tryz.func19, Tryz.ntmps19
 go_upto_region 1 with fail
 generalize w.alloc (.cells #[.int .i64 0, .int .i64 0, .bool false, .bool false, .bool false, .bool false, .bool false, .bool false, .bool false, .bool false, .bool false, .bool false, .bool false, .bool false, .slice none 0 0, .slice none 0 0, .slice none 0 0, .slice none 0 0, .slice none 0 0, .slice none 0 0, .slice none 0 0, .slice none 0 0, .slice none 0 0, .slice none 0 0, .slice none 0 0, .slice none 0 0, .slice none 0 0, .slice none 0 0, .slice none 0 0, .slice none 0 0, .slice none 0 0, .slice none 0 0, .slice none 0 0, .slice none 0 0, .slice none 0 0, .slice none 0 0, .slice none 0 0, .slice none 0 0] 52) = w1 at *
 go_wp2_with fail
 refine CP.out.mono ?_
 rintro e w2 ⟨hR, h2⟩
 have hb2 := below_then hb1 h2
 have h12 := h2.size
 have O2 := O1.below h2 O1.lt
 have hR' := hR
 clear CP h2 hb1 O1
 rcases hR with ⟨k, hk, hH, hno, rfl⟩ | ⟨c, hr, ⟨hen, rfl⟩ | ⟨hen, hne, rfl⟩ | ⟨hen, hc, v, rfl, hM⟩⟩
 ·have HP := hid hR'
  obtain ⟨n, hn⟩ : ∃ n : Int, (k : Int) + 1 = n := ⟨_, rfl⟩
  rw [hn] at HP
  simp only [hn]
  clear hk hH hno hR' hn HF hs1 h12
  have hone2 := outL_one (k := 1) (n := n) (wZ0_one noB)
  have hinf3 := info_outA 1 n noB wZ0
  have hbd := build_bad n
  have hth2 := O2.there (o := 0) (m := (outL 1 n noB wZ0).toArray.size) (by rw [show (outL 1 n noB wZ0).toArray.size = 38 from outL_len _ _ _ _]; omega)
  have O5 := O2.put 1 n noB wZ0
  have hb6 := below_putC (Nat.le_refl w.heap.size) (outL 1 n noB wZ0) 0 _ hb2
  clear O2 hb2
  go_wp2_with (first | (refine wpList_built (by kernel_rfl) rfl hbd ?_) | (with_reducible refine wpList_store_mid rfl 52 _ _ rfl w.heap.size 0 (outL 1 n noB wZ0).toArray rfl rfl hth2 hinf3 hone2 ?_))
  exact bodyPost_ret (results_out rfl _ _ w.heap.size _ _ _ _ rfl O5) rfl ⟨.inl ⟨_, _, _, _, (by decide), HP.out, rfl⟩, hb6⟩
 ·have HP := hid hR'
  obtain ⟨n, hn⟩ : ∃ n : Int, ((linesB s).length : Int) + 1 = n := ⟨_, rfl⟩
  rw [hn] at HP
  simp only [hn]
  clear hr hen hR' hn HF hs1 h12
  have hone2 := outL_one (k := 1) (n := n) (wZ0_one noB)
  have hinf3 := info_outA 1 n noB wZ0
  have hbd := build_bad n
  have hth2 := O2.there (o := 0) (m := (outL 1 n noB wZ0).toArray.size) (by rw [show (outL 1 n noB wZ0).toArray.size = 38 from outL_len _ _ _ _]; omega)
  have O5 := O2.put 1 n noB wZ0
  have hb6 := below_putC (Nat.le_refl w.heap.size) (outL 1 n noB wZ0) 0 _ hb2
  clear O2 hb2
  go_wp2_with (first | (refine wpList_built (by kernel_rfl) rfl hbd ?_) | (with_reducible refine wpList_store_mid rfl 52 _ _ rfl w.heap.size 0 (outL 1 n noB wZ0).toArray rfl rfl hth2 hinf3 hone2 ?_))
  exact bodyPost_ret (results_out rfl _ _ w.heap.size _ _ _ _ rfl O5) rfl ⟨.inl ⟨_, _, _, _, (by decide), HP.out, rfl⟩, hb6⟩
 ·have HP := hid hR'
  rcases checkI_vals c with q | q | q
  ·exact absurd q hne
  ·rw [q] at HP
   simp only [q]
   clear hr hen hR' hne q HF hs1 h12
   have hone2 := outL_one (k := 1) (n := 0) (wZ0_one noB)
   have hinf3 := info_outA 1 0 noB wZ0
   have hbd := build_bad 0
   have hth2 := O2.there (o := 0) (m := (outL 1 0 noB wZ0).toArray.size) (by rw [show (outL 1 0 noB wZ0).toArray.size = 38 from outL_len _ _ _ _]; omega)
   have O5 := O2.put 1 0 noB wZ0
   have hb6 := below_putC (Nat.le_refl w.heap.size) (outL 1 0 noB wZ0) 0 _ hb2
   clear O2 hb2
   go_wp2_with (first | (refine wpList_built (by kernel_rfl) rfl hbd ?_) | (with_reducible refine wpList_store_mid rfl 52 _ _ rfl w.heap.size 0 (outL 1 0 noB wZ0).toArray rfl rfl hth2 hinf3 hone2 ?_))
   exact bodyPost_ret (results_out rfl _ _ w.heap.size _ _ _ _ rfl O5) rfl ⟨.inl ⟨_, _, _, _, (by decide), HP.out, rfl⟩, hb6⟩
  ·rw [q] at HP
   simp only [q]
   clear hr hen hR' hne q HF hs1 h12
   have hone2 := outL_one (k := 2) (n := 0) (wZ0_one noB)
   have hinf3 := info_outA 2 0 noB wZ0
   have hbd := build_large
   have hth2 := O2.there (o := 0) (m := (outL 2 0 noB wZ0).toArray.size) (by rw [show (outL 2 0 noB wZ0).toArray.size = 38 from outL_len _ _ _ _]; omega)
   have O5 := O2.put 2 0 noB wZ0
   have hb6 := below_putC (Nat.le_refl w.heap.size) (outL 2 0 noB wZ0) 0 _ hb2
   clear O2 hb2
   go_wp2_with (first | (refine wpList_built (by kernel_rfl) rfl hbd ?_) | (with_reducible refine wpList_store_mid rfl 52 _ _ rfl w.heap.size 0 (outL 2 0 noB wZ0).toArray rfl rfl hth2 hinf3 hone2 ?_))
   exact bodyPost_ret (results_out rfl _ _ w.heap.size _ _ _ _ rfl O5) rfl ⟨.inl ⟨_, _, _, _, (by decide), HP.out, rfl⟩, hb6⟩
 ·have hTK := HT.out _ hb2
  have hfew := HF.out c hr hen hc
  have CJ := hid (judge_any v c much w2 hM.txns (can_ok hc) (can_short hc) hc hTK.1 hTK.2 (vec_few hfew))
  obtain ⟨va, vc, rfl, _⟩ := hM.txns.form
  have HR := hid hr
  have HE := hid hen
  have HC := hid hc
  clear hr hen hc hM hR' HF hTK hfew
  go_wp2_with fail
  refine CJ.out.mono ?_
  rintro e w3 ⟨hq, h3⟩
  have hb3 := below_then hb2 h3
  have O3 := O2.below h3 O2.lt
  have h23 := h3.size
  clear CJ h3 O2 hb2
  rcases hq with ⟨hla, ws, rfl, hW⟩ | ⟨hla, rfl⟩
  ·have HLA := hid hla
   have hone2 := outL_oneW (k := 4) (n := 0) hW (accV c)
   have hinf3 := info_outA 4 0 (accV c) ws
   have hth2 := O3.there (o := 0) (m := (outL 4 0 (accV c) ws).toArray.size) (by rw [show (outL 4 0 (accV c) ws).toArray.size = 38 from outL_len _ _ _ _]; omega)
   have O5 := O3.put 4 0 (accV c) ws
   have W5 := (hW.cells (g := w.heap.size) (by omega) 0 (outL 4 0 (accV c) ws)).base (b1 := w.heap.size) (by omega)
   have hb6 := below_putC (Nat.le_refl w.heap.size) (outL 4 0 (accV c) ws) 0 _ hb3
   clear O3 hb3 hW hla
   go_wp2_with (with_reducible refine wpList_store_mid rfl 52 _ _ rfl w.heap.size 0 (outL 4 0 (accV c) ws).toArray rfl rfl hth2 hinf3 hone2 ?_)
   exact bodyPost_ret (results_out rfl _ _ w.heap.size _ _ _ _ rfl O5) rfl ⟨.inr ⟨c, HR.out, HE.out, HC.out, .inl ⟨HLA.out, ws, rfl, W5⟩⟩, hb6⟩
  ·have HLA := hid hla
   have hone2 := outL_one (k := 3) (n := 0) (wZ0_one noB)
   have hinf3 := info_outA 3 0 noB wZ0
   have hth2 := O3.there (o := 0) (m := (outL 3 0 noB wZ0).toArray.size) (by rw [show (outL 3 0 noB wZ0).toArray.size = 38 from outL_len _ _ _ _]; omega)
   have O5 := O3.put 3 0 noB wZ0
   have hb6 := below_putC (Nat.le_refl w.heap.size) (outL 3 0 noB wZ0) 0 _ hb3
   clear O3 hb3 hla
   go_wp2_with (with_reducible refine wpList_store_mid rfl 52 _ _ rfl w.heap.size 0 (outL 3 0 noB wZ0).toArray rfl rfl hth2 hinf3 hone2 ?_)
   exact bodyPost_ret (results_out rfl _ _ w.heap.size _ _ _ _ rfl O5) rfl ⟨.inr ⟨c, HR.out, HE.out, HC.out, .inr ⟨HLA.out, rfl⟩⟩, hb6⟩
end

section
open Go.RowKit
def bydTo (r : Nat → Bool) (b : Int) (k : Nat) : Bool := (List.range k).any fun a => !r a && (decide (b ≠ (a : Int)) && impB b (a : Int))
def byd (r : Nat → Bool) (b : Int) : Bool := bydTo r b 12
theorem bydTo_succ (r : Nat → Bool) (b : Int) (k : Nat) : bydTo r b (k + 1) = (bydTo r b k || (!r k && (decide (b ≠ (k : Int)) && impB b (k : Int)))) := by
 unfold bydTo; rw [List.range_succ, List.any_append]; simp
theorem bydTo_hit {r : Nat → Bool} {b : Int} {k : Nat} (hk : k < 12) (h : (!r k && (decide (b ≠ (k : Int)) && impB b (k : Int))) = true) : byd r b = true := List.any_eq_true.2 ⟨k, List.mem_range.2 hk, h⟩
theorem lbeyond_any (r : Nat → Bool) (b : Int) (w : World) (hK : Kinds w) : Calls Tryz.prog 120 #[.agg (rowB r), .int .i64 b] w fun e w' => e = .returned (.bool (byd r b)) ∧ Below w.heap.size w w' := by
 have HK := hid (fun wx (hb : Below w.heap.size w wx) => hK.below hb)
 clear hK
 go_enter Tryz.func120, Tryz.ntmps120
 go_wp2_with fail
 go_loopw [6] (fun i wr => ∃ k : Nat, k ≤ 12 ∧ i = .int .i64 k ∧ bydTo r b k = false ∧ BRow wr w.heap.size r ∧ Below w.heap.size w wr) (fun i _ => 12 - (intOf i).toNat)
 case atStart => exact ⟨0, by omega, rfl, rfl, BRow.made w r rfl rfl, (Below.refl w.heap.size w).alloc (Nat.le_refl _) _⟩
 case round =>
  obtain ⟨k, hk, rfl, hno, h0, hb⟩ := hrel
  have HNO := hid hno
  clear hno
  by_cases hlt : k < 12
  ·have hki : (k : Int) < 12 := by omega
   have hc := h0.cell hlt
   have HS := hid (bydTo_succ r b k)
   have HH := hid (fun h => bydTo_hit (r := r) (b := b) hlt h)
   have CI := hid (limp_any b (k : Int) wr (HK.out _ hb))
   rw [HNO.out] at HS
   cases hr : r k
   rotate_left
   ·rw [hr] at hc HS
    clear hr HH CI
    have HM : Hid (bydTo r b (k + 1) = false) := hid (by rw [HS.out]; rfl)
    go_wp2_with fail
    go_roundw
    case rel => exact ⟨k + 1, by omega, by go_num, HM.out, h0, hb⟩
    case measure => simp [intOf]; omega
   ·rw [hr] at hc HS HH
    clear hr
    by_cases hkb : b = (k : Int)
    ·have HM : Hid (bydTo r b (k + 1) = false) := hid (by rw [HS.out, decide_eq_false (by simpa using hkb)]; rfl)
     clear HH CI HS HNO
     subst hkb
     go_wp2_with fail
     go_roundw
     case rel => exact ⟨k + 1, by omega, by go_num, HM.out, h0, hb⟩
     case measure => simp [intOf]; omega
    ·rw [decide_eq_true (show b ≠ (k : Int) from hkb)] at HS HH
     cases hm : impB b (k : Int)
     ·rw [hm] at CI HS
      have HM : Hid (bydTo r b (k + 1) = false) := hid (by rw [HS.out]; rfl)
      clear hm HH HS
      go_wp2_with (go_at_call 117; refine (CI.out).mono ?_; rintro e w' ⟨rfl, rfl⟩)
      go_roundw
      case rel => exact ⟨k + 1, by omega, by go_num, HM.out, h0, hb⟩
      case measure => simp [intOf]; omega
     ·rw [hm] at CI HH
      have HM : Hid (true = byd r b) := hid (HH.out rfl).symm
      clear hm HH HS
      go_wp2_with (go_at_call 117; refine (CI.out).mono ?_; rintro e w' ⟨rfl, rfl⟩)
      go_ret
      exact ⟨lret_b HM.out, hb⟩
  ·have hkn : k = 12 := by omega
   subst hkn
   have HM : Hid (false = byd r b) := hid HNO.out.symm
   go_wp2_with fail
   go_ret
   exact ⟨lret_b HM.out, hb⟩
def wkTo (r : Nat → Bool) (k : Nat) : List Nat := (List.range k).filter fun b => !r b && !byd r (b : Int)
theorem wkTo_succ (r : Nat → Bool) (k : Nat) : wkTo r (k + 1) = wkTo r k ++ (if !r k && !byd r (k : Int) then [k] else []) := by
 unfold wkTo
 rw [List.range_succ, List.filter_append]
 congr 1
 cases h : !r k && !byd r (k : Int) <;> simp [h]
theorem wkTo_len (r : Nat → Bool) (k : Nat) : (wkTo r k).length ≤ k := by
 unfold wkTo
 have := List.length_filter_le (fun b => !r b && !byd r (b : Int)) (List.range k)
 simpa using this
theorem lweakest_any (r : Nat → Bool) (w : World) (hK : Kinds w) : Calls Tryz.prog 74 #[.agg (rowB r)] w fun e w' => ∃ v, e = .returned v ∧ w'.ownsRow w.heap.size 74 1 v (wkTo r 12).length (natV (wkTo r 12)) ∧ Below w.heap.size w w' := by
 obtain ⟨i0, hi, hz0, hz1, hz2⟩ := info_parts infoLv
 have HK := hid (fun wx (hb : Below w.heap.size w wx) => hK.below hb)
 clear hK
 go_enter Tryz.func74, Tryz.ntmps74
 go_wp2_with fail
 go_loopw [3, 5] (fun v i wr => ∃ k : Nat, k ≤ 12 ∧ i = .int .i64 k ∧ wr.ownsRow (w.heap.size + 1) 74 1 v (wkTo r k).length (natV (wkTo r k)) ∧ BRow wr w.heap.size r ∧ Below w.heap.size w wr) (fun _ i _ => 12 - (intOf i).toNat)
 case atStart => exact ⟨0, by omega, rfl, World.ownsRow_nil _ _ _ _, BRow.made w r rfl rfl, (Below.refl w.heap.size w).alloc (Nat.le_refl _) _⟩
 case round =>
  obtain ⟨k, hk, rfl, hown, h0, hb⟩ := hrel
  have hll := wkTo_len r k
  by_cases hlt : k < 12
  ·have hki : (k : Int) < 12 := by omega
   have hc := h0.cell hlt
   have HS := hid (wkTo_succ r k)
   have CI := hid (lbeyond_any r (k : Int) wr (HK.out _ hb))
   have H2 := hid (fun wx (hx : Below wr.heap.size wr wx) => h0.below hx h0.lt)
   have HB := hid (fun wx (hx : Below wr.heap.size wr wx) => hb.trans (hx.mono hb.size))
   have HO := hid (fun wx (hx : Below wr.heap.size wr wx) => owns_below hown hx)
   have hsz := h0.lt
   cases hr : r k
   rotate_left
   ·rw [hr] at hc HS
    have HM : Hid (wkTo r (k + 1) = wkTo r k) := hid (by rw [HS.out]; simp)
    clear hr HS CI
    go_wp2_with fail
    go_roundw
    case rel => exact ⟨k + 1, by omega, by go_num, by rw [HM.out]; exact hown, h0, hb⟩
    case measure => simp [intOf]; omega
   ·rw [hr] at hc HS
    clear hr
    cases hm : byd r (k : Int)
    ·rw [hm] at CI HS
     have HM : Hid (wkTo r (k + 1) = wkTo r k ++ [k]) := hid (by rw [HS.out]; simp)
     clear hm HS
     go_wp2_with (with_reducible refine wpList_load_rowB_g h0 _ rfl (by kernel_rfl) rfl ?_)
     refine (CI.out).mono ?_
     rintro e w6 ⟨rfl, hb6⟩
     have h6 := H2.out _ hb6
     have hbw := HB.out _ hb6
     have hown6 := HO.out _ hb6
     have hs6 := h6.lt
     clear CI hown h0 hb hb6 hsz H2 HB HO
     go_wp2_with (at_builtin; refine wpList_append_own _ rfl _ _ 54 rfl (w.heap.size + 1) 74 i0 (.int .i64 0) 1 8 Tryz.underlying54 hi hz0 hz1 hz2 rfl (by decide) _ _ _ rfl (hown6.alloc _) ⟨_, 0, none⟩ 1 1 [.int .i64 (k : Int)] rfl rfl ?c1 ?c2 ?c3 ?c4 ?c5 ?_)
     case c1 => exact cell_one_new _ _ _
     case c2 => intro u hu; simp at hu; subst hu; rfl
     case c3 => unfold maxLen; omega
     case c4 => omega
     case c5 => simp; omega
     ·intro v' w7 hown' hgrow _
      have hb' := below_app0 hbw (Nat.le_refl _) hown6 (by omega) hgrow
      have h7 := (h6.alloc _).kept hgrow (fun e => by have := (hown6.lt _ e.symm).1; omega)
      clear hown6 h6 hbw hgrow
      go_wp2_with fail
      go_roundw
      case rel =>
       refine ⟨k + 1, by omega, by go_num, ?_, h7, hb'⟩
       rw [HM.out, natV_snoc, List.length_append]
       exact hown'
      case measure => simp [intOf]; omega
    ·rw [hm] at CI HS
     have HM : Hid (wkTo r (k + 1) = wkTo r k) := hid (by rw [HS.out]; simp)
     clear hm HS
     go_wp2_with (first
      | (with_reducible refine wpList_load_rowB_g h0 _ rfl (by kernel_rfl) rfl ?_)
      | (go_at_call 120; refine (CI.out).mono ?_; rintro e w' ⟨rfl, hbb⟩))
     go_roundw
     case rel => exact ⟨k + 1, by omega, by go_num, by rw [HM.out]; exact HO.out _ hbb, H2.out _ hbb, HB.out _ hbb⟩
     case measure => simp [intOf]; omega
  ·have hkn : k = 12 := by omega
   subst hkn
   go_wp2_with fail
   go_ret
   exact ⟨_, rfl, own_base0 hown (by omega), hb⟩
end

section
open Go.RowKit
def lspW (xs : List ByteArray) : List UInt8 := xs.flatMap fun x => 32 :: x.data.toList
theorem spW_succ (xs : List ByteArray) (k : Nat) (hk : k < xs.length) : lspW (xs.take (k + 1)) = (lspW (xs.take k) ++ [32]) ++ xs[k].data.toList := by
 unfold lspW
 rw [List.take_succ_eq_append_getElem hk, List.flatMap_append]
 simp
theorem spW_len (xs : List ByteArray) (hz : ∀ y ∈ xs, y.size ≤ 1000) : (lspW xs).length ≤ 1001 * xs.length := by
 unfold lspW
 induction xs with
 | nil => simp
 | cons a xs ih =>
  have h1 := ih fun y hy => hz y (List.mem_cons_of_mem _ hy)
  have h2 := hz a (List.mem_cons_self ..)
  rw [Lib.size_eq] at h2
  rw [List.flatMap_cons, List.length_append, List.length_cons, List.length_cons]
  omega
theorem lret_s {a b : ByteArray} (h : a = b) : Ending.returned (.string a) = .returned (.string b) := by rw [h]
theorem quo_big {n : Int} (h1 : 1 ≤ n) (h2 : n ≤ 20) : ¬ (9223372036854775807 : Int) / n ≤ 1 := by
 have : (2 : Int) ≤ 9223372036854775807 / n := by
  rw [Int.le_ediv_iff_mul_le (by omega)]; omega
 omega
theorem sjoin_any (ao : Option Addr) (cap : Nat) (x : ByteArray) (xs : List ByteArray) (w : World) (hS : Strs w (.slice ao (xs.length + 1) cap) (x :: xs)) (h1 : 1 ≤ xs.length) (hn : xs.length ≤ 20) (hz : ∀ y ∈ x :: xs, y.size ≤ 1000) :
  Calls Tryz.prog 119 #[.slice ao (xs.length + 1) cap, .string ⟨#[32]⟩] w fun e w' => e = .returned (.string ⟨(x.data.toList ++ lspW xs).toArray⟩) ∧ Below w.heap.size w w' := by
 have HS := hid (fun wx (hx : Below w.heap.size w wx) => hS.below hx)
 have HZ : Hid (∀ k (hk : k < (x :: xs).length), (x :: xs)[k].size ≤ 1000) := hid (fun k hk => hz _ (List.getElem_mem hk))
 have HZ1 := hid (hz x (List.mem_cons_self ..))
 have HZ2 : Hid (∀ k (hk : k < xs.length), xs[k].size ≤ 1000) := hid (fun k hk => hz _ (List.mem_cons_of_mem _ (List.getElem_mem hk)))
 have HSP := hid (fun k => spW_len (xs.take k) fun y hy => hz y (List.mem_cons_of_mem _ (List.mem_of_mem_take hy)))
 have HSU := hid (fun k (hk : k < xs.length) => spW_succ xs k hk)
 obtain ⟨g0, o0, rfl, hc0⟩ := hS.at (k := 0) (by simp)
 have HC0 : Hid (w.cell? ⟨g0, o0, none⟩ = some (.string x)) := hid hc0
 have hg0 : g0 < w.heap.size := block_lt hc0
 have hcap : xs.length + 1 ≤ cap ∧ cap ≤ 9223372036854775807 := by
  obtain ⟨a, c, e, h, _⟩ := hS.form
  cases e
  simpa using h
 clear hS hz hc0
 obtain ⟨n, hxn⟩ : ∃ n, n = xs.length := ⟨_, rfl⟩
 have HXN := hid hxn
 have hd0 : ((n : Int) + 1 == 0) = false := by rw [beq_eq_false_iff_ne]; omega
 have hd1 : ((n : Int) + 1 == 1) = false := by rw [beq_eq_false_iff_ne]; omega
 have hq0 := quo_big (n := (n : Int)) (by omega) (by omega)
 have hq : decide ((9223372036854775807 : Int) / (n : Int) ≤ 1) = false := decide_eq_false hq0
 rw [← hxn] at hcap hn h1 ⊢
 rw [← hxn] at HS
 clear hxn
 go_enter Tryz.func119, Tryz.ntmps119
 go_upto_region 11 with fail
 go_wp2_with fail
 go_loopw [5, 41] (fun v i wr => ∃ k m : Nat, k ≤ n + 1 ∧ i = .int .i64 k ∧ v = .int .i64 m ∧ m ≤ 20 + 1000 * k ∧ w = wr) (fun _ i _ => n + 1 - (intOf i).toNat)
 case atStart => exact ⟨0, n, by omega, rfl, by go_num, by omega, rfl⟩
 case round =>
  obtain ⟨k, m, hk, rfl, rfl, hm, rfl⟩ := hrel
  by_cases hlt : k < n + 1
  ·have hki : (k : Int) < ((n + 1 : Nat) : Int) := by omega
   have hkl : k < (x :: xs).length := by rw [List.length_cons, ← HXN.out]; exact hlt
   obtain ⟨g, o, e, hc⟩ := (HS.out _ (Below.refl _ _)).at hkl
   cases e
   have hz := HZ.out k hkl
   generalize (x :: xs)[k] = y at *
   have hov : decide (9223372036854775807 - (m : Int) < (y.size : Int)) = false := decide_eq_false (by omega)
   go_wp2_with fail
   go_roundw
   case rel => exact ⟨k + 1, m + y.size, by omega, by go_num, by go_num, by omega, by first | rfl | trivial⟩
   case measure => simp [intOf]; omega
  ·obtain rfl : k = n + 1 := by omega
   have hki : ¬ (n : Int) + 1 < (n : Int) + 1 := by omega
   have hm' : m ≤ 281474976710656 := by omega
   have HG := hid (fun wx (hb : wx.heap[w.heap.size]? = some (.cells #[.pointer none, .slice none 0 0] 130 (0, 0))) hz => Tryz.Builder_Grow_fresh w.heap.size w.heap.size m wx (Nat.le_refl _) hb hz hm')
   have hx0 : Below w.heap.size w (w.alloc (.cells #[.pointer none, .slice none 0 0] 130)) := (Below.refl _ _).alloc (Nat.le_refl _) _
   have hbk := heap_alloc_new w (.cells #[.pointer none, .slice none 0 0] 130)
   have hzz : w.heap.size ≤ (w.alloc (.cells #[.pointer none, .slice none 0 0] 130)).heap.size := hx0.size
   have HG1 := hid (HG.out _ hbk hzz)
   clear hm hk hm' HG hbk hzz hq hq0 hd0 hd1
   go_wp2_with fail
   refine HG1.out.mono ?_
   rintro e w2 ⟨rfl, hB2, hb2⟩
   have hb2 := hx0.trans hb2
   have hBl : Bld w.heap.size w.heap.size [] w2 := ⟨.inr hB2, hb2.size⟩
   obtain ⟨g, o, e, hc⟩ := (HS.out _ hb2).at (k := 0) (by simp)
   cases e
   simp only [List.getElem_cons_zero, Nat.add_zero] at hc
   have HZX := HZ1.out
   have CW := hid (write_any w.heap.size w.heap.size [] x w2 hBl (by simp; omega))
   rw [List.nil_append] at CW
   clear HG1 hx0 hB2 hBl HC0
   go_wp2_with fail
   refine CW.out.mono ?_
   rintro e w3 ⟨rfl, hB3, h3⟩
   have hb3 := hb2.trans h3
   clear CW hc h3 hb2 HZX
   go_wp2_with fail
   go_loopw [65] (fun i wx => ∃ k : Nat, k ≤ n ∧ i = .int .i64 k ∧ Bld w.heap.size w.heap.size (x.data.toList ++ lspW (xs.take k)) wx ∧ Below w.heap.size w wx) (fun i _ => n - (intOf i).toNat)
   case atStart => exact ⟨0, by omega, rfl, by unfold lspW; simpa using hB3, hb3⟩
   case round =>
    clear hB3 hb3
    obtain ⟨k, hk, rfl, hB, hb⟩ := hrel
    by_cases hlt : k < n
    ·have hki : (k : Int) < (n : Int) := by omega
     have hkl : k < xs.length := by rw [← HXN.out]; exact hlt
     obtain ⟨g, o, e, hc⟩ := (HS.out _ hb).at (k := k + 1) (by simp; exact hkl)
     cases e
     have HSK := hid (HSU.out k hkl)
     have hz := HZ2.out k hkl
     simp only [List.getElem_cons_succ] at hc
     rw [show o0 + (k + 1) = o0 + 1 + k from by omega] at hc
     generalize xs[k] = y at *
     have hsp := HSP.out k
     have hxz := HZ1.out
     rw [List.length_take] at hsp
     have hll : (x.data.toList ++ lspW (xs.take k)).length ≤ 100000 := by rw [List.length_append, ← Lib.size_eq]; omega
     have HSE : Hid (x.data.toList ++ lspW (xs.take (k + 1)) = (x.data.toList ++ lspW (xs.take k) ++ [32]) ++ y.data.toList) := hid (by rw [HSK.out]; simp)
     generalize x.data.toList ++ lspW (xs.take k) = L at *
     have CW1 := hid (write_any w.heap.size w.heap.size L ⟨#[32]⟩ wr hB (by show L.length + 1 ≤ _; omega))
     clear hB HSK
     go_wp2_with fail
     refine CW1.out.mono ?_
     rintro e w5 ⟨rfl, hB5, h5⟩
     have hc5 := (h5.cell (p := ⟨g0, o0 + 1 + k, none⟩) hg0).trans hc
     have hb5 := hb.trans h5
     have CW2 := hid (write_any w.heap.size w.heap.size (L ++ [32]) y w5 hB5 (by rw [List.length_append]; show L.length + 1 + _ ≤ _; omega))
     clear CW1 hB5 h5 hb hc hc5
     go_wp2_with fail
     refine CW2.out.mono ?_
     rintro e w6 ⟨rfl, hB6, h6⟩
     have hb6 := hb5.trans h6
     clear CW2 h6 hb5
     go_wp2_with fail
     go_roundw
     case rel => exact ⟨k + 1, by omega, by go_num, by rw [HSE.out]; exact hB6, hb6⟩
     case measure => simp [intOf]; omega
    ·obtain rfl : k = n := by omega
     have hki : ¬ (k : Int) < (k : Int) := by omega
     rw [HXN.out, List.take_length] at hB
     have CS := hid (bld_string w.heap.size w.heap.size _ wr hB)
     clear hB
     go_wp2_with fail
     refine CS.out.mono ?_
     rintro e w7 ⟨rfl, h7⟩
     go_wp2_with fail
     go_ret
     exact ⟨rfl, hb.trans h7⟩
end

section
open Go.RowKit
def nmsW (l : List Nat) : List ByteArray := l.map fun (a : Nat) => nameN (a : Int)
theorem nmsW_succ (l : List Nat) (k : Nat) (hk : k < l.length) : nmsW (l.take (k + 1)) = nmsW (l.take k) ++ [nameN (l[k] : Int)] := by
 unfold nmsW; rw [List.take_succ_eq_append_getElem hk, List.map_append]; rfl
def lnL (first : ByteArray) (l : List Nat) : List UInt8 := first.data.toList ++ lspW (if l = [] then [⟨#[45]⟩] else nmsW l)
def lnB (first : ByteArray) (l : List Nat) : ByteArray := ⟨(lnL first l ++ [10]).toArray⟩
theorem name_size : ∀ a : Fin 12, (nameN (a.val : Int)).size ≤ 100 := by decide +kernel
theorem names_size {l : List Nat} (h : ∀ a ∈ l, a < 12) : ∀ y ∈ nmsW l, y.size ≤ 1000 := fun y hy => by
 obtain ⟨a, ha, rfl⟩ := List.mem_map.1 hy
 have := name_size ⟨a, h a ha⟩
 exact Nat.le_trans this (by omega)
theorem text_nl (l : List UInt8) : (⟨l.toArray⟩ : ByteArray) ++ (⟨#[10]⟩ : ByteArray) = ⟨(l ++ [10]).toArray⟩ := by
 apply byteArray_ext
 simp
theorem lnL_len (first : ByteArray) (l : List Nat) (hf : first.size ≤ 100) (hl : ∀ a ∈ l, a < 12) (hn : l.length ≤ 12) : (lnL first l).length ≤ 20000 := by
 unfold lnL
 rw [List.length_append, ← Lib.size_eq]
 split
 ·simp [lspW]; omega
 ·have h1 := spW_len (nmsW l) (names_size hl)
  have h2 : (nmsW l).length = l.length := by unfold nmsW; simp
  omega
theorem line_any (first : ByteArray) (vl : Value) (l : List Nat) (w : World) (hK : Kinds w) (hI : Ints w vl (l.map Int.ofNat)) (hf : first.size ≤ 100) (hl : ∀ a ∈ l, a < 12) (hn : l.length ≤ 12) :
  Calls Tryz.prog 72 #[.string first, vl] w fun e w' => e = .returned (.string (lnB first l)) ∧ Below w.heap.size w w' := by
 obtain ⟨i0, hi, hz0, hz1, hz2⟩ := info_parts infoStr
 obtain ⟨ao, cap, rfl, hcap⟩ := hI.form
 rw [List.length_map] at hI hcap ⊢
 have HI := hid (fun wx (hx : Below w.heap.size w wx) => hI.below hx)
 have HN := hid (fun (a : Int) wx (hx : Below w.heap.size w wx) => lname_any a wx (hK.below hx))
 have HL := hid hl
 have HSU := hid (fun k (hk : k < l.length) => nmsW_succ l k hk)
 have HSZ := hid (fun k (hk : k < l.length) => (name_size ⟨l[k], hl _ (List.getElem_mem hk)⟩))
 have hx0 : Below w.heap.size w (w.alloc (.cells #[.string first] 9)) := (Below.refl _ _).alloc (Nat.le_refl _) _
 have ho0 : (w.alloc (.cells #[.string first] 9)).ownsRow w.heap.size 9 1 (.slice (some ⟨w.heap.size, 0, none⟩) 1 1) 1 [.string first] := World.ownsRow_lit (base := w.heap.size) (size := 1) w #[.string first] 1 (Nat.le_refl _) (by decide) rfl
 clear hI hK
 go_enter Tryz.func72, Tryz.ntmps72
 go_wp2_with fail
 go_loopw [5, 12] (fun v i wr => ∃ k : Nat, k ≤ l.length ∧ i = .int .i64 k ∧ wr.ownsRow w.heap.size 9 1 v (k + 1) ((first :: nmsW (l.take k)).map Value.string) ∧ Below w.heap.size w wr) (fun _ i _ => l.length - (intOf i).toNat)
 case atStart => exact ⟨0, by omega, rfl, by simpa [nmsW] using ho0, hx0⟩
 case round =>
  clear ho0 hx0
  obtain ⟨k, hk, rfl, hown, hb⟩ := hrel
  by_cases hlt : k < l.length
  ·have hki : (k : Int) < (l.length : Int) := by omega
   obtain ⟨g, o, e, hc⟩ := (HI.out _ hb).at (k := k) (by simpa using hlt)
   cases e
   rw [List.getElem_map] at hc
   have HS := hid (HSU.out k hlt)
   have hsz := HSZ.out k hlt
   have CN := hid (HN.out (Int.ofNat l[k]) _ hb)
   change Hid (Calls _ _ #[.int .i64 (l[k] : Int)] _ _) at CN
   change wr.cell? _ = some (.int .i64 (l[k] : Int)) at hc
   simp only [Int.ofNat_eq_natCast] at CN
   generalize nameN (l[k] : Int) = s at *
   generalize (l[k] : Int) = a at *
   have hbs := hb.size
   go_wp2_with fail
   refine CN.out.mono ?_
   rintro e w3 ⟨rfl, rfl⟩
   clear CN
   go_wp2_with (at_builtin; refine wpList_append_own _ rfl _ _ 95 rfl w.heap.size 9 i0 (.string ByteArray.empty) 1 16 Tryz.underlying95 hi hz0 hz1 hz2 rfl (by decide) _ _ _ rfl (hown.alloc _) ⟨_, 0, none⟩ 1 1 [.string s] rfl rfl ?c1 ?c2 ?c3 ?c4 ?c5 ?_)
   case c1 => exact cell_one_new _ _ _
   case c2 => intro u hu; simp at hu; subst hu; rfl
   case c3 => unfold maxLen; omega
   case c4 => omega
   case c5 => simp; omega
   intro v' w7 hown' hgrow _
   have hb' := below_app0 hb (Nat.le_refl _) hown (Nat.le_refl _) hgrow
   clear hown hb hgrow hc
   go_wp2_with fail
   go_roundw
   case rel =>
    refine ⟨k + 1, by omega, by go_num, ?_, hb'⟩
    rw [HS.out]
    simpa using hown'
   case measure => simp [intOf]; omega
  ·obtain rfl : k = l.length := by omega
   have hki : ¬ (l.length : Int) < (l.length : Int) := by omega
   rw [List.take_length] at hown
   have HZN := hid (names_size HL.out)
   have HNL : Hid ((nmsW l).length = l.length) := hid (by unfold nmsW; simp)
   have HLL := hid (lnL_len first l hf HL.out hn)
   by_cases h0 : l = []
   ·have HE : Hid (lnL first l = first.data.toList ++ lspW [⟨#[45]⟩]) := hid (by unfold lnL; rw [if_pos h0])
    have HB : Hid (lnB first l = ⟨(lnL first l ++ [10]).toArray⟩) := hid rfl
    rw [HE.out] at HB HLL
    have hl0 : l.length = 0 := by rw [h0]; rfl
    have hw0 : (first :: nmsW l).map Value.string = [Value.string first] := by rw [h0]; rfl
    rw [hw0, hl0] at hown
    rw [hl0]
    clear HI HN HSU HSZ HZN HNL hl hcap h0 hl0 hw0 HE HL
    have hbs := hb.size
    go_wp2_with (at_builtin; refine wpList_append_own _ rfl _ _ 95 rfl w.heap.size 9 i0 (.string ByteArray.empty) 1 16 Tryz.underlying95 hi hz0 hz1 hz2 rfl (by decide) _ _ _ rfl (hown.alloc _) ⟨_, 0, none⟩ 1 1 [.string ⟨#[45]⟩] rfl rfl ?c1 ?c2 ?c3 ?c4 ?c5 ?_)
    case c2 => rfl
    case c3 => unfold maxLen; omega
    case c5 => omega
    intro v' w7 hown' hgrow _
    have hb' := below_app0 hb (Nat.le_refl _) hown (Nat.le_refl _) hgrow
    have hS : Strs w7 v' [first, ⟨#[45]⟩] := Strs.of_owns hown'
    obtain ⟨ao7, cap7, rfl, _⟩ := hS.form
    have CJ := hid (sjoin_any ao7 cap7 first [⟨#[45]⟩] w7 hS (by simp) (by simp) (by
     intro y hy
     simp at hy
     rcases hy with rfl | rfl
     ·omega
     ·decide))
    clear hown hb hgrow hown' hS
    generalize hL : first.data.toList ++ lspW [⟨#[45]⟩] = L at *
    have hlen : L.length ≤ 20000 := HLL.out
    have hov : ¬ 9223372036854775807 < (⟨L.toArray⟩ : ByteArray).size + (⟨#[10]⟩ : ByteArray).size := by
     show ¬ _ < L.toArray.size + 1
     simp; omega
    have HT := hid (text_nl L)
    go_wp2_with fail
    refine CJ.out.mono ?_
    rintro e w8 ⟨rfl, h8⟩
    have hb8 := hb'.trans (h8.mono hb'.size)
    clear CJ h8 hb' HLL hL hlen
    generalize (⟨L.toArray⟩ : ByteArray) = B at *
    go_wp2_with fail
    go_ret
    exact ⟨lret_s (by rw [HB.out]; exact HT.out), hb8⟩
   ·have HE : Hid (lnL first l = first.data.toList ++ lspW (nmsW l)) := hid (by unfold lnL; rw [if_neg h0])
    have HB : Hid (lnB first l = ⟨(lnL first l ++ [10]).toArray⟩) := hid rfl
    rw [HE.out] at HB HLL
    have hl0 : 1 ≤ l.length := by
     cases l with
     | nil => exact absurd rfl h0
     | cons a t => simp
    have hne : ((l.length : Int) == 0) = false := by rw [beq_eq_false_iff_ne]; omega
    have hS : Strs wr _ (first :: nmsW l) := Strs.of_owns hown
    obtain ⟨ao7, cap7, rfl, _⟩ := hS.form
    rw [List.length_cons] at hS ⊢
    have CJ := hid (sjoin_any ao7 cap7 first (nmsW l) wr hS (by rw [HNL.out]; omega) (by rw [HNL.out]; omega) (by
     intro y hy
     rcases List.mem_cons.1 hy with rfl | hy
     ·omega
     ·exact HZN.out y hy))
    clear hown hS HI HN HSU HSZ HZN hl h0 HL
    generalize hL : first.data.toList ++ lspW (nmsW l) = L at *
    have hlen : L.length ≤ 20000 := HLL.out
    have hov : ¬ 9223372036854775807 < (⟨L.toArray⟩ : ByteArray).size + (⟨#[10]⟩ : ByteArray).size := by
     show ¬ _ < L.toArray.size + 1
     simp; omega
    have HT := hid (text_nl L)
    go_wp2_with fail
    refine CJ.out.mono ?_
    rintro e w8 ⟨rfl, h8⟩
    have hb8 := hb.trans (h8.mono hb.size)
    clear CJ h8 hb HLL hL hlen
    generalize (⟨L.toArray⟩ : ByteArray) = B at *
    go_wp2_with fail
    go_ret
    exact ⟨lret_s (by rw [HB.out]; exact HT.out), hb8⟩
end

section
open Go.RowKit
theorem yields_load_rowB {ops : Array Oper} {S : World → Prop} {o : Oper} {a : Act} {g : Nat} {r : Nat → Bool} (hw : Region.wanted o (yielded ops a.tmps) = true) (x : Operand) (ho : o.op = .load 38 x)
  (hx : a.eval x = .pointer (some ⟨g, 0, none⟩)) (hS : ∀ w, S w → BRow w g r) : YieldsIf Tryz.prog ops S o (.agg (rowB r)) a :=
 .inl ⟨hw, fun w hw' => by
  unfold execOp
  simp only [ho, hx, Instr.loadAt, Instr.sureAddr, Sem.run_bind, Sem.run_pure, Result.andThen_ok, run_loadVar_row w g _ _ _ _ _ (hS w hw') Tryz.underlying38 rfl (infoRow' _)]⟩
theorem takeR {P : Program} {ops : Array Oper} {Q : Exit → Act → World → Prop} {md : Region.Mode} {S : World → Prop} (d : Option Tmp) {i : Nat} {oi : Oper} {v : Value} {fuel : Nat} {listed : Array Bool} {a : Act} {w : World} (hi : ops[i]? = some oi) (hd : oi.dst = d)
  (hs : Region.noSelect ops = true) (hf : Region.free md ops listed i = true) (hr : (Region.ready md ops listed).contains i = true)
  (hQ : ∀ c a w, Q (.panic c) (a.put oi.dst v) w → Q (.panic c) a w) (hy : YieldsIf P ops S oi v a) (hS : S w)
  (h : wpAnyH P md ops Q S fuel (listed.setIfInBounds i true) (a.put d v) w) : wpAnyH P md ops Q S (fuel + 1) listed a w := by
 subst hd; exact wpAnyH_take hi hs hf hr hQ hy hS h
end

section
open Go.RowKit
theorem infoPos {v1 v2 : Value} : (Tryz.prog.info? 56).map (·.size) = some (#[v1, v2] : Array Value).size := (show (Tryz.prog.info? 56).map (·.size) = some 2 by kernel_rfl)
theorem own_one {w : World} {b e s n : Nat} {v : Value} {xs : List Value} (h : w.ownsRow b e s v n xs) : v.oneCell' = true := by
 rcases h.2 with ⟨rfl, _⟩ | ⟨g, cap, cur, rfl, _⟩ <;> rfl
theorem pos_form {w : World} {b e s n : Nat} {v : Value} {xs : List Value} (h : w.ownsRow b e s v n xs) : ∃ ao m c, v = .slice ao m c := by
 rcases h.2 with ⟨rfl, _⟩ | ⟨g, cap, cur, rfl, _⟩
 ·exact ⟨_, _, _, rfl⟩
 ·exact ⟨_, _, _, rfl⟩
theorem pos_one {w w' : World} {b e s n b' e' s' n' : Nat} {v1 v2 : Value} {xs ys : List Value} (h1 : w.ownsRow b e s v1 n xs) (h2 : w'.ownsRow b' e' s' v2 n' ys) : (#[v1, v2] : Array Value).all (·.oneCell') = true := by
 simp [own_one h1, own_one h2]
theorem owns_setRow {w : World} {g base e s n : Nat} {v : Value} {xs : List Value} (h : w.ownsRow base e s v n xs) (hg : g < base) (cs : Array Value) : (w.setRow g cs).ownsRow base e s v n xs := by
 obtain ⟨h1, h2⟩ := h
 refine ⟨h1, ?_⟩
 rcases h2 with h2 | ⟨g', cap, cur, e1, e2, hb, r⟩
 ·exact .inl h2
 ·exact .inr ⟨g', cap, cur, e1, e2, by rw [setRow_other _ _ _ _ (by omega)]; exact hb, r⟩
theorem BRow.otherRow {w : World} {g g' : Nat} {r : Nat → Bool} (h : BRow w g r) (hg : g ≠ g') (cs : Array Value) : BRow (w.setRow g' cs) g r := by
 unfold BRow at *; rw [setRow_other _ _ _ _ hg]; exact h
structure PosO (w : World) (b : Nat) (v1 v2 : Value) (l m : List Nat) : Prop where
 o1 : w.ownsRow b 74 1 v1 l.length (natV l)
 o2 : w.ownsRow b 74 1 v2 m.length (natV m)
theorem ints_lev {w : World} {b : Nat} {v : Value} {l : List Nat} (h : w.ownsRow b 74 1 v l.length (natV l)) : Ints w v (l.map Int.ofNat) := by
 have h1 := Row.of_owns h
 unfold Ints
 rw [List.length_map, List.map_map]
 exact h1
theorem PosO.below {w w' : World} {b : Nat} {v1 v2 : Value} {l m : List Nat} (h : PosO w b v1 v2 l m) (hb : Below w.heap.size w w') : PosO w' b v1 v2 l m := ⟨owns_below h.1 hb, owns_below h.2 hb⟩
theorem strTo_lt (r : Nat → Bool) : ∀ a ∈ strTo r 12, a < 12 := fun a ha => by unfold strTo at ha; exact List.mem_range.1 (List.mem_filter.1 ha).1
theorem wkTo_lt (r : Nat → Bool) : ∀ a ∈ wkTo r 12, a < 12 := fun a ha => by unfold wkTo at ha; exact List.mem_range.1 (List.mem_filter.1 ha).1
theorem latof_any (r : Nat → Bool) (w : World) (hK : Kinds w) : Calls Tryz.prog 31 #[.agg (rowB r)] w fun e w' => ∃ v1 v2, e = .returned (.agg #[v1, v2]) ∧ PosO w' w.heap.size v1 v2 (strTo r 12) (wkTo r 12) ∧ Below w.heap.size w w' := by
 have hR := (BRow.made w r rfl rfl).alloc (.cells #[.slice none 0 0, .slice none 0 0] 56)
 have hP := heap_alloc_new (w.alloc (.cells (rowB r) 38)) (.cells #[.slice none 0 0, .slice none 0 0] 56)
 have hb := ((Below.refl w.heap.size w).alloc (Nat.le_refl _) (.cells (rowB r) 38)).alloc (by simp) (.cells #[.slice none 0 0, .slice none 0 0] 56)
 have hsz : (w.alloc (.cells (rowB r) 38)).heap.size = w.heap.size + 1 := by simp
 rw [hsz] at hP
 have hs2 : ((w.alloc (.cells (rowB r) 38)).alloc (.cells #[.slice none 0 0, .slice none 0 0] 56)).heap.size = w.heap.size + 2 := by simp
 have HK := hid (fun wx (hx : Below w.heap.size w wx) => hK.below hx)
 clear hK hsz
 go_enter Tryz.func31, Tryz.ntmps31
 go_upto_region 1 with fail
 generalize (w.alloc (.cells (rowB r) 38)).alloc (.cells #[.slice none 0 0, .slice none 0 0] 56) = w1 at *
 have kd := (Below.refl w1.heap.size w1).drew
 have HP := hid (fun wx (hx : Below w1.heap.size w1 wx) => (hx.block (w.heap.size + 1) (by omega)).trans hP)
 have HW := hid (fun wx (hx : Below w1.heap.size w1 wx) => hb.trans (hx.mono hb.size))
 have hR := hR.below kd hR.lt
 have C1 := hid (fun wx (hx : Below w1.heap.size w1 wx) => strongest_any r wx (HK.out _ (HW.out _ hx)))
 have C2 := hid (fun wx (hx : Below w1.heap.size w1 wx) => lweakest_any r wx (HK.out _ (HW.out _ hx)))
 have HKD0 := hid kd
 have hdz := kd.size
 clear hP hb kd HK
 refine wp_region_held_drew (S := fun wx => BRow wx w.heap.size r) (by kernel_rfl) hR (fun hS0 => ?_)
 generalize w1.drew = wd at *
 refine takeR (some 3) (i := 0) (v := _) rfl rfl (by kernel_rfl) (by kernel_rfl) (by kernel_rfl) (fun _ _ _ h => h) (yields_load_rowB (by rfl) _ rfl rfl (fun _ hw => hw)) hS0 ?_
 try simp only [Act.put, zA, zB, zC]
 refine takeR (some 5) (i := 2) (v := _) rfl rfl (by kernel_rfl) (by kernel_rfl) (by kernel_rfl) (fun _ _ _ h => h) (yields_load_rowB (by rfl) _ rfl rfl (fun _ hw => hw)) hS0 ?_
 try simp only [Act.put, zA, zB, zC]
 refine rD 1 rfl (fun K hK => ?_)
 go_simp
 refine (C1.out _ HKD0.out).mono ?_
 rintro e w2 ⟨v1, rfl, hO1, h2⟩
 obtain ⟨a1, n1, k1, rfl⟩ := pos_form hO1
 have HKD := hid (below_then HKD0.out h2)
 have sB := hS0.below h2 hS0.lt
 show K _ _
 refine hK.out _ _ sB (fun _ => ?_)
 clear hK K
 refine rD 3 rfl (fun K hK => ?_)
 go_simp
 refine (C2.out _ HKD.out).mono ?_
 rintro e w3 ⟨v2, rfl, hO2, h3⟩
 obtain ⟨a2, n2, k2, rfl⟩ := pos_form hO2
 have HKE := hid (below_then HKD.out h3)
 have sC := sB.below h3 sB.lt
 show K _ _
 refine hK.out _ _ sC (fun _ => ?_)
 clear hK K
 refine takeR (some 7) (i := 4) (v := ?vla4x5) rfl rfl (by kernel_rfl) (by kernel_rfl) (by kernel_rfl) (fun _ _ _ h => h) (Or.inl ⟨by rfl, ?hla4x5⟩) sC ?rla4x5
 case hla4x5 => (intro w _; go_simp; try (with_reducible rfl))
 try simp only [Act.put, zA, zB, zC]
 refine rD 5 rfl (fun K hK => ?_)
 rw [if_pos (by rfl)]
 have hp3 := HP.out _ HKE.out
 have HP3 := hid hp3
 have HO1 := hid (owns_setRow (owns_below hO1 h3) (g := w.heap.size + 1) (by omega) #[.slice a1 n1 k1, .slice a2 n2 k2])
 have HO2 := hid (owns_setRow hO2 (g := w.heap.size + 1) (by have := h2.size; omega) #[.slice a1 n1 k1, .slice a2 n2 k2])
 have HB := hid (HW.out _ HKE.out)
 have h2s := h2.size
 refine wp_store_row 56 _ _ rfl (w.heap.size + 1) #[.slice a1 n1 k1, .slice a2 n2 k2] rfl rfl _ _ hp3 infoPos rfl (pos_one hO1 hO2) ?_
 refine hK.out _ _ (sC.otherRow (by omega) _) (fun _ => ?_)
 clear hK K
 refine wpAnyH_done (by kernel_rfl) ?_ _
 go_wp2_with fail
 have hb9 := below_setRow HB.out (show w.heap.size ≤ w.heap.size + 1 by omega) #[.slice a1 n1 k1, .slice a2 n2 k2]
 refine bodyPost_ret (v := .agg #[.slice a1 n1 k1, .slice a2 n2 k2]) (results_cell_row rfl _ _ (w.heap.size + 1) _ #[.slice a1 n1 k1, .slice a2 n2 k2] _ _ rfl (setRow_heap _ _ _ _ _ _ HP3.out) Tryz.underlying56 rfl infoPos) rfl ⟨_, _, rfl, ⟨own_base0 HO1.out (by omega), own_base0 HO2.out (by omega)⟩, hb9⟩
def posB (l m : List Nat) : ByteArray := lnB ⟨#[115, 116, 114, 111, 110, 103, 101, 115, 116]⟩ l ++ lnB ⟨#[98, 101, 121, 111, 110, 100]⟩ m
theorem lnB_size (first : ByteArray) (l : List Nat) (hf : first.size ≤ 100) (hl : ∀ a ∈ l, a < 12) (hn : l.length ≤ 12) : (lnB first l).size ≤ 20001 := by
 have := lnL_len first l hf hl hn
 show (lnL first l ++ [10]).toArray.size ≤ _
 simp; omega
theorem ptext_any (ao : Option Addr) (n acap : Nat) (bo : Option Addr) (n2 bcap : Nat) (l m : List Nat) (w : World) (hK : Kinds w) (h1 : Ints w (.slice ao n acap) (l.map Int.ofNat)) (h2 : Ints w (.slice bo n2 bcap) (m.map Int.ofNat)) (hl : ∀ a ∈ l, a < 12) (hm : ∀ a ∈ m, a < 12) (hnl : l.length ≤ 12) (hnm : m.length ≤ 12) :
  Calls Tryz.prog 30 #[.agg #[.slice ao n acap, .slice bo n2 bcap]] w fun e w' => e = .returned (.string (posB l m)) ∧ Below w.heap.size w w' := by
 have CA := hid (fun wx (hx : Below w.heap.size w wx) => line_any ⟨#[115, 116, 114, 111, 110, 103, 101, 115, 116]⟩ (.slice ao n acap) l wx (hK.below hx) (h1.below hx) (by decide) hl hnl)
 have CB := hid (fun wx (hx : Below w.heap.size w wx) => line_any ⟨#[98, 101, 121, 111, 110, 100]⟩ (.slice bo n2 bcap) m wx (hK.below hx) (h2.below hx) (by decide) hm hnm)
 have hb := (Below.refl w.heap.size w).alloc (Nat.le_refl _) (.cells #[.slice ao n acap, .slice bo n2 bcap] 56)
 have z1 := lnB_size ⟨#[115, 116, 114, 111, 110, 103, 101, 115, 116]⟩ l (by decide) hl hnl
 have z2 := lnB_size ⟨#[98, 101, 121, 111, 110, 100]⟩ m (by decide) hm hnm
 have hov : ¬ 9223372036854775807 < (lnB ⟨#[115, 116, 114, 111, 110, 103, 101, 115, 116]⟩ l).size + (lnB ⟨#[98, 101, 121, 111, 110, 100]⟩ m).size := by omega
 have hP := heap_alloc_new w (.cells #[.slice ao n acap, .slice bo n2 bcap] 56)
 have c0 : (w.alloc (.cells #[.slice ao n acap, .slice bo n2 bcap] 56)).cell? ⟨w.heap.size, 0, none⟩ = some (.slice ao n acap) := by simp only [World.cell?, hP]; rfl
 have c1 : (w.alloc (.cells #[.slice ao n acap, .slice bo n2 bcap] 56)).cell? ⟨w.heap.size, 1, none⟩ = some (.slice bo n2 bcap) := by simp only [World.cell?, hP]; rfl
 unfold posB
 generalize lnB ⟨#[115, 116, 114, 111, 110, 103, 101, 115, 116]⟩ l = S1 at *
 generalize lnB ⟨#[98, 101, 121, 111, 110, 100]⟩ m = S2 at *
 clear hK h1 h2 hP z1 z2 hl hm hnl hnm
 go_enter Tryz.func30, Tryz.ntmps30
 go_upto_region 1 with fail
 generalize w.alloc (.cells #[.slice ao n acap, .slice bo n2 bcap] 56) = w1 at *
 obtain ⟨g, hg⟩ : ∃ g, g = w.heap.size := ⟨_, rfl⟩
 rw [← hg] at hb c0 c1 ⊢
 have CA := hid (fun wx hx => CA.out wx (by rw [← hg]; exact hx))
 have CB := hid (fun wx hx => CB.out wx (by rw [← hg]; exact hx))
 have hgs : g ≤ w1.heap.size := by have := hb.size; rw [← hg] at this; exact this
 have HG := hid hg
 clear hg
 have kd := (Below.refl w1.heap.size w1).drew
 have c0 := (kd.cell (p := ⟨g, 0, none⟩) (block_lt c0)).trans c0
 have c1 := (kd.cell (p := ⟨g, 1, none⟩) (block_lt c1)).trans c1
 have HKD := hid kd
 have CA := hid (fun wx (hx : Below w1.heap.size w1 wx) => CA.out wx (hb.trans (hx.mono hgs)))
 have CB := hid (fun wx (hx : Below w1.heap.size w1 wx) => CB.out wx (hb.trans (hx.mono hgs)))
 clear kd
 refine wp_region_held_drew (S := fun wx => wx.cell? ⟨g, 0, none⟩ = some (.slice ao n acap) ∧ wx.cell? ⟨g, 1, none⟩ = some (.slice bo n2 bcap)) (by kernel_rfl) ⟨c0, c1⟩ (fun hS0 => ?_)
 generalize w1.drew = wd at *
 refine takeR (some 3) (i := 0) (v := ?vlt0x1) rfl rfl (by kernel_rfl) (by kernel_rfl) (by kernel_rfl) (fun _ _ _ h => h) (Or.inl ⟨by rfl, ?hlt0x1⟩) hS0 ?rlt0x1
 case hlt0x1 => (intro w hw; obtain ⟨m0, m1⟩ := hw; go_simp; try (with_reducible rfl))
 try simp only [Act.put, zA, zB, zC]
 refine takeR (some 4) (i := 1) (v := ?vlt1x2) rfl rfl (by kernel_rfl) (by kernel_rfl) (by kernel_rfl) (fun _ _ _ h => h) (Or.inl ⟨by rfl, ?hlt1x2⟩) hS0 ?rlt1x2
 case hlt1x2 => (intro w hw; obtain ⟨m0, m1⟩ := hw; go_simp; try (with_reducible rfl))
 try simp only [Act.put, zA, zB, zC]
 refine takeR (some 6) (i := 3) (v := ?vlt3x3) rfl rfl (by kernel_rfl) (by kernel_rfl) (by kernel_rfl) (fun _ _ _ h => h) (Or.inl ⟨by rfl, ?hlt3x3⟩) hS0 ?rlt3x3
 case hlt3x3 => (intro w hw; obtain ⟨m0, m1⟩ := hw; go_simp; try (with_reducible rfl))
 try simp only [Act.put, zA, zB, zC]
 refine takeR (some 7) (i := 4) (v := ?vlt4x4) rfl rfl (by kernel_rfl) (by kernel_rfl) (by kernel_rfl) (fun _ _ _ h => h) (Or.inl ⟨by rfl, ?hlt4x4⟩) hS0 ?rlt4x4
 case hlt4x4 => (intro w hw; obtain ⟨m0, m1⟩ := hw; go_simp; try (with_reducible rfl))
 try simp only [Act.put, zA, zB, zC]
 refine rD 2 rfl (fun K hK => ?_)
 go_simp
 refine (CA.out _ HKD.out).mono ?_
 rintro e wa ⟨rfl, hxwa⟩
 have HKD := hid (below_then HKD.out hxwa)
 have sA := And.intro ((hxwa.cell (p := ⟨g, 0, none⟩) (block_lt hS0.1)).trans hS0.1) ((hxwa.cell (p := ⟨g, 1, none⟩) (block_lt hS0.2)).trans hS0.2)
 have swa := sA
 show K _ _
 refine hK.out _ _ swa (fun _ => ?_)
 clear hK K
 refine rD 5 rfl (fun K hK => ?_)
 go_simp
 refine (CB.out _ HKD.out).mono ?_
 rintro e wb ⟨rfl, hxwb⟩
 have HKD := hid (below_then HKD.out hxwb)
 have sA := And.intro ((hxwb.cell (p := ⟨g, 0, none⟩) (block_lt swa.1)).trans swa.1) ((hxwb.cell (p := ⟨g, 1, none⟩) (block_lt swa.2)).trans swa.2)
 have swb := sA
 show K _ _
 refine hK.out _ _ swb (fun _ => ?_)
 clear hK K
 refine takeR (some 9) (i := 6) (v := ?vlt6x7) rfl rfl (by kernel_rfl) (by kernel_rfl) (by kernel_rfl) (fun _ _ _ h => h) (Or.inl ⟨by rfl, ?hlt6x7⟩) swb ?rlt6x7
 case hlt6x7 => (intro w hw; obtain ⟨m0, m1⟩ := hw; go_simp; try (with_reducible rfl))
 try simp only [Act.put, zA, zB, zC]
 refine takeR (some 2) (i := 7) (v := ?vlt7x8) rfl rfl (by kernel_rfl) (by kernel_rfl) (by kernel_rfl) (fun _ _ _ h => h) (Or.inl ⟨by rfl, ?hlt7x8⟩) swb ?rlt7x8
 case hlt7x8 => (intro w hw; obtain ⟨m0, m1⟩ := hw; go_simp; try (with_reducible rfl))
 try simp only [Act.put, zA, zB, zC]
 refine wpAnyH_done (by kernel_rfl) ?_ _
 have hz := hb.trans (HKD.out.mono hgs)
 clear HKD CA CB
 go_wp2_with fail
 go_ret
 exact ⟨rfl, by rw [← HG.out]; exact hz⟩
end

section
open Go.RowKit
theorem posrow_any (ao : Option Addr) (n acap : Nat) (v2 : Value) (bo : Option Addr) (n2 bcap : Nat) (h2 : v2 = .slice bo n2 bcap) (xs : List Int) (w : World) (hK : Kinds w) (hI : Ints w (.slice ao n acap) xs) :
  Calls Tryz.prog 29 #[.agg #[.slice ao n acap, v2]] w fun e w' => e = .returned (.agg (rowB (blw xs))) ∧ Below w.heap.size w w' := by
 subst h2
 have hb := ((Below.refl w.heap.size w).alloc (Nat.le_refl _) (.cells #[.slice ao n acap, .slice bo n2 bcap] 56)).alloc (by simp) (.cells #[.bool false, .bool false, .bool false, .bool false, .bool false, .bool false, .bool false, .bool false, .bool false, .bool false, .bool false, .bool false] 38)
 have hP := heap_alloc_new w (.cells #[.slice ao n acap, .slice bo n2 bcap] 56)
 have c0 : (w.alloc (.cells #[.slice ao n acap, .slice bo n2 bcap] 56)).cell? ⟨w.heap.size, 0, none⟩ = some (.slice ao n acap) := by simp only [World.cell?, hP]; rfl
 have c0 := (((Below.refl _ (w.alloc (.cells #[.slice ao n acap, .slice bo n2 bcap] 56))).alloc (Nat.le_refl _) (.cells #[.bool false, .bool false, .bool false, .bool false, .bool false, .bool false, .bool false, .bool false, .bool false, .bool false, .bool false, .bool false] 38)).cell (p := ⟨w.heap.size, 0, none⟩) (block_lt c0)).trans c0
 have h0 : BRow ((w.alloc (.cells #[.slice ao n acap, .slice bo n2 bcap] 56)).alloc (.cells #[.bool false, .bool false, .bool false, .bool false, .bool false, .bool false, .bool false, .bool false, .bool false, .bool false, .bool false, .bool false] 38)) (w.heap.size + 1) noB := BRow.made _ noB (by simp) rowB_none.symm
 have hsz : w.heap.size + 2 ≤ ((w.alloc (.cells #[.slice ao n acap, .slice bo n2 bcap] 56)).alloc (.cells #[.bool false, .bool false, .bool false, .bool false, .bool false, .bool false, .bool false, .bool false, .bool false, .bool false, .bool false, .bool false] 38)).heap.size := by simp
 have CB := hid (tbelow_any _ xs _ (hK.below hb) (hI.below hb))
 clear hK hI hP
 go_enter Tryz.func29, Tryz.ntmps29
 go_upto_region 1 with fail
 generalize (w.alloc (.cells #[.slice ao n acap, .slice bo n2 bcap] 56)).alloc (.cells #[.bool false, .bool false, .bool false, .bool false, .bool false, .bool false, .bool false, .bool false, .bool false, .bool false, .bool false, .bool false] 38) = w1 at *
 go_wp2_with fail
 refine (CB.out).mono ?_
 rintro e w6 ⟨rfl, hb6⟩
 have h6 := h0.below hb6 h0.lt
 have hb7 := hb.trans (hb6.mono hb.size)
 clear CB hb6 hb h0 c0
 go_wp2_with (with_reducible refine wpList_store_rowB h6 (blw xs) rfl _ _ rfl rfl rfl ?_)
 have h3 := h6.setRow (blw xs)
 exact bodyPost_ret (results_rowB rfl _ _ _ _ rfl h3) rfl ⟨rfl, below_setRow hb7 (by omega) _⟩
theorem PosO.text {w wx : World} {b : Nat} {v1 v2 : Value} {r : Nat → Bool} (h : PosO w b v1 v2 (strTo r 12) (wkTo r 12)) (hK : Kinds wx) (hb : Below w.heap.size w wx) :
  Calls Tryz.prog 30 #[.agg #[v1, v2]] wx fun e w' => e = .returned (.string (posB (strTo r 12) (wkTo r 12))) ∧ Below wx.heap.size wx w' := by
 have q := h.below hb
 obtain ⟨a1, n1, k1, rfl⟩ := pos_form q.1
 obtain ⟨a2, n2, k2, rfl⟩ := pos_form q.2
 exact ptext_any a1 n1 k1 a2 n2 k2 _ _ wx hK (ints_lev q.1) (ints_lev q.2) (strTo_lt r) (wkTo_lt r) (strTo_len r 12) (wkTo_len r 12)
theorem PosO.row {w wx : World} {b : Nat} {v1 v2 : Value} {r : Nat → Bool} (h : PosO w b v1 v2 (strTo r 12) (wkTo r 12)) (hK : Kinds wx) (hb : Below w.heap.size w wx) :
  Calls Tryz.prog 29 #[.agg #[v1, v2]] wx fun e w' => e = .returned (.agg (rowB (blw (stI r)))) ∧ Below wx.heap.size wx w' := by
 have q := h.below hb
 obtain ⟨a1, n1, k1, rfl⟩ := pos_form q.1
 obtain ⟨a2, n2, k2, rfl⟩ := pos_form q.2
 exact posrow_any a1 n1 k1 _ a2 n2 k2 rfl _ wx hK (ints_lev q.1)
end

section
open Go.RowKit
theorem results_pos2 {fn : Func} {p u : Tmp} (h : fn.results = #[.cell p 56, .tmp u]) (tmps : Array Value) (w : World) (g : Nat) (a1 a2 : Option Addr) (n1 k1 n2 k2 : Nat)
  (hp : tmps.getD p undef = .pointer (some ⟨g, 0, none⟩)) (hg : w.heap[g]? = some (.cells #[.slice a1 n1 k1, .slice a2 n2 k2] 56 (0, 0))) : (results fn tmps).run Tryz.prog w = .ok (.tuple #[.agg #[.slice a1 n1 k1, .slice a2 n2 k2], tmps.getD u undef]) w := by
 have hp' : tmps[p]?.getD undef = .pointer (some ⟨g, 0, none⟩) := by simpa using hp
 simp [results, h, hp', asAddr, run_loadVar_row w g _ 56 #[.slice a1 n1 k1, .slice a2 n2 k2] _ _ hg Tryz.underlying56 rfl infoPos]
end

section
open Go.RowKit
def enoughN (t o : Int) : Nat := if t < 0 ∨ 64 < t ∨ o < 0 then 4611686018427387904 else timesN (levZ t) 12
theorem enough_any (t o : Int) (w : World) : Calls Tryz.prog 23 #[.int .i64 t, .int .i64 o] w fun e w' => e = .returned (.int .i64 ((enoughN t o : Nat) : Int)) ∧ w = w' := by
 have CA := hid (fall_any t w)
 by_cases h1 : t < 0
 ·have HE : Hid (((enoughN t o : Nat) : Int) = 4611686018427387904) := hid (by unfold enoughN; rw [if_pos (.inl h1)]; rfl)
  go_enter Tryz.func23, Tryz.ntmps23
  go_wp2_with fail
  go_ret
  exact ⟨by rw [HE.out]; rfl, rfl⟩
 by_cases h2 : 64 < t
 ·have HE : Hid (((enoughN t o : Nat) : Int) = 4611686018427387904) := hid (by unfold enoughN; rw [if_pos (.inr (.inl h2))]; rfl)
  go_enter Tryz.func23, Tryz.ntmps23
  go_wp2_with fail
  go_ret
  exact ⟨by rw [HE.out]; rfl, rfl⟩
 by_cases h3 : o < 0
 ·have HE : Hid (((enoughN t o : Nat) : Int) = 4611686018427387904) := hid (by unfold enoughN; rw [if_pos (.inr (.inr h3))]; rfl)
  go_enter Tryz.func23, Tryz.ntmps23
  go_wp2_with fail
  go_ret
  exact ⟨by rw [HE.out]; rfl, rfl⟩
 have HE : Hid (((enoughN t o : Nat) : Int) = ((timesN (levZ t) 12 : Nat) : Int)) := hid (by unfold enoughN; rw [if_neg (by omega)])
 go_enter Tryz.func23, Tryz.ntmps23
 go_wp2_with fail
 refine CA.out.mono ?_
 rintro e w1 ⟨rfl, rfl⟩
 go_wp2_with fail
 go_ret
 exact ⟨by rw [HE.out]; rfl, rfl⟩
theorem OutAt.made (w : World) (t : TypeId) (k n : Int) (r : Nat → Bool) (ws : Nat → Value × Value) : OutAt (w.alloc (.cells (outL k n r ws).toArray t)) w.heap.size k n r ws := fun i u hu => by
 have hn := heap_alloc_new w (.cells (outL k n r ws).toArray t)
 refine ⟨?_, frozen_of_row _ _ _ _ _ hn⟩
 rw [cell_of_row _ _ _ _ _ _ hn]
 simpa using hu
section
variable {w : World} {g : Nat} {k n : Int} {r : Nat → Bool} {ws : Nat → Value × Value}
theorem OutAt.kind (h : OutAt w g k n r ws) : w.cell? ⟨g, 0, none⟩ = some (.int .i64 k) := (h 0 _ rfl).1
theorem OutAt.line (h : OutAt w g k n r ws) : w.cell? ⟨g, 1, none⟩ = some (.int .i64 n) := (h 1 _ rfl).1
theorem outL_vec (k n : Int) (r : Nat → Bool) (ws : Nat → Value × Value) {i : Nat} (hi : i < 36) : (outL k n r ws)[2 + i]? = some (vecF r ws i) := by
 unfold outL
 rw [show 2 + i = i + 1 + 1 by omega, List.getElem?_cons_succ, List.getElem?_cons_succ, vecL_at r ws hi]
theorem OutAt.row (h : OutAt w g k n r ws) : w.rangeAt g 2 (rowB r).toList := fun j v hv => by
 have hj : j < 12 := by
  have := (List.getElem?_eq_some_iff.1 hv).1
  simpa [rowB] using this
 rw [(h (2 + j) _ (outL_vec k n r ws (by omega))).1, ← hv]
 unfold vecF
 rw [if_pos hj]
 simp [rowB, hj]
theorem OutAt.vec (h : OutAt w g k n r ws) : w.rangeAt g 2 (vecL r ws) := fun j v hv => by
 have hj : j < 36 := by
  have := (List.getElem?_eq_some_iff.1 hv).1
  rwa [vecL_len] at this
 rw [(h (2 + j) _ (outL_vec k n r ws hj)).1, ← hv, vecL_at r ws hj]
theorem OutAt.bit (h : OutAt w g k n r ws) {l : Nat} (hl : l < 12) : w.cell? ⟨g, 2 + l, none⟩ = some (.bool (r l)) := by
 rw [(h (2 + l) _ (outL_vec k n r ws (by omega))).1]
 unfold vecF
 rw [if_pos hl]
end
theorem cpos_yes (n : Int) (r : Nat → Bool) (ws : Nat → Value × Value) (w : World) (hK : Kinds w) :
  Calls Tryz.prog 20 #[.agg (outL 4 n r ws).toArray] w fun e w' => (∃ v1 v2, e = .returned (.tuple #[.agg #[v1, v2], .bool true]) ∧ PosO w' w.heap.size v1 v2 (strTo r 12) (wkTo r 12)) ∧ Below w.heap.size w w' := by
 have O1 := OutAt.made w 52 4 n r ws
 have hb1 := box_below w (.cells (outL 4 n r ws).toArray 52)
 have hs1 : (w.alloc (.cells (outL 4 n r ws).toArray 52)).heap.size = w.heap.size + 1 := by simp
 have HK := hid (fun wx (hx : Below w.heap.size w wx) => hK.below hx)
 clear hK
 go_enter Tryz.func20, Tryz.ntmps20
 go_upto_region 1 with fail
 generalize w.alloc (.cells (outL 4 n r ws).toArray 52) = w1 at *
 have hP := heap_alloc_new w1 (.cells #[.slice none 0 0, .slice none 0 0] 56)
 have hb2 := box_below w1 (.cells #[.slice none 0 0, .slice none 0 0] 56)
 have hlt : w1.heap.size < (w1.alloc (.cells #[.slice none 0 0, .slice none 0 0] 56)).heap.size := by simp
 have O2 := O1.below hb2 O1.lt
 have hb3 := below_then hb1 hb2
 have n0 := O2.kind
 have hrow := O2.row
 have hgw : w.heap.size < w1.heap.size := by omega
 generalize w1.heap.size = q1 at *
 subst hs1
 generalize w1.alloc (.cells #[.slice none 0 0, .slice none 0 0] 56) = w2 at *
 have CL := hid (latof_any r w2 (HK.out _ hb3))
 clear O1 O2 hb1 hb2
 go_wp2_with (with_reducible refine wpList_load_mid rfl 38 _ rfl w.heap.size 2 rfl (rowB r).toList _ hrow Tryz.underlying38 rfl (by kernel_rfl) ?_)
 refine CL.out.mono ?_
 rintro e w5 ⟨v1, v2, rfl, hO, h5⟩
 obtain ⟨a1, n1, k1, rfl⟩ := pos_form hO.1
 obtain ⟨a2, n2, k2, rfl⟩ := pos_form hO.2
 have hP2 := (h5.block _ hlt).trans hP
 have hb5 := below_then hb3 h5
 have hO9 : PosO (w5.setRow (w.heap.size + 1) #[.slice a1 n1 k1, .slice a2 n2 k2]) w.heap.size (.slice a1 n1 k1) (.slice a2 n2 k2) (strTo r 12) (wkTo r 12) := ⟨own_base0 (owns_setRow hO.1 (by omega) _) (by omega), own_base0 (owns_setRow hO.2 (by omega) _) (by omega)⟩
 have HO9 := hid hO9
 have hone : (#[Value.slice a1 n1 k1, Value.slice a2 n2 k2] : Array Value).all (·.oneCell') = true := by simp [Value.oneCell']
 have hb9 := below_setRow hb5 (show w.heap.size ≤ (w.heap.size + 1) by omega) #[.slice a1 n1 k1, .slice a2 n2 k2]
 clear CL hO h5 hb3 hrow hO9 n0 hP hlt hb5
 go_wp2_with (with_reducible refine wpList_store_row rfl 56 _ _ rfl (w.heap.size + 1) #[.slice a1 n1 k1, .slice a2 n2 k2] rfl rfl _ _ hP2 infoPos rfl hone ?_)
 exact bodyPost_ret (results_pos2 rfl _ _ (w.heap.size + 1) _ _ _ _ _ _ rfl (setRow_heap _ _ _ _ _ _ hP2)) rfl ⟨⟨_, _, rfl, HO9.out⟩, hb9⟩
theorem empty_run : runL (linesB ⟨#[]⟩) = some [] ∧ endedB ⟨#[]⟩ = true := by decide +kernel
theorem empty_acc : ∀ l : Fin 12, accV [] l.val = true := by decide +kernel
theorem vec_none : ∀ j, j ≤ 12 → (vecTo [] j).2 = 0 := by decide +kernel
theorem str_all {r : Nat → Bool} (h : ∀ l, l < 12 → r l = true) : strTo r 12 = [11] := by
 have e : strTo r 12 = strTo (fun _ => true) 12 := by
  unfold strTo abv abvTo
  refine List.filter_congr fun b hb => ?_
  have hb := List.mem_range.1 hb
  rw [h b hb]
  congr 2
  refine any_alike _ fun a ha => ?_
  rw [h a (List.mem_range.1 ha)]
 rw [e]
 decide +kernel
theorem bad_line : ¬ ∃ E, runL (linesB ⟨#[116, 120, 110, 32, 48, 32, 49, 10]⟩) = some E := by
 rw [show runL (linesB ⟨#[116, 120, 110, 32, 48, 32, 49, 10]⟩) = none from by decide +kernel]
 rintro ⟨E, h⟩
 cases h
end

section
open Go.RowKit
theorem OutAt.cells {w : World} {g : Nat} {k n : Int} {r : Nat → Bool} {ws : Nat → Value × Value} (h : OutAt w g k n r ws) {g' : Nat} (hne : g ≠ g') (o : Nat) (vs : List Value) : OutAt (w.setCells g' o vs) g k n r ws := fun i u hu => by
 obtain ⟨h1, h2⟩ := h i u hu
 rw [World.frozen?_setCells]
 refine ⟨?_, h2⟩
 rw [cell_put (p := ⟨g, i, none⟩) hne]
 exact h1
theorem out_put (w : World) (k n : Int) (r : Nat → Bool) (ws : Nat → Value × Value) : OutAt ((w.alloc (.cells #[.int .i64 0, .int .i64 0, .bool false, .bool false, .bool false, .bool false, .bool false, .bool false, .bool false, .bool false, .bool false, .bool false, .bool false, .bool false, .slice none 0 0, .slice none 0 0, .slice none 0 0, .slice none 0 0, .slice none 0 0, .slice none 0 0, .slice none 0 0, .slice none 0 0, .slice none 0 0, .slice none 0 0, .slice none 0 0, .slice none 0 0, .slice none 0 0, .slice none 0 0, .slice none 0 0, .slice none 0 0, .slice none 0 0, .slice none 0 0, .slice none 0 0, .slice none 0 0, .slice none 0 0, .slice none 0 0, .slice none 0 0, .slice none 0 0] 52)).setCells w.heap.size 0 (outL k n r ws)) w.heap.size k n r ws ∧ Below w.heap.size w ((w.alloc (.cells #[.int .i64 0, .int .i64 0, .bool false, .bool false, .bool false, .bool false, .bool false, .bool false, .bool false, .bool false, .bool false, .bool false, .bool false, .bool false, .slice none 0 0, .slice none 0 0, .slice none 0 0, .slice none 0 0, .slice none 0 0, .slice none 0 0, .slice none 0 0, .slice none 0 0, .slice none 0 0, .slice none 0 0, .slice none 0 0, .slice none 0 0, .slice none 0 0, .slice none 0 0, .slice none 0 0, .slice none 0 0, .slice none 0 0, .slice none 0 0, .slice none 0 0, .slice none 0 0, .slice none 0 0, .slice none 0 0, .slice none 0 0, .slice none 0 0] 52)).setCells w.heap.size 0 (outL k n r ws)) ∧ (w.alloc (.cells #[.int .i64 0, .int .i64 0, .bool false, .bool false, .bool false, .bool false, .bool false, .bool false, .bool false, .bool false, .bool false, .bool false, .bool false, .bool false, .slice none 0 0, .slice none 0 0, .slice none 0 0, .slice none 0 0, .slice none 0 0, .slice none 0 0, .slice none 0 0, .slice none 0 0, .slice none 0 0, .slice none 0 0, .slice none 0 0, .slice none 0 0, .slice none 0 0, .slice none 0 0, .slice none 0 0, .slice none 0 0, .slice none 0 0, .slice none 0 0, .slice none 0 0, .slice none 0 0, .slice none 0 0, .slice none 0 0, .slice none 0 0, .slice none 0 0] 52)).there w.heap.size 0 (outL k n r ws).toArray.size :=
 ⟨(OutAt.zero w).put k n r ws, below_putC (Nat.le_refl _) _ _ _ (box_below w _), by rw [show (outL k n r ws).toArray.size = 38 from outL_len _ _ _ _]; exact (OutAt.zero w).there (by omega)⟩
theorem parse_fails {s : ByteArray} {b : Nat} {w : World} {v : Value} {n x : Int} {c : List TxnV} (h : ParseRes s b w (.returned (.tuple #[v, .int .i64 n, .int .i64 x]))) (hx : x ≠ 0) (hr : runL (linesB s) = some (c.map txE)) (he : endedB s = true) (hc : checkI c = 0) : False := by
 rcases h with ⟨k, hk, _, hno, _⟩ | ⟨d, hd, hR⟩
 ·rw [runL_stop hno] at hr; cases hr
 ·rw [hr] at hd
  have hce := Option.some.inj hd
  rcases hR with ⟨q, _⟩ | ⟨_, q, _⟩ | ⟨_, _, v', e, _⟩
  ·rw [he] at q; cases q
  ·exact q ((checkI_txE hce).symm.trans hc)
  ·simp at e
   exact hx e.2.2
theorem check_empty (w : World) (he : EnvM w) (ht : Tab w) (hK : Kinds w) : Calls Tryz.prog 19 #[.string ⟨#[]⟩, .int .i64 0] w fun e w' => (∃ ws, e = .returned (.agg (outL 4 0 (accV []) ws).toArray) ∧ WitsIn [] ws w.heap.size w') ∧ Below w.heap.size w w' := by
 refine (ccheck_any ⟨#[]⟩ 0 w he (by decide) ht hK (fun c hr _ _ => by
  rw [empty_run.1] at hr
  have := congrArg List.length (Option.some.inj hr)
  simp at this
  omega)).mono ?_
 rintro e w' ⟨hq, hb⟩
 refine ⟨?_, hb⟩
 rcases hq with ⟨n, x, b, w0, hx, hP, _⟩ | ⟨c, hr, _, _, hq⟩
 ·exact (parse_fails (c := []) hP hx empty_run.1 empty_run.2 rfl).elim
 ·rw [empty_run.1] at hr
  have hc0 : c = [] := by
   have := congrArg List.length (Option.some.inj hr)
   simpa using this.symm
  subst hc0
  rcases hq with ⟨_, ws, e1, e2⟩ | ⟨hn, _⟩
  ·exact ⟨ws, e1, e2⟩
  ·exfalso
   apply hn
   right
   rw [vec_none 12 (Nat.le_refl _)]
   exact Nat.zero_le _
theorem check_bad (w : World) (he : EnvM w) (ht : Tab w) (hK : Kinds w) : Calls Tryz.prog 19 #[.string ⟨#[116, 120, 110, 32, 48, 32, 49, 10]⟩, .int .i64 0] w fun e w' => e = .returned (.agg (outL 1 1 noB wZ0).toArray) ∧ Below w.heap.size w w' := by
 refine (ccheck_any ⟨#[116, 120, 110, 32, 48, 32, 49, 10]⟩ 0 w he (by decide) ht hK (fun c hr _ _ => (bad_line ⟨_, hr⟩).elim)).mono ?_
 rintro e w' ⟨hq, hb⟩
 refine ⟨?_, hb⟩
 rcases hq with ⟨n, x, b, w0, hx, hP, rfl⟩ | ⟨c, hr, _⟩
 ·rcases hP with ⟨k, hk, _, _, e⟩ | ⟨d, hd, _⟩
  ·have hl : (linesB ⟨#[116, 120, 110, 32, 48, 32, 49, 10]⟩).length = 1 := by decide +kernel
   have hk0 : k = 0 := by omega
   subst hk0
   simp at e
   obtain ⟨rfl, rfl⟩ := e
   rfl
  ·exact (bad_line ⟨_, hd⟩).elim
 ·exact (bad_line ⟨_, hr⟩).elim
theorem speaks25_any (w : World) (he : EnvM w) (ht : Tab w) (hK : Kinds w) :
  Calls Tryz.prog 17 #[] w fun e w' => e = .returned (.bool true) ∧ Below w.heap.size w w' := by
 have hg := ht.pos
 have HT : Hid (∀ wx, Below w.heap.size w wx → EnvM wx ∧ Tab wx ∧ Kinds wx) := hid (fun wx hb => ⟨he.below hb, ht.below hb hg, hK.below hb⟩)
 have C1 := hid (check_empty w he ht hK)
 clear he ht hK hg
 go_enter Tryz.func17, Tryz.ntmps17
 go_wp2_with fail
 refine C1.out.mono ?_
 rintro e wa ⟨⟨ws, rfl, hW⟩, ha⟩
 have q := HT.out _ ha
 have C2 := hid (check_bad wa q.1 q.2.1 q.2.2)
 clear C1 q
 go_wp2_with fail
 refine C2.out.mono ?_
 rintro e w2 ⟨rfl, h2⟩
 have hb2 := below_then ha h2
 have hW2 := hW.below h2
 have hoA := outL_oneW (k := 4) (n := 0) hW2 (accV [])
 have hoB := outL_one (k := 1) (n := 1) (wZ0_one noB)
 have hiA := info_outA 4 0 (accV []) ws
 have hiB := info_outA 1 1 noB wZ0
 have hA0 := OutAt.zero w2
 have hx1 := box_below w2 (.cells #[.int .i64 0, .int .i64 0, .bool false, .bool false, .bool false, .bool false, .bool false, .bool false, .bool false, .bool false, .bool false, .bool false, .bool false, .bool false, .slice none 0 0, .slice none 0 0, .slice none 0 0, .slice none 0 0, .slice none 0 0, .slice none 0 0, .slice none 0 0, .slice none 0 0, .slice none 0 0, .slice none 0 0, .slice none 0 0, .slice none 0 0, .slice none 0 0, .slice none 0 0, .slice none 0 0, .slice none 0 0, .slice none 0 0, .slice none 0 0, .slice none 0 0, .slice none 0 0, .slice none 0 0, .slice none 0 0, .slice none 0 0, .slice none 0 0] 52)
 have hx2 := box_below (w2.alloc (.cells #[.int .i64 0, .int .i64 0, .bool false, .bool false, .bool false, .bool false, .bool false, .bool false, .bool false, .bool false, .bool false, .bool false, .bool false, .bool false, .slice none 0 0, .slice none 0 0, .slice none 0 0, .slice none 0 0, .slice none 0 0, .slice none 0 0, .slice none 0 0, .slice none 0 0, .slice none 0 0, .slice none 0 0, .slice none 0 0, .slice none 0 0, .slice none 0 0, .slice none 0 0, .slice none 0 0, .slice none 0 0, .slice none 0 0, .slice none 0 0, .slice none 0 0, .slice none 0 0, .slice none 0 0, .slice none 0 0, .slice none 0 0, .slice none 0 0] 52)) (.cells #[.int .i64 0, .int .i64 0, .bool false, .bool false, .bool false, .bool false, .bool false, .bool false, .bool false, .bool false, .bool false, .bool false, .bool false, .bool false, .slice none 0 0, .slice none 0 0, .slice none 0 0, .slice none 0 0, .slice none 0 0, .slice none 0 0, .slice none 0 0, .slice none 0 0, .slice none 0 0, .slice none 0 0, .slice none 0 0, .slice none 0 0, .slice none 0 0, .slice none 0 0, .slice none 0 0, .slice none 0 0, .slice none 0 0, .slice none 0 0, .slice none 0 0, .slice none 0 0, .slice none 0 0, .slice none 0 0, .slice none 0 0, .slice none 0 0] 52)
 have hs1 : (w2.alloc (.cells #[.int .i64 0, .int .i64 0, .bool false, .bool false, .bool false, .bool false, .bool false, .bool false, .bool false, .bool false, .bool false, .bool false, .bool false, .bool false, .slice none 0 0, .slice none 0 0, .slice none 0 0, .slice none 0 0, .slice none 0 0, .slice none 0 0, .slice none 0 0, .slice none 0 0, .slice none 0 0, .slice none 0 0, .slice none 0 0, .slice none 0 0, .slice none 0 0, .slice none 0 0, .slice none 0 0, .slice none 0 0, .slice none 0 0, .slice none 0 0, .slice none 0 0, .slice none 0 0, .slice none 0 0, .slice none 0 0, .slice none 0 0, .slice none 0 0] 52)).heap.size = w2.heap.size + 1 := by simp
 have hA1 := hA0.below hx2 hA0.lt
 have hB1 := OutAt.zero (w2.alloc (.cells #[.int .i64 0, .int .i64 0, .bool false, .bool false, .bool false, .bool false, .bool false, .bool false, .bool false, .bool false, .bool false, .bool false, .bool false, .bool false, .slice none 0 0, .slice none 0 0, .slice none 0 0, .slice none 0 0, .slice none 0 0, .slice none 0 0, .slice none 0 0, .slice none 0 0, .slice none 0 0, .slice none 0 0, .slice none 0 0, .slice none 0 0, .slice none 0 0, .slice none 0 0, .slice none 0 0, .slice none 0 0, .slice none 0 0, .slice none 0 0, .slice none 0 0, .slice none 0 0, .slice none 0 0, .slice none 0 0, .slice none 0 0, .slice none 0 0] 52))
 rw [hs1] at hB1
 have hthA := hA1.there (o := 0) (m := (outL 4 0 (accV []) ws).toArray.size) (by rw [show (outL 4 0 (accV []) ws).toArray.size = 38 from outL_len _ _ _ _]; omega)
 have hA2 := hA1.put 4 0 (accV []) ws
 have hB2 := hB1.cells (g' := w2.heap.size) (by omega) 0 (outL 4 0 (accV []) ws)
 have hthB := hB2.there (o := 0) (m := (outL 1 1 noB wZ0).toArray.size) (by rw [show (outL 1 1 noB wZ0).toArray.size = 38 from outL_len _ _ _ _]; omega)
 have hB3 := hB2.put 1 1 noB wZ0
 have hA3 := hA2.cells (g' := w2.heap.size + 1) (by omega) 0 (outL 1 1 noB wZ0)
 have hb3 := below_then hb2 (below_putC (show w2.heap.size ≤ w2.heap.size + 1 by omega) (outL 1 1 noB wZ0) 0 _ (below_putC (Nat.le_refl w2.heap.size) (outL 4 0 (accV []) ws) 0 _ (below_then hx1 hx2)))
 clear C2 h2 hb2 hW2 hA0 hx1 hx2 hs1 hA1 hB1 hA2 hB2 hW ha
 go_upto_region 2 with (first | (with_reducible refine wpList_store_mid rfl 52 _ _ rfl w2.heap.size 0 (outL 4 0 (accV []) ws).toArray rfl rfl hthA hiA hoA ?_) | (with_reducible refine wpList_store_mid rfl 52 _ _ rfl (w2.heap.size + 1) 0 (outL 1 1 noB wZ0).toArray rfl rfl hthB hiB hoB ?_))
 generalize (((w2.alloc (.cells #[.int .i64 0, .int .i64 0, .bool false, .bool false, .bool false, .bool false, .bool false, .bool false, .bool false, .bool false, .bool false, .bool false, .bool false, .bool false, .slice none 0 0, .slice none 0 0, .slice none 0 0, .slice none 0 0, .slice none 0 0, .slice none 0 0, .slice none 0 0, .slice none 0 0, .slice none 0 0, .slice none 0 0, .slice none 0 0, .slice none 0 0, .slice none 0 0, .slice none 0 0, .slice none 0 0, .slice none 0 0, .slice none 0 0, .slice none 0 0, .slice none 0 0, .slice none 0 0, .slice none 0 0, .slice none 0 0, .slice none 0 0, .slice none 0 0] 52)).alloc (.cells #[.int .i64 0, .int .i64 0, .bool false, .bool false, .bool false, .bool false, .bool false, .bool false, .bool false, .bool false, .bool false, .bool false, .bool false, .bool false, .slice none 0 0, .slice none 0 0, .slice none 0 0, .slice none 0 0, .slice none 0 0, .slice none 0 0, .slice none 0 0, .slice none 0 0, .slice none 0 0, .slice none 0 0, .slice none 0 0, .slice none 0 0, .slice none 0 0, .slice none 0 0, .slice none 0 0, .slice none 0 0, .slice none 0 0, .slice none 0 0, .slice none 0 0, .slice none 0 0, .slice none 0 0, .slice none 0 0, .slice none 0 0, .slice none 0 0] 52)).setCells w2.heap.size 0 (outL 4 0 (accV []) ws)).setCells (w2.heap.size + 1) 0 (outL 1 1 noB wZ0) = w3 at *
 generalize w2.heap.size = g1 at *
 have CP := hid (cpos_yes 0 (accV []) ws w3 (HT.out _ hb3).2.2)
 have hall := hA3.all
 have hio := info_out 4 0 (accV []) ws
 have HA3 := hid hA3
 have HB3 := hid hB3
 clear hthA hthB hoA hoB hiA hiB hA3 hB3
 go_wp2_with (with_reducible refine wpList_load_mid rfl 52 _ rfl g1 0 rfl (outL 4 0 (accV []) ws) _ hall Tryz.underlying52 rfl hio ?_)
 refine CP.out.mono ?_
 rintro e w4 ⟨⟨v1, v2, rfl, hO⟩, h4⟩
 obtain ⟨a1, n1, k1, rfl⟩ := pos_form hO.1
 obtain ⟨a2, n2, k2, rfl⟩ := pos_form hO.2
 have hn1 : n1 = 1 := by
  have h1 := hO.1
  rw [str_all (fun l hl => empty_acc ⟨l, hl⟩)] at h1
  rcases h1.2 with q | ⟨_, _, _, q, _⟩
  ·exact absurd q.2 (by decide)
  ·simp at q; exact q.2.1
 subst hn1
 have hb4 := below_then hb3 h4
 have hx5 := box_below w4 (.cells #[.slice a1 1 k1, .slice a2 n2 k2] 56)
 have hP := heap_alloc_new w4 (.cells #[.slice a1 1 k1, .slice a2 n2 k2] 56)
 have c0 : (w4.alloc (.cells #[.slice a1 1 k1, .slice a2 n2 k2] 56)).cell? ⟨w4.heap.size, 0, none⟩ = some (.slice a1 1 k1) := by simp only [World.cell?, hP]; rfl
 have A5 := (HA3.out.below h4 HA3.out.lt)
 have A5 := A5.below hx5 A5.lt
 have B5 := (HB3.out.below h4 HB3.out.lt)
 have B5 := B5.below hx5 B5.lt
 have hb5 := below_then hb4 hx5
 have nA := A5.kind
 have nR := A5.bit (l := 11) (by omega)
 rw [empty_acc ⟨11, by decide⟩] at nR
 have nB := B5.kind
 have nL := B5.line
 have CE := hid (fun wx => enough_any 3 5 wx)
 rw [show ((enoughN 3 5 : Nat) : Int) = 216 from by decide +kernel] at CE
 clear CP hall hio HA3 HB3 hO h4 hb4 hx5 hP A5 B5 hb3
 go_upto_region 3 with fail
 generalize w4.alloc (.cells #[.slice a1 1 k1, .slice a2 n2 k2] 56) = w5 at *
 go_wp2_with fail
 refine (CE.out _).mono ?_
 rintro e w6 ⟨rfl, rfl⟩
 go_wp2_with fail
 go_ret
 exact ⟨rfl, hb5⟩
theorem check_run {s : ByteArray} {h : List TxnV} (hrun : runL (linesB s) = some (h.map txE)) (hend : endedB s = true) (hc : checkI h = 0) (hs : s.size ≤ 100000) (hn : h.length ≤ 7) (much : Int) (w : World) (he : EnvM w) (ht : Tab w) (hK : Kinds w) :
  Calls Tryz.prog 19 #[.string s, .int .i64 much] w fun e w' => ((Lasts (fuelN much) 0 (vecTo h 12).2 ∧ ∃ ws, e = .returned (.agg (outL 4 0 (accV h) ws).toArray) ∧ WitsIn h ws w.heap.size w') ∨ (¬ Lasts (fuelN much) 0 (vecTo h 12).2 ∧ e = .returned (.agg (outL 3 0 noB wZ0).toArray))) ∧ Below w.heap.size w w' := by
 refine (ccheck_any _ much w he hs ht hK (fun c hr _ _ => by
  rw [hrun] at hr
  rw [← txE_len (Option.some.inj hr)]
  exact hn)).mono ?_
 rintro e w' ⟨hq, hb⟩
 refine ⟨?_, hb⟩
 rcases hq with ⟨n, x, b, w0, hx, hP, _⟩ | ⟨c, hr, _, _, hq⟩
 ·exact (parse_fails hP hx hrun hend hc).elim
 ·rw [hrun] at hr
  have hce := (Option.some.inj hr).symm
  have e1 : accV c = accV h := acc_txE hce
  have e2 : vecTo c = vecTo h := by
   have : vecStep c = vecStep h := by unfold vecStep; rw [dec_txE hce, decW_txE hce]
   unfold vecTo
   rw [this]
  rw [e1, e2] at hq
  refine hq.imp (fun ⟨q, ws, e3, e4⟩ => ⟨q, ws, e3, ?_⟩) id
  intro i hi
  have := e4 i hi
  rw [decW_txE hce] at this
  exact this
theorem check_pr {h : List TxnV} (hok : ∀ t ∈ h, t.ok) (hc : checkI h = 0) (hn : h.length ≤ 7) (much : Int) (w : World) (he : EnvM w) (ht : Tab w) (hK : Kinds w) :
  Calls Tryz.prog 19 #[.string ⟨(prTxt h).toArray⟩, .int .i64 much] w fun e w' => ((Lasts (fuelN much) 0 (vecTo h 12).2 ∧ ∃ ws, e = .returned (.agg (outL 4 0 (accV h) ws).toArray) ∧ WitsIn h ws w.heap.size w') ∨ (¬ Lasts (fuelN much) 0 (vecTo h 12).2 ∧ e = .returned (.agg (outL 3 0 noB wZ0).toArray))) ∧ Below w.heap.size w w' := by
 obtain ⟨h1, h2, h3⟩ := checkI_right hc
 have hl := prTxt_len2 h hok
 have hs : (⟨(prTxt h).toArray⟩ : ByteArray).size ≤ 100000 := by
  have e : (⟨(prTxt h).toArray⟩ : ByteArray).size = (prTxt h).length := by simp [ByteArray.size]
  rw [e]; omega
 exact check_run (runL_pr h3) (pr_lines h).2 hc hs hn much w he ht hK
end

section
open Go.RowKit
theorem stI_nodup (r : Nat → Bool) : (stI r).Nodup := by
 unfold stI
 rw [List.nodup_iff_pairwise_ne, List.pairwise_map]
 refine List.Pairwise.imp (fun {a b} (q : a ≠ b) e => q (Int.ofNat.inj e)) ?_
 unfold strTo
 exact List.Pairwise.filter _ List.nodup_range
theorem stI_apart (r : Nat → Bool) {i j : Nat} (hi : i < (stI r).length) (hj : j < (stI r).length) (hne : i ≠ j) : impB (stI r)[i] (stI r)[j] = false := by
 have hnd := List.pairwise_iff_getElem.1 (stI_nodup r)
 have hd : (stI r)[i] ≠ (stI r)[j] := by
  rcases Nat.lt_or_gt_of_ne hne with h | h
  ·exact hnd i j hi hj h
  ·exact fun e => hnd j i hj hi h e.symm
 obtain ⟨a, ha, hra, _, ea⟩ := mem_stI.1 (List.getElem_mem hi)
 obtain ⟨b, hb, _, hab, eb⟩ := mem_stI.1 (List.getElem_mem hj)
 rw [ea, eb] at hd ⊢
 cases hq : impB (a : Int) (b : Int) with
 | false => rfl
 | true =>
  have hc := (abv_iff (r := r) (b := b)).2 ⟨a, ha, hra, fun e => hd (by rw [e]), hq⟩
  rw [hab] at hc
  cases hc
theorem run_neq_rowB (r : Nat → Bool) (w : World) : (binOp .neq 38 (.agg (rowB r)) (.agg (rowB r))).run Tryz.prog w = .ok (.bool false) w := by
 obtain ⟨i, hi, _⟩ := Option.map_eq_some_iff.1 infoBool
 have hc : Tryz.prog.cellsOf 4 = 1 := by kernel_rfl
 rw [run_neq_struct, show (10000 : Nat) = 9999 + 1 from rfl, run_equalIn_array w 9999 (rowB r) (rowB r) Tryz.underlying38 hi, hc, items_rowB r w _ (fun i hi => List.mem_range.1 hi)]
 rfl
theorem lasts_most {h : List TxnV} : Lasts (fuelN 4611686018427387904) 0 (vecTo h 12).2 := .inl (by decide +kernel)
theorem cplaces25_walk (va : Value) (h : List TxnV) (w : World) (he : Env w) (ht : Tab w) (hK : Kinds w) (hT : Txns w va h) (hok : ∀ t ∈ h, t.ok) (hsh : Short h) :
  Calls Tryz.prog 7 #[va] w fun e w' => e = .returned (.bool true) ∧ Below w.heap.size w w' := by
 have hg := ht.pos
 have HT : Hid (∀ wx, Below w.heap.size w wx → Env wx ∧ Tab wx ∧ Kinds wx) := hid (fun wx hb => ⟨he.below hb, ht.below hb hg, hK.below hb⟩)
 have HH := hid (fun wx (hx : Below w.heap.size w wx) => hT.below hx)
 obtain ⟨ao, cap, rfl, hal⟩ := hT.form
 have HOK := hid hok
 have HSH := hid hsh
 have C0 := hid (speaks25_any w he ht hK)
 clear he ht hK hT hok hg
 go_enter Tryz.func7, Tryz.ntmps7
 go_wp2_with fail
 refine C0.out.mono ?_
 rintro e w1 ⟨rfl, hb1⟩
 clear C0
 by_cases h6 : 6 < h.length
 ·have h6i : (6 : Int) < (h.length : Int) := by omega
  clear hsh
  go_wp2_with fail
  go_ret
  exact ⟨rfl, hb1⟩
 have h6i : ¬ (6 : Int) < (h.length : Int) := by omega
 have CC := hid (rcheck_any _ h w1 (HH.out _ hb1) hsh)
 rw [← check_ref] at CC
 by_cases hc : checkI h = 0
 rotate_left
 ·have hcn : ¬ checkI h = 0 := hc
  generalize checkI h = c at *
  have hcb : (c != 0) = true := by rw [bne_iff_ne]; exact hcn
  clear hsh hc
  go_wp2_with fail
  refine CC.out.mono ?_
  rintro e w2 ⟨rfl, h2⟩
  have hb2 := below_then hb1 h2
  clear h2 hb1
  go_wp2_with fail
  go_ret
  exact ⟨rfl, hb2⟩
 rw [hc] at CC
 go_wp2_with fail
 refine CC.out.mono ?_
 rintro e w2 ⟨rfl, h2⟩
 have hb2 := below_then hb1 h2
 have hq := HT.out _ hb2
 have HC := hid hc
 have H7 : Hid (h.length ≤ 7) := hid (by omega)
 have CPR := hid (print_any _ h w2 hq.1.1 (HH.out _ hb2) (fun t ht => ⟨HOK.out t ht, by have := (may_at (check_rightB HC.out).1 ht).1; omega⟩) (by have := H7.out; omega))
 clear CC hc hsh hq h2 hb1
 go_wp2_with fail
 refine CPR.out.mono ?_
 rintro e w3 ⟨rfl, h3⟩
 have hb3 := below_then hb2 h3
 have hq := HT.out _ hb3
 have CK := hid (check_pr HOK.out HC.out H7.out 4611686018427387904 w3 hq.1 hq.2.1 hq.2.2)
 clear CPR h3 hb2 hq
 go_wp2_with fail
 refine CK.out.mono ?_
 rintro e w5 ⟨hqq, h5⟩
 have hb5 := below_then hb3 h5
 obtain ⟨_, ws, rfl, hW⟩ := hqq.resolve_right (fun q => q.1 lasts_most)
 obtain ⟨O6, hb6, hth⟩ := out_put w5 4 0 (accV h) ws
 have hone := outL_oneW (k := 4) (n := 0) hW (accV h)
 have hinf := info_outA 4 0 (accV h) ws
 have h56 := below_then hb5 hb6
 clear CK hqq hW h5 hb3 hb5 hb6
 go_upto_region 6 with (with_reducible refine wpList_store_mid rfl 52 _ _ rfl w5.heap.size 0 (outL 4 0 (accV h) ws).toArray rfl rfl hth hinf hone ?_)
 generalize (w5.alloc (.cells #[.int .i64 0, .int .i64 0, .bool false, .bool false, .bool false, .bool false, .bool false, .bool false, .bool false, .bool false, .bool false, .bool false, .bool false, .bool false, .slice none 0 0, .slice none 0 0, .slice none 0 0, .slice none 0 0, .slice none 0 0, .slice none 0 0, .slice none 0 0, .slice none 0 0, .slice none 0 0, .slice none 0 0, .slice none 0 0, .slice none 0 0, .slice none 0 0, .slice none 0 0, .slice none 0 0, .slice none 0 0, .slice none 0 0, .slice none 0 0, .slice none 0 0, .slice none 0 0, .slice none 0 0, .slice none 0 0, .slice none 0 0, .slice none 0 0] 52)).setCells w5.heap.size 0 (outL 4 0 (accV h) ws) = w6 at *
 generalize w5.heap.size = g6 at *
 have hq := HT.out _ h56
 have CO2 := hid (lawof_any _ h w6 (HH.out _ h56) HOK.out HSH.out HC.out hq.2.1 hq.2.2 (vec_few H7.out))
 clear hth hone hinf hq
 go_wp2_with fail
 refine CO2.out.mono ?_
 rintro e w7 ⟨⟨B2, us, rfl, hOr, hW⟩, h10⟩
 obtain ⟨V10, hb10, hth⟩ := vec_put w7 (accV h) us
 have hone := hW.one (accV h)
 have hinf := info_vecA (accV h) us
 have h11 := below_then h10 hb10
 have O11 := O6.below h11 O6.lt
 have h12 := below_then h56 h11
 clear CO2 hOr hW h10 hb10 O6 h56 h11
 go_upto_region 7 with (with_reducible refine wpList_store_mid rfl 44 _ _ rfl w7.heap.size 0 (vecL (accV h) us).toArray rfl rfl hth hinf hone ?_)
 generalize (w7.alloc (.cells #[.bool false, .bool false, .bool false, .bool false, .bool false, .bool false, .bool false, .bool false, .bool false, .bool false, .bool false, .bool false, .slice none 0 0, .slice none 0 0, .slice none 0 0, .slice none 0 0, .slice none 0 0, .slice none 0 0, .slice none 0 0, .slice none 0 0, .slice none 0 0, .slice none 0 0, .slice none 0 0, .slice none 0 0, .slice none 0 0, .slice none 0 0, .slice none 0 0, .slice none 0 0, .slice none 0 0, .slice none 0 0, .slice none 0 0, .slice none 0 0, .slice none 0 0, .slice none 0 0, .slice none 0 0, .slice none 0 0] 44)).setCells w7.heap.size 0 (vecL (accV h) us) = w10 at *
 generalize w7.heap.size = x10 at *
 have hall := O11.all
 have hio := info_out 4 0 (accV h) ws
 have CP := hid (cpos_yes 0 (accV h) ws w10 (HT.out _ h12).2.2)
 clear hth hone hinf
 go_wp2_with (with_reducible refine wpList_load_mid rfl 52 _ rfl g6 0 rfl (outL 4 0 (accV h) ws) _ hall Tryz.underlying52 rfl hio ?_)
 refine CP.out.mono ?_
 rintro e w11 ⟨⟨v1, v2, rfl, hO⟩, h13⟩
 obtain ⟨L, hL⟩ : ∃ L, L = stI (accV h) := ⟨_, rfl⟩
 have hI1 : Ints w11 v1 L := by rw [hL]; exact ints_lev hO.1
 obtain ⟨a1, k1, rfl, _⟩ := hI1.form
 obtain ⟨a2, n2, k2, rfl⟩ := pos_form hO.2
 have hx3 := box_below w11 (.cells #[.slice a1 L.length k1, .slice a2 n2 k2] 56)
 have hP := heap_alloc_new w11 (.cells #[.slice a1 L.length k1, .slice a2 n2 k2] 56)
 have c0 : (w11.alloc (.cells #[.slice a1 L.length k1, .slice a2 n2 k2] 56)).cell? ⟨w11.heap.size, 0, none⟩ = some (.slice a1 L.length k1) := by simp only [World.cell?, hP]; rfl
 have c1 : (w11.alloc (.cells #[.slice a1 L.length k1, .slice a2 n2 k2] 56)).cell? ⟨w11.heap.size, 1, none⟩ = some (.slice a2 n2 k2) := by simp only [World.cell?, hP]; rfl
 have h1013 := below_then h13 hx3
 have O13 := O11.below h1013 O11.lt
 have V13 := V10.below h1013 V10.lt
 have hb9 := below_then h12 h1013
 have hO7 := hO.below hx3
 have hI7 := hI1.below hx3
 have HNI : Hid (∀ {i j : Nat} (hi : i < L.length) (hj : j < L.length), i ≠ j → impB L[i] L[j] = false) := hid (by subst hL; exact fun hi hj hne => stI_apart _ hi hj hne)
 clear CP hall hio h13 h1013 h12 hx3 hP O11 V10 hO hI1 hL
 go_upto_region 8 with fail
 generalize w11.alloc (.cells #[.slice a1 L.length k1, .slice a2 n2 k2] 56) = w13 at *
 generalize w11.heap.size = g13 at *
 have kd := (Below.refl w13.heap.size w13).drew
 have HS := hid (fun wx (hx : Below w13.heap.size w13 wx) => (show wx.cell? ⟨g6, 0, none⟩ = some (.int .i64 4) ∧ wx.rangeAt g6 2 (vecL (accV h) ws) ∧ wx.rangeAt x10 0 (vecL (accV h) us) ∧ wx.rangeAt x10 0 (rowB (accV h)).toList ∧ wx.cell? ⟨g13, 0, none⟩ = some (.slice a1 L.length k1) ∧ wx.cell? ⟨g13, 1, none⟩ = some (.slice a2 n2 k2) from ⟨(O13.below hx O13.lt).kind, (O13.below hx O13.lt).vec, (V13.below hx V13.lt).all, (V13.below hx V13.lt).row, (hx.cell (p := ⟨g13, 0, none⟩) (block_lt c0)).trans c0, (hx.cell (p := ⟨g13, 1, none⟩) (block_lt c1)).trans c1⟩))
 have HW := hid (fun wx (hx : Below w13.heap.size w13 wx) => below_then hb9 hx)
 have HQ : Hid (rowB (blw (stI (accV h))) = rowB (accV h)) := hid (blw_shut (acc_cls HC.out))
 have CR := hid (fun wx (hx : Below w13.heap.size w13 wx) => by have q := hO7.row (HT.out _ (HW.out _ hx)).2.2 hx; rw [HQ.out] at q; exact q)
 have CT := hid (fun wx (hx : Below w13.heap.size w13 wx) => hO7.text (HT.out _ (HW.out _ hx)).2.2 hx)
 have CL := hid (fun wx (hx : Below w13.heap.size w13 wx) => latof_any (accV h) wx (HT.out _ (HW.out _ hx)).2.2)
 have CS := hid (fun wx (_ : Below w13.heap.size w13 wx) => by have q := vsame_any (accV h) (accV h) ws us wx; rw [eqlB_one (fun _ _ => rfl)] at q; exact q)
 have HI1 := hid (fun wx (hx : Below w13.heap.size w13 wx) => hI7.below hx)
 have HKD := hid kd
 have G0 := fun (x y : Operand) (w : World) => guard_rowB .neq x y (accV h) (accV h) w
 have E0 := fun (w : World) => run_neq_rowB (accV h) w
 clear kd c0 c1 O13 V13 hO7 hI7 hb9 HQ
 refine wp_region_held_drew (S := fun wx => wx.cell? ⟨g6, 0, none⟩ = some (.int .i64 4) ∧ wx.rangeAt g6 2 (vecL (accV h) ws) ∧ wx.rangeAt x10 0 (vecL (accV h) us) ∧ wx.rangeAt x10 0 (rowB (accV h)).toList ∧ wx.cell? ⟨g13, 0, none⟩ = some (.slice a1 L.length k1) ∧ wx.cell? ⟨g13, 1, none⟩ = some (.slice a2 n2 k2)) (by kernel_rfl) (HS.out _ HKD.out) (fun hS0 => ?_)
 generalize w13.drew = wd0 at *
 refine tG (some 37) 0 ?vcp0x1 rfl rfl (Or.inl ⟨by rfl, ?hcp0x1⟩) hS0 ?rcp0x1
 case hcp0x1 => (intro w hw; obtain ⟨n0, _, _, _, m0, m1⟩ := hw; go_simp; try (with_reducible rfl))
 try simp only [Act.put, zA, zB, zC]
 refine tG (some 38) 1 ?vcp1x2 rfl rfl (Or.inl ⟨by rfl, ?hcp1x2⟩) hS0 ?rcp1x2
 case hcp1x2 => (intro w hw; obtain ⟨n0, _, _, _, m0, m1⟩ := hw; go_simp; try (with_reducible rfl))
 try simp only [Act.put, zA, zB, zC]
 refine tG (some 39) 2 ?vcp2x3 rfl rfl (Or.inl ⟨by rfl, ?hcp2x3⟩) hS0 ?rcp2x3
 case hcp2x3 => (intro w hw; obtain ⟨n0, _, _, _, m0, m1⟩ := hw; go_simp; try (with_reducible rfl))
 try simp only [Act.put, zA, zB, zC]
 refine tG (some 40) 3 ?vcp3x4 rfl rfl (Or.inl ⟨by rfl, ?hcp3x4⟩) hS0 ?rcp3x4
 case hcp3x4 => (intro w hw; obtain ⟨n0, _, _, _, m0, m1⟩ := hw; go_simp; try (with_reducible rfl))
 try simp only [Act.put, zA, zB, zC]
 refine tG (some 41) 4 ?vcp4x5 rfl rfl (Or.inl ⟨by rfl, ?hcp4x5⟩) hS0 ?rcp4x5
 case hcp4x5 => (intro w hw; obtain ⟨n0, _, _, _, m0, m1⟩ := hw; go_simp; try (with_reducible rfl))
 try simp only [Act.put, zA, zB, zC]
 refine tG (some 42) 5 ?vcp5x6 rfl rfl (Or.inl ⟨by rfl, ?hcp5x6⟩) hS0 ?rcp5x6
 case hcp5x6 => (intro w hw; obtain ⟨n0, _, _, _, m0, m1⟩ := hw; go_simp; try (with_reducible rfl))
 try simp only [Act.put, zA, zB, zC]
 refine tG (some 43) 6 ?vcp6x7 rfl rfl (Or.inl ⟨by rfl, ?hcp6x7⟩) hS0 ?rcp6x7
 case hcp6x7 => (intro w hw; obtain ⟨n0, _, _, _, m0, m1⟩ := hw; go_simp; try (with_reducible rfl))
 try simp only [Act.put, zA, zB, zC]
 refine tG (some 44) 7 ?vcp7x8 rfl rfl (Or.inl ⟨by rfl, ?hcp7x8⟩) hS0 ?rcp7x8
 case hcp7x8 => (intro w hw; obtain ⟨n0, _, _, _, m0, m1⟩ := hw; go_simp; try (with_reducible rfl))
 try simp only [Act.put, zA, zB, zC]
 refine tG (some 45) 8 ?vcp8x9 rfl rfl (Or.inl ⟨by rfl, ?hcp8x9⟩) hS0 ?rcp8x9
 case hcp8x9 => (intro w hw; obtain ⟨n0, _, _, _, m0, m1⟩ := hw; go_simp; try (with_reducible rfl))
 try simp only [Act.put, zA, zB, zC]
 refine tG (some 46) 9 ?vcp9x10 rfl rfl (Or.inl ⟨by rfl, ?hcp9x10⟩) hS0 ?rcp9x10
 case hcp9x10 => (intro w hw; obtain ⟨n0, _, _, _, m0, m1⟩ := hw; go_simp; try (with_reducible rfl))
 try simp only [Act.put, zA, zB, zC]
 refine tG (some 47) 10 ?vcp10x11 rfl rfl (Or.inl ⟨by rfl, ?hcp10x11⟩) hS0 ?rcp10x11
 case hcp10x11 => (intro w hw; obtain ⟨n0, _, _, _, m0, m1⟩ := hw; go_simp; try (with_reducible rfl))
 try simp only [Act.put, zA, zB, zC]
 refine tG (some 48) 11 ?vcp11x12 rfl rfl (Or.inl ⟨by rfl, ?hcp11x12⟩) hS0 ?rcp11x12
 case hcp11x12 => (intro w hw; obtain ⟨n0, _, _, _, m0, m1⟩ := hw; go_simp; try (with_reducible rfl))
 try simp only [Act.put, zA, zB, zC]
 refine tG (some 49) 12 ?vcp12x13 rfl rfl (Or.inl ⟨by rfl, ?hcp12x13⟩) hS0 ?rcp12x13
 case hcp12x13 => (intro w hw; obtain ⟨n0, _, _, _, m0, m1⟩ := hw; go_simp; try (with_reducible rfl))
 try simp only [Act.put, zA, zB, zC]
 refine tG (some 50) 13 _ rfl rfl (yieldsIf_load_mid (by rfl) 44 _ rfl g6 2 rfl (vecL (accV h) ws) _ (fun _ hw => hw.2.1) Tryz.underlying44 rfl (info_vec (accV h) ws)) hS0 ?_
 try simp only [Act.put, zA, zB, zC]
 refine tG (some 51) 14 _ rfl rfl (yieldsIf_load_mid (by rfl) 44 _ rfl x10 0 rfl (vecL (accV h) us) _ (fun _ hw => hw.2.2.1) Tryz.underlying44 rfl (info_vec (accV h) us)) hS0 ?_
 try simp only [Act.put, zA, zB, zC]
 refine rD 15 rfl (fun K hK => ?_)
 go_simp
 refine (CS.out _ HKD.out).mono ?_
 rintro e wa ⟨rfl, hxwa⟩
 have HKD := hid (below_then HKD.out hxwa)
 have swa := HS.out _ HKD.out
 show K _ _
 refine hK.out _ _ swa (fun _ => ?_)
 clear hK K
 refine tG (some 53) 16 ?vcp16x17 rfl rfl (Or.inl ⟨by rfl, ?hcp16x17⟩) swa ?rcp16x17
 case hcp16x17 => (intro w hw; obtain ⟨n0, _, _, _, m0, m1⟩ := hw; go_simp; try (with_reducible rfl))
 try simp only [Act.put, zA, zB, zC]
 refine tG (some 54) 17 ?vcp17x18 rfl rfl (Or.inl ⟨by rfl, ?hcp17x18⟩) swa ?rcp17x18
 case hcp17x18 => (intro w hw; obtain ⟨n0, _, _, _, m0, m1⟩ := hw; go_simp; try (with_reducible rfl))
 try simp only [Act.put, zA, zB, zC]
 refine tG (some 55) 18 ?vcp18x19 rfl rfl (Or.inl ⟨by rfl, ?hcp18x19⟩) swa ?rcp18x19
 case hcp18x19 => (intro w hw; obtain ⟨n0, _, _, _, m0, m1⟩ := hw; go_simp; try (with_reducible rfl))
 try simp only [Act.put, zA, zB, zC]
 refine tG (some 56) 19 ?vcp19x20 rfl rfl (Or.inl ⟨by rfl, ?hcp19x20⟩) swa ?rcp19x20
 case hcp19x20 => (intro w hw; obtain ⟨n0, _, _, _, m0, m1⟩ := hw; go_simp; try (with_reducible rfl))
 try simp only [Act.put, zA, zB, zC]
 refine tG (some 58) 21 ?vcp21x21 rfl rfl (Or.inl ⟨by rfl, ?hcp21x21⟩) swa ?rcp21x21
 case hcp21x21 => (intro w hw; obtain ⟨n0, _, _, _, m0, m1⟩ := hw; go_simp; try (with_reducible rfl))
 try simp only [Act.put, zA, zB, zC]
 refine tG (some 59) 22 _ rfl rfl (yieldsIf_load_mid (by rfl) 38 _ rfl x10 0 rfl (rowB (accV h)).toList _ (fun _ hw => hw.2.2.2.1) Tryz.underlying38 rfl (by kernel_rfl)) swa ?_
 try simp only [Act.put, zA, zB, zC]
 refine rD 20 rfl (fun K hK => ?_)
 go_simp
 refine (CR.out _ HKD.out).mono ?_
 rintro e wb ⟨rfl, hxwb⟩
 have HKD := hid (below_then HKD.out hxwb)
 have swb := HS.out _ HKD.out
 show K _ _
 refine hK.out _ _ swb (fun _ => ?_)
 clear hK K
 refine tG (some 60) 23 ?vcp23x24 rfl rfl (Or.inl ⟨by rfl, ?hcp23x24⟩) swb ?rcp23x24
 case hcp23x24 => (intro w hw; obtain ⟨n0, _, _, _, m0, m1⟩ := hw; go_simp; try (with_reducible rfl))
 try simp only [Act.put, zA, zB, zC]
 refine tG (some 61) 24 ?vcp24x25 rfl rfl (Or.inl ⟨by rfl, ?hcp24x25⟩) swb ?rcp24x25
 case hcp24x25 => (intro w hw; obtain ⟨n0, _, _, _, m0, m1⟩ := hw; go_simp; try (with_reducible rfl))
 try simp only [Act.put, zA, zB, zC]
 refine tG (some 62) 25 ?vcp25x26 rfl rfl (Or.inl ⟨by rfl, ?hcp25x26⟩) swb ?rcp25x26
 case hcp25x26 => (intro w hw; obtain ⟨n0, _, _, _, m0, m1⟩ := hw; go_simp; try (with_reducible rfl))
 try simp only [Act.put, zA, zB, zC]
 refine tG (some 63) 26 ?vcp26x27 rfl rfl (Or.inl ⟨by rfl, ?hcp26x27⟩) swb ?rcp26x27
 case hcp26x27 => (intro w hw; obtain ⟨n0, _, _, _, m0, m1⟩ := hw; go_simp; try (with_reducible rfl))
 try simp only [Act.put, zA, zB, zC]
 refine tG (some 65) 28 ?vcp28x28 rfl rfl (Or.inl ⟨by rfl, ?hcp28x28⟩) swb ?rcp28x28
 case hcp28x28 => (intro w hw; obtain ⟨n0, _, _, _, m0, m1⟩ := hw; go_simp; try (with_reducible rfl))
 try simp only [Act.put, zA, zB, zC]
 refine tG (some 66) 29 _ rfl rfl (yieldsIf_load_mid (by rfl) 38 _ rfl x10 0 rfl (rowB (accV h)).toList _ (fun _ hw => hw.2.2.2.1) Tryz.underlying38 rfl (by kernel_rfl)) swb ?_
 try simp only [Act.put, zA, zB, zC]
 refine rD 27 rfl (fun K hK => ?_)
 go_simp
 refine (CT.out _ HKD.out).mono ?_
 rintro e wt ⟨rfl, hxwt⟩
 have HKD := hid (below_then HKD.out hxwt)
 have swt := HS.out _ HKD.out
 show K _ _
 refine hK.out _ _ swt (fun _ => ?_)
 clear hK K
 refine rD 30 rfl (fun K hK => ?_)
 go_simp
 refine (CL.out _ HKD.out).mono ?_
 rintro e wc ⟨u1, u2, rfl, hO2, hxwc⟩
 have HKD := hid (below_then HKD.out hxwc)
 have swc := HS.out _ HKD.out
 show K _ _
 refine hK.out _ _ swc (fun _ => ?_)
 clear hK K
 refine rD 31 rfl (fun K hK => ?_)
 have CT2 := hid (hO2.text (HT.out _ (HW.out _ HKD.out)).2.2 (Below.refl _ _))
 obtain ⟨b1, m1, j1, rfl⟩ := pos_form hO2.1
 obtain ⟨b2, m2, j2, rfl⟩ := pos_form hO2.2
 go_simp
 refine CT2.out.mono ?_
 rintro e wd ⟨rfl, hxwd⟩
 have HKD := hid (below_then HKD.out hxwd)
 have swd := HS.out _ HKD.out
 show K _ _
 refine hK.out _ _ swd (fun _ => ?_)
 clear hK K CT2
 refine tG (some 69) 32 ?vcp32x33 rfl rfl (Or.inl ⟨by rfl, ?hcp32x33⟩) swd ?rcp32x33
 case hcp32x33 => (intro w hw; obtain ⟨n0, _, _, _, m0, m1⟩ := hw; go_simp; try (with_reducible rfl))
 try simp only [Act.put, zA, zB, zC]
 refine tG (some 70) 33 ?vcp33x34 rfl rfl (Or.inl ⟨by rfl, ?hcp33x34⟩) swd ?rcp33x34
 case hcp33x34 => (intro w hw; obtain ⟨n0, _, _, _, m0, m1⟩ := hw; go_simp; try (with_reducible rfl))
 try simp only [Act.put, zA, zB, zC]
 refine wpAnyH_done (by kernel_rfl) ?_ _
 have hz := HW.out _ HKD.out
 have HI := hid (fun wx (hx : Below wd.heap.size wd wx) => HI1.out _ (below_then HKD.out hx))
 have HC0 := hid (fun wx (hx : Below wd.heap.size wd wx) => (HS.out _ (below_then HKD.out hx)).2.2.2.2.1)
 have c0 := HC0.out _ (Below.refl _ _)
 clear HKD CR CT CL CS HS HW HI1 HT HH
 clear hS0 G0 E0
 go_wp2_with fail
 go_loopw [74] (fun i wx => ∃ k : Nat, k ≤ L.length ∧ i = .int .i64 k ∧ Below wd.heap.size wd wx) (fun i _ => L.length - (intOf i).toNat)
 case atStart => exact ⟨0, by omega, rfl, Below.refl _ _⟩
 case round =>
  obtain ⟨k, hk, rfl, hb⟩ := hrel
  by_cases hlt : k < L.length
  ·have hki : (k : Int) < (L.length : Int) := by omega
   have HIr := hid (HI.out _ hb)
   obtain ⟨gk, ok, haok, hck⟩ := HIr.out.at hlt
   cases haok
   have c0r := HC0.out _ hb
   have HNX : Hid (∀ j (hj : j < L.length), j ≠ k → impB L[k] L[j] = false) := hid (fun j hj hne => HNI.out hlt hj (Ne.symm hne))
   have HB := hid hb
   generalize L[k] = x at *
   clear hb c0
   go_wp2_with fail
   go_loopw [82] (fun i wx => ∃ j : Nat, j ≤ L.length ∧ i = .int .i64 j ∧ wr = wx) (fun i _ => L.length - (intOf i).toNat)
   case atStart => exact ⟨0, by omega, rfl, rfl⟩
   case round =>
    obtain ⟨j, hj, rfl, rfl⟩ := hrel
    by_cases hlj : j < L.length
    ·have hji : (j : Int) < (L.length : Int) := by omega
     obtain ⟨gj, oj, haoj, hcj⟩ := HIr.out.at hlj
     cases haoj
     by_cases hjk : j = k
     ·have hne : ((k : Int) != (j : Int)) = false := by rw [hjk]; simp
      generalize L[j] = y at *
      clear hjk
      go_wp2_with fail
      go_roundw
      case rel => exact ⟨j + 1, by omega, by go_num, by first | rfl | trivial⟩
      case measure => simp [intOf]; omega
     ·have hne : ((k : Int) != (j : Int)) = true := bne_iff_ne.2 (by omega)
      have CI := hid (rimp_any x L[j] wr)
      rw [HNX.out j hlj hjk] at CI
      generalize L[j] = y at *
      clear hjk
      go_wp2_with (go_at_call 32; refine (CI.out).mono ?_; rintro e w' ⟨rfl, rfl⟩)
      go_roundw
      case rel => exact ⟨j + 1, by omega, by go_num, by first | rfl | trivial⟩
      case measure => simp [intOf]; omega
    ·obtain rfl : j = L.length := by omega
     clear c0r
     go_wp2_with fail
     go_roundw
     case rel => exact ⟨k + 1, by omega, by go_num, HB.out⟩
     case measure => simp [intOf]; omega
  ·obtain rfl : k = L.length := by omega
   have hzz := below_then hz hb
   clear hz hb c0
   go_wp2_with fail
   go_ret
   exact ⟨rfl, hzz⟩
end

end Go.Proofs.YtnhkjehfmbfmmaaGreatDoor
