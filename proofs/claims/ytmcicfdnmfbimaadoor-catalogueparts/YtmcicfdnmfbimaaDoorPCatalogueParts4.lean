/- Walks and plain facts that the proof of the statement CatalogueParts uses, joined: LevD TblD CatG. Conditions: each theorem's own. -/
import Derived.Test.YtmcicfdnmfbimaaDoorPCatalogueParts0
import Derived.Test.YtmcicfdnmfbimaaDoorPCatalogueParts1
import Derived.Test.YtmcicfdnmfbimaaDoorPCatalogueParts3
namespace Go.Proofs.YtmcicfdnmfbimaaDoor
set_option maxHeartbeats 32000000
set_option maxRecDepth 100000
open Lib (hid)
section
open Go.RowKit
def hasI (k : Nat) (t : Int) : Bool := hasT k t.toNat
theorem rl_hasI (k : Nat) (hk : k < 64) (t : Int) (w : World) (ht : 0 < t) (ht2 : t ≤ 32) : Calls Tryd.prog 20 #[.int .i64 k, .int .i64 t] w fun e w' => e = .returned (.bool (hasI k t)) ∧ w = w' := by
 obtain ⟨n, rfl⟩ := Int.eq_ofNat_of_zero_le (Int.le_of_lt ht)
 exact rl_has k n hk (by omega) (by omega) w
def clV (h16 h4 h32 h1 h2 h8 : Bool) : Int :=
 (if h1 || h32 then 1 else 0) + (if h2 || (h4 || h16) then 2 else 0) + (if h4 || h16 then 4 else 0) + (if h8 || h16 then 8 else 0) + (if h16 then 16 else 0) + (if h32 then 32 else 0)
theorem clV_eq : ∀ k : Fin 64, ((clN k.val : Nat) : Int) = clV (hasI k.val 16) (hasI k.val 4) (hasI k.val 32) (hasI k.val 1) (hasI k.val 2) (hasI k.val 8) := by decide +kernel
theorem rl_closed (k : Nat) (hk : k < 64) (w : World) : Calls Tryd.prog 22 #[.int .i64 k] w fun e w' => e = .returned (.int .i64 (clN k)) ∧ w = w' := by
 have H := clV_eq ⟨k, hk⟩
 have C := hid (rl_hasI k hk)
 simp only at H
 cases h16 : hasI k 16 <;> cases h4 : hasI k 4 <;> cases h32 : hasI k 32 <;> cases h1 : hasI k 1 <;> cases h2 : hasI k 2 <;> cases h8 : hasI k 8
 all_goals
  rw [h16, h4, h32, h1, h2, h8] at H
  have HH := hid H
  clear H
  rw [HH.out]
  clear HH
  go_enter Tryd.func22, Tryd.ntmps22
  go_wp2_with (go_at_call 20; refine (C.out _ _ (by omega) (by omega)).mono ?_; rintro e w' ⟨rfl, rfl⟩)
  go_ret
  exact ⟨rfl, rfl⟩
end

section
open Go.RowKit
def chkB (a b : Int) (k : Nat) : Bool := (List.range k).all fun i => !(hasT (askN b) (2 ^ i) && !hasT (clN (askN a)) (2 ^ i))
theorem chkB_succ (a b : Int) (k : Nat) : chkB a b (k + 1) = (chkB a b k && !(hasT (askN b) (2 ^ k) && !hasT (clN (askN a)) (2 ^ k))) := by
 unfold chkB; rw [List.range_succ, List.all_append]; simp
theorem impB_chk : ∀ a b : Fin 12, impB (a.val : Int) (b.val : Int) = chkB (a.val : Int) (b.val : Int) 6 := by decide +kernel
theorem impB_chk' {a b : Int} (ha : isLv a = true) (hb : isLv b = true) : impB a b = chkB a b 6 := by
 have h1 : 0 ≤ a ∧ a < 12 := by simpa [isLv] using ha
 have h2 : 0 ≤ b ∧ b < 12 := by simpa [isLv] using hb
 have := impB_chk ⟨a.toNat, by omega⟩ ⟨b.toNat, by omega⟩
 simp only at this
 rwa [Int.toNat_of_nonneg h1.1, Int.toNat_of_nonneg h2.1] at this
theorem chkB_no {a b : Int} {k : Nat} (hk : k < 6) (h : (!(hasT (askN b) (2 ^ k) && !hasT (clN (askN a)) (2 ^ k))) = false) : chkB a b 6 = false := by
 unfold chkB
 rw [List.all_eq_false]
 exact ⟨k, List.mem_range.2 hk, by rw [h]; simp⟩
theorem pow_six : ∀ i : Fin 6, 0 < 2 ^ i.val ∧ 2 ^ i.val ≤ 32 := by decide
theorem rimp_any (a b : Int) (w : World) : Calls Tryd.prog 10 #[.int .i64 a, .int .i64 b] w fun e w' => e = .returned (.bool (impB a b)) ∧ w = w' := by
 by_cases hin : (0 ≤ a ∧ a < 12) ∧ 0 ≤ b ∧ b < 12
 ·obtain ⟨⟨a0, a1⟩, b0, b1⟩ := hin
  have ha : isLv a = true := by simpa [isLv] using ⟨a0, a1⟩
  have hb : isLv b = true := by simpa [isLv] using ⟨b0, b1⟩
  have HI := hid (impB_chk' ha hb)
  have hal := askN_lt a
  have hbl := askN_lt b
  have hcl := clN_lt ⟨askN a, hal⟩
  simp only at hcl
  have CA := hid (fun wx => rl_asks a wx)
  have CB := hid (fun wx => rl_asks b wx)
  have CC := hid (fun wx => rl_closed (askN a) hal wx)
  have HS := hid (chkB_succ a b)
  have HN := hid (fun k => chkB_no (a := a) (b := b) (k := k))
  have CW := hid (fun t wx h1 h2 => rl_has (askN b) t hbl h1 h2 wx)
  have CH := hid (fun t wx h1 h2 => rl_has (clN (askN a)) t hcl h1 h2 wx)
  clear ha hb hal hbl hcl
  rw [HI.out]
  clear HI
  generalize clN (askN a) = hv at *
  generalize askN a = aa at *
  generalize askN b = wt at *
  have a2 : a ≤ 11 := by omega
  have b2 : b ≤ 11 := by omega
  go_enter Tryd.func10, Tryd.ntmps10
  go_wp2_with fail
  refine (CA.out _).mono ?_
  rintro e w' ⟨rfl, rfl⟩
  go_wp2_with fail
  refine (CC.out _).mono ?_
  rintro e w' ⟨rfl, rfl⟩
  go_wp2_with fail
  refine (CB.out _).mono ?_
  rintro e w' ⟨rfl, rfl⟩
  go_wp2_with fail
  go_loopw [7] (fun v wr => ∃ k t : Nat, k ≤ 6 ∧ Hid (2 ^ k = t) ∧ v = .int .i64 (t : Int) ∧ chkB a b k = true ∧ w = wr) (fun v _ => 64 - (intOf v).toNat)
  case atStart => exact ⟨0, 1, by omega, hid rfl, rfl, rfl, rfl⟩
  case round =>
   obtain ⟨k, t, hk, HT, rfl, hno, rfl⟩ := hrel
   have HNO := hid hno
   clear hno
   by_cases hlt : k < 6
   ·obtain ⟨p0, p1⟩ := pow_six ⟨k, hlt⟩
    simp only at p0 p1
    have HSk := hid (HS.out k)
    rw [HNO.out] at HSk
    have HNk := hid (HN.out k hlt)
    have HP : Hid (2 ^ (k + 1) = t * 2) := hid (by rw [Nat.pow_succ, HT.out])
    rw [HT.out] at p0 p1
    have CWk := hid (fun wx => CW.out t wx p0 p1)
    have CHk := hid (fun wx => CH.out t wx p0 p1)
    have hti : (t : Int) ≤ 32 := by omega
    rw [HT.out] at HSk HNk
    generalize hasT wt t = h1 at *
    generalize hasT hv t = h2 at *
    cases h1
    ·have HM : Hid (chkB a b (k + 1) = true) := hid (by rw [HSk.out]; rfl)
     go_wp2_with (go_at_call 20; refine (CWk.out _).mono ?_; rintro e w' ⟨rfl, rfl⟩)
     go_roundw
     case rel => exact ⟨k + 1, t * 2, by omega, HP, by go_num, HM.out, by trivial⟩
     case measure => simp [intOf]; omega
    ·cases h2
     ·have HM : Hid (false = chkB a b 6) := hid (HNk.out rfl).symm
      go_wp2_with fail
      refine (CWk.out _).mono ?_
      rintro e w' ⟨rfl, rfl⟩
      go_wp2_with fail
      refine (CHk.out _).mono ?_
      rintro e w' ⟨rfl, rfl⟩
      go_wp2_with fail
      go_ret
      exact ⟨lret_b HM.out, rfl⟩
     ·have HM : Hid (chkB a b (k + 1) = true) := hid (by rw [HSk.out]; rfl)
      go_wp2_with fail
      refine (CWk.out _).mono ?_
      rintro e w' ⟨rfl, rfl⟩
      go_wp2_with fail
      refine (CHk.out _).mono ?_
      rintro e w' ⟨rfl, rfl⟩
      go_wp2_with fail
      go_roundw
      case rel => exact ⟨k + 1, t * 2, by omega, HP, by go_num, HM.out, by trivial⟩
      case measure => simp [intOf]; omega
   ·have hk6 : k = 6 := by omega
    subst hk6
    have ht6 : t = 64 := by have h := HT.out; omega
    subst ht6
    have HM : Hid (true = chkB a b 6) := hid HNO.out.symm
    go_wp2_with fail
    go_ret
    exact ⟨lret_b HM.out, rfl⟩
 ·have HI : Hid (false = impB a b) := hid (by
   unfold impB isLv
   by_cases h1 : 0 ≤ a ∧ a < 12
   ·have h2 : ¬ (0 ≤ b ∧ b < 12) := fun h => hin ⟨h1, h⟩
    rw [decide_eq_false h2]; simp
   ·rw [decide_eq_false h1]; rfl)
  by_cases c0 : a < 0
  ·go_enter Tryd.func10, Tryd.ntmps10
   go_wp2_with fail
   go_ret
   exact ⟨lret_b HI.out, rfl⟩
  by_cases c1 : 11 < a
  ·go_enter Tryd.func10, Tryd.ntmps10
   go_wp2_with fail
   go_ret
   exact ⟨lret_b HI.out, rfl⟩
  by_cases c2 : b < 0
  ·go_enter Tryd.func10, Tryd.ntmps10
   go_wp2_with fail
   go_ret
   exact ⟨lret_b HI.out, rfl⟩
  have c3 : 11 < b := by omega
  go_enter Tryd.func10, Tryd.ntmps10
  go_wp2_with fail
  go_ret
  exact ⟨lret_b HI.out, rfl⟩
end

section
open Go.RowKit
theorem run_index_name : ∀ m : Fin 6, ∀ w : World, (Instr.index 62 (.agg #[.string ⟨#[111, 119, 110, 32, 119, 114, 105, 116, 101, 32, 117, 110, 115, 101, 101, 110]⟩, .string ⟨#[99, 97, 117, 115, 101, 32, 117, 110, 115, 101, 101, 110]⟩, .string ⟨#[108, 111, 110, 103, 32, 102, 111, 114, 107]⟩, .string ⟨#[108, 111, 115, 116, 32, 117, 112, 100, 97, 116, 101]⟩, .string ⟨#[119, 114, 105, 116, 101, 32, 115, 107, 101, 119]⟩, .string ⟨#[115, 116, 97, 108, 101, 32, 114, 101, 97, 100]⟩]) (.int .i64 (m.val : Int))).run Tryd.prog w = .ok (.string (catS m.val)) w := by
 intro m w
 rcases m with ⟨m, hm⟩
 rcases (by omega : m = 0 ∨ m = 1 ∨ m = 2 ∨ m = 3 ∨ m = 4 ∨ m = 5) with rfl | rfl | rfl | rfl | rfl | rfl <;> kernel_rfl
theorem cname_any (m : Nat) (hm : m < 6) (w : World) : Calls Tryd.prog 23 #[.int .i64 (m : Int)] w fun e w' => e = .returned (.string (catS m)) ∧ w = w' := by
 have HX := fun wx => run_index_name ⟨m, hm⟩ wx
 have hd0 : decide ((m : Int) < 0) = false := decide_eq_false (by omega)
 have hd1 : decide ((6 : Int) ≤ (m : Int)) = false := decide_eq_false (by omega)
 simp only at HX
 go_enter Tryd.func23, Tryd.ntmps23
 go_wp2_with fail
 go_ret
 exact ⟨rfl, rfl⟩
theorem hasT_bit (k m : Nat) : hasT k (2 ^ m) = k.testBit m := by
 unfold hasT
 rw [Nat.testBit_eq_decide_div_mod_eq]
theorem clN_ext : ∀ k : Fin 64, ∀ m : Fin 6, k.val.testBit m.val = true → (clN k.val).testBit m.val = true := by decide +kernel
theorem miss_bit (a b : Int) (m : Nat) : (missN a b).testBit m = ((askN b).testBit m && !(clN (askN a)).testBit m) := by
 unfold missN
 rw [Nat.testBit_xor, Nat.testBit_and]
 cases (askN b).testBit m <;> cases (clN (askN a)).testBit m <;> rfl
theorem cparts20_walk (a b : Int) (w : World) (hK : Kinds w) :
  Calls Tryd.prog 5 #[.int .i64 a, .int .i64 b] w fun e w' => e = .returned (.bool true) ∧ Below w.heap.size w w' := by
 have HT : Hid (∀ wx, Below w.heap.size w wx → Kinds wx) := hid (fun wx hb => hK.below hb)
 have C0 := hid (speaks20_any w hK)
 clear hK
 go_enter Tryd.func5, Tryd.ntmps5
 go_wp2_with fail
 refine (C0.out).mono ?_
 rintro e w1 ⟨rfl, hb1⟩
 clear C0
 have C1 := hid (cfind_any a b w1 (HT.out _ hb1))
 have hlA : ∀ x : Int, isLv x = decide (0 ≤ x ∧ x < 12) := fun x => by unfold isLv; first | rfl | (rw [Bool.eq_iff_iff]; simp)
 by_cases ha0 : a < 0
 ·have hnone : catF a b = none := catF_off (by rw [hlA a, decide_eq_false (by omega)]; rfl)
  have HRN := hid (fun e wx b0 hres => catRes_none (a := a) (b := b) (b0 := b0) (e := e) (w := wx) hnone hres)
  clear hnone
  go_wp2_with fail
  refine C1.out.mono ?_
  rintro e w2 ⟨hres, h2⟩
  obtain rfl := HRN.out _ _ _ hres
  have hE := EntAt.made w2 ⟨#[]⟩ (.slice none 0 0) 0 42
  have hx := box_below w2 (.cells #[.string ⟨#[]⟩, .slice none 0 0, .int .i64 0] 42)
  have hb3 := below_then (below_then hb1 h2) hx
  clear C1 HRN hres h2 hx
  go_upto_region 4 with fail
  generalize w2.alloc (.cells #[.string ⟨#[]⟩, .slice none 0 0, .int .i64 0] 42) = w3 at *
  obtain ⟨k0, k1, k2, _, _, _⟩ := hE
  go_wp2_with fail
  go_ret
  exact ⟨rfl, hb3⟩
 by_cases ha1 : 11 < a
 ·have hnone : catF a b = none := catF_off (by rw [hlA a, decide_eq_false (by omega)]; rfl)
  have HRN := hid (fun e wx b0 hres => catRes_none (a := a) (b := b) (b0 := b0) (e := e) (w := wx) hnone hres)
  clear hnone
  go_wp2_with fail
  refine C1.out.mono ?_
  rintro e w2 ⟨hres, h2⟩
  obtain rfl := HRN.out _ _ _ hres
  have hE := EntAt.made w2 ⟨#[]⟩ (.slice none 0 0) 0 42
  have hx := box_below w2 (.cells #[.string ⟨#[]⟩, .slice none 0 0, .int .i64 0] 42)
  have hb3 := below_then (below_then hb1 h2) hx
  clear C1 HRN hres h2 hx
  go_upto_region 4 with fail
  generalize w2.alloc (.cells #[.string ⟨#[]⟩, .slice none 0 0, .int .i64 0] 42) = w3 at *
  obtain ⟨k0, k1, k2, _, _, _⟩ := hE
  go_wp2_with fail
  go_ret
  exact ⟨rfl, hb3⟩
 by_cases hb0 : b < 0
 ·have hnone : catF a b = none := catF_off (by rw [hlA b, decide_eq_false (by omega), Bool.and_false])
  have HRN := hid (fun e wx b0 hres => catRes_none (a := a) (b := b) (b0 := b0) (e := e) (w := wx) hnone hres)
  clear hnone
  go_wp2_with fail
  refine C1.out.mono ?_
  rintro e w2 ⟨hres, h2⟩
  obtain rfl := HRN.out _ _ _ hres
  have hE := EntAt.made w2 ⟨#[]⟩ (.slice none 0 0) 0 42
  have hx := box_below w2 (.cells #[.string ⟨#[]⟩, .slice none 0 0, .int .i64 0] 42)
  have hb3 := below_then (below_then hb1 h2) hx
  clear C1 HRN hres h2 hx
  go_upto_region 4 with fail
  generalize w2.alloc (.cells #[.string ⟨#[]⟩, .slice none 0 0, .int .i64 0] 42) = w3 at *
  obtain ⟨k0, k1, k2, _, _, _⟩ := hE
  go_wp2_with fail
  go_ret
  exact ⟨rfl, hb3⟩
 by_cases hb1' : 11 < b
 ·have hnone : catF a b = none := catF_off (by rw [hlA b, decide_eq_false (by omega), Bool.and_false])
  have HRN := hid (fun e wx b0 hres => catRes_none (a := a) (b := b) (b0 := b0) (e := e) (w := wx) hnone hres)
  clear hnone
  go_wp2_with fail
  refine C1.out.mono ?_
  rintro e w2 ⟨hres, h2⟩
  obtain rfl := HRN.out _ _ _ hres
  have hE := EntAt.made w2 ⟨#[]⟩ (.slice none 0 0) 0 42
  have hx := box_below w2 (.cells #[.string ⟨#[]⟩, .slice none 0 0, .int .i64 0] 42)
  have hb3 := below_then (below_then hb1 h2) hx
  clear C1 HRN hres h2 hx
  go_upto_region 4 with fail
  generalize w2.alloc (.cells #[.string ⟨#[]⟩, .slice none 0 0, .int .i64 0] 42) = w3 at *
  obtain ⟨k0, k1, k2, _, _, _⟩ := hE
  go_wp2_with fail
  go_ret
  exact ⟨rfl, hb3⟩
 have CI := hid (fun wx => rimp_any a b wx)
 cases hi : impB a b with
 | true =>
  have hnone : catF a b = none := catF_none hi
  rw [hi] at CI
  have HRN := hid (fun e wx b0 hres => catRes_none (a := a) (b := b) (b0 := b0) (e := e) (w := wx) hnone hres)
  clear hnone
  go_wp2_with fail
  refine C1.out.mono ?_
  rintro e w2 ⟨hres, h2⟩
  obtain rfl := HRN.out _ _ _ hres
  have hE := EntAt.made w2 ⟨#[]⟩ (.slice none 0 0) 0 42
  have hx := box_below w2 (.cells #[.string ⟨#[]⟩, .slice none 0 0, .int .i64 0] 42)
  have hb3 := below_then (below_then hb1 h2) hx
  clear C1 HRN hres h2 hx
  go_upto_region 4 with fail
  generalize w2.alloc (.cells #[.string ⟨#[]⟩, .slice none 0 0, .int .i64 0] 42) = w3 at *
  obtain ⟨k0, k1, k2, _, _, _⟩ := hE
  go_wp2_with fail
  refine (CI.out _).mono ?_
  rintro e wq ⟨rfl, rfl⟩
  go_wp2_with fail
  go_ret
  exact ⟨rfl, hb3⟩
 | false =>
  rw [hi] at CI
  have hlv : (isLv a && isLv b) = true := by rw [hlA a, hlA b, decide_eq_true (show 0 ≤ a ∧ a < 12 by omega), decide_eq_true (show 0 ≤ b ∧ b < 12 by omega)]; rfl
  obtain ⟨i, hi6, hf, hbit, hlow⟩ := catF_some hlv hi
  obtain ⟨k, hk⟩ : ∃ k : Nat, a = (k : Int) := ⟨a.toNat, by omega⟩
  obtain ⟨j, hj⟩ : ∃ j : Nat, b = (j : Int) := ⟨b.toNat, by omega⟩
  have hk12 : k < 12 := by omega
  have hj12 : j < 12 := by omega
  have hb2 := hbit
  rw [miss_bit, Bool.and_eq_true, Bool.not_eq_true'] at hb2
  have HB := hid (fun m => miss_bit a b m)
  have HBI := hid hbit
  have HLO := hid hlow
  have hext := clN_ext ⟨askN b, askN_lt b⟩ ⟨i, hi6⟩ hb2.1
  have HR := hid (fun e wx b0 hres => catRes_some (b0 := b0) (e := e) (w := wx) hf hres)
  have HAA := hid (fun u => (show (decW (catN i u) a).2.2 = true by rw [hk, cat_acc hi6 u hk12, ← hk, hb2.2]; rfl))
  have HAB := hid (fun u => (show (decW (catN i u) b).2.2 = false by rw [hj, cat_acc hi6 u hj12, ← hj]; simp only at hext; rw [hext]; rfl))
  have CK := hid (fun u v wx hT => by have h := rcheck_any v (catN i u) wx hT (cat_short hi6 u); rw [← check_ref, cat_check hi6 u] at h; exact h)
  have CV := hid (fun u v (lv : Int) wx hT => raccepts_any v (catN i u) lv wx (cat_check hi6 u) (by have := cat_len hi6 u; omega) hT)
  have HLN := hid (fun u => cat_len hi6 u)
  have CHS := hid (fun (x m : Nat) wx (hx : x < 64) (hm : m < 6) => rl_has x (2 ^ m) hx (Nat.pow_pos (by omega)) (show 2 ^ m ≤ 2 ^ 5 from Nat.pow_le_pow_right (by omega) (by omega)) wx)
  have CAS := hid (fun (l : Int) wx => rl_asks l wx)
  have CCL := hid (fun wx => rl_closed (askN a) (askN_lt a) wx)
  have CNM := hid (fun wx => cname_any i hi6 wx)
  have HL1 := hid (askN_lt b)
  have HL2 := hid (clN_lt ⟨askN a, askN_lt a⟩)
  clear hlA hf hbit hlow hb2 hext hi hk hj hlv
  go_wp2_with fail
  refine C1.out.mono ?_
  rintro e w2 ⟨hres, h2⟩
  obtain ⟨oo, nn, cc, u, rfl, hH⟩ := HR.out _ _ _ hres
  generalize hs : catS i = s at *
  have HS := hid hs
  generalize hmi : ((2 ^ i : Nat) : Int) = mi at *
  have HMI := hid hmi
  have hE := EntAt.made w2 s (.slice oo nn cc) mi 42
  have hx := box_below w2 (.cells #[.string s, .slice oo nn cc, .int .i64 mi] 42)
  have hb3 := below_then (below_then hb1 h2) hx
  have HH := hid (hH.below hx)
  clear C1 HR hres h2 hx hs hmi hH hb1
  go_upto_region 4 with fail
  generalize w2.alloc (.cells #[.string s, .slice oo nn cc, .int .i64 mi] 42) = w3 at *
  generalize w2.heap.size = g3 at *
  have hlen : nn ≤ 4 := by
   obtain ⟨ao', cap', e, _⟩ := HH.out.txns.form
   injection e with _ e2 _
   have := HLN.out u; omega
  have hl4 : ¬ (4 : Int) < (nn : Int) := by omega
  have HE := hid (fun wx (hx : Below w3.heap.size w3 wx) => hE.below hx hE.lt)
  have HTX := hid (fun wx (hx : Below w3.heap.size w3 wx) => (HH.out.below hx).txns)
  obtain ⟨k0, k1, k2, _, _, _⟩ := hE
  go_wp2_with fail
  refine (CI.out _).mono ?_
  rintro e wq ⟨rfl, rfl⟩
  clear CI
  have CK1 := hid (CK.out u _ w3 (HTX.out _ (Below.refl _ _)))
  go_wp2_with fail
  refine CK1.out.mono ?_
  rintro e w4 ⟨rfl, h4⟩
  have CV1 := hid (CV.out u _ a w4 (HTX.out _ h4))
  rw [HAA.out u] at CV1
  obtain ⟨k0, k1, k2, _, _, _⟩ := HE.out w4 h4
  clear CK CK1
  go_wp2_with fail
  refine CV1.out.mono ?_
  rintro e w5 ⟨rfl, h5⟩
  have h35 := below_then h4 h5
  have CV2 := hid (CV.out u _ b w5 (HTX.out _ h35))
  rw [HAB.out u] at CV2
  obtain ⟨k0, k1, k2, _, _, _⟩ := HE.out w5 h35
  clear CV CV1 h4 h5
  go_wp2_with fail
  refine CV2.out.mono ?_
  rintro e w6 ⟨rfl, h6⟩
  have h36 := below_then h35 h6
  have hz := below_then hb3 h36
  obtain ⟨k0, k1, k2, _, _, _⟩ := HE.out w6 h36
  clear CV2 h35 h6 HTX HAA HAB HLN HE HH hb3 h36
  go_wp2_with fail
  go_loopw [7, 8] (fun x y wr => ∃ m : Nat, m ≤ i ∧ x = .int .i64 ((2 ^ m : Nat) : Int) ∧ y = .int .i64 (m : Int) ∧ wr = w6) (fun _ y _ => 6 - (intOf y).toNat)
  case atStart => exact ⟨0, by omega, rfl, rfl, rfl⟩
  case round =>
   obtain ⟨m, hm, rfl, rfl, rfl⟩ := hrel
   have hm6 : (m : Int) < 6 := by omega
   have h1 := CHS.out (askN b) m wr HL1.out (by omega)
   have h2 := CHS.out (clN (askN a)) m wr HL2.out (by omega)
   rw [hasT_bit] at h1 h2
   have HBM := HB.out m
   have C1 := hid h1
   have C2 := hid h2
   have hmb : m ≤ 5 := by omega
   have h2m : 2 ^ m ≤ 32 := Nat.pow_le_pow_right (n := 2) (by omega) hmb
   have HPW : Hid (((2 ^ (m + 1) : Nat) : Int) = ((2 ^ m : Nat) : Int) * 2) := hid (by rw [Nat.pow_succ]; omega)
   have HME : Hid (m = i → ((2 ^ m : Nat) : Int) = mi) := hid (fun e => by rw [e]; exact HMI.out)
   have hp0 : (0 : Int) ≤ ((2 ^ m : Nat) : Int) := Int.natCast_nonneg _
   generalize hpm : ((2 ^ m : Nat) : Int) = pm at *
   have hpl : pm ≤ 32 := by omega
   clear h1 h2 hpm h2m
   generalize (askN b).testBit m = p at *
   generalize (clN (askN a)).testBit m = q at *
   by_cases e : m = i
   ·have hpq : p = true ∧ q = false := by
     have := HBI.out
     rw [← e, HBM, Bool.and_eq_true, Bool.not_eq_true'] at this
     exact this
    obtain ⟨rfl, rfl⟩ := hpq
    have hpmi := HME.out e
    subst hpmi
    subst e
    clear HB HBI HLO HBM HME HPW CHS
    go_wp2_with fail
    refine (CAS.out _ _).mono ?_
    rintro e wq ⟨rfl, rfl⟩
    go_wp2_with fail
    refine C1.out.mono ?_
    rintro e wq ⟨rfl, rfl⟩
    go_wp2_with fail
    refine (CAS.out _ _).mono ?_
    rintro e wq ⟨rfl, rfl⟩
    go_wp2_with fail
    refine (CCL.out _).mono ?_
    rintro e wq ⟨rfl, rfl⟩
    go_wp2_with fail
    refine C2.out.mono ?_
    rintro e wq ⟨rfl, rfl⟩
    clear C1 C2 CAS CCL
    have CNQ := hid (fun n => (CNM.out (wr.drewN n)).mono fun _ _ h => And.intro h.1 h.2.symm)
    go_upto_region 12 with fail
    go_quiet ((go_at_call 23; exact Calls.quiet_of_same (CNQ.out _)))
    have hzz := below_drewN hz nq
    go_wp2_with fail
    go_ret
    exact ⟨rfl, hzz⟩
   ·have hpq : (p && !q) = false := by
     have := HLO.out m (by omega)
     rw [HBM] at this
     exact this
    have hmi : m + 1 ≤ i := by omega
    have hpw := HPW.out
    clear HB HBI HLO HBM HME HPW CHS CNM
    cases p with
    | false =>
     clear C2 CCL
     go_wp2_with fail
     refine (CAS.out _ _).mono ?_
     rintro e wq ⟨rfl, rfl⟩
     go_wp2_with fail
     refine C1.out.mono ?_
     rintro e wq ⟨rfl, rfl⟩
     go_wp2_with fail
     go_roundw
     case rel => exact ⟨m + 1, hmi, by rw [hpw], by go_num, by first | rfl | trivial⟩
     case measure => simp [intOf]; omega
    | true =>
     obtain rfl : q = true := by cases q; cases hpq; rfl
     go_wp2_with fail
     refine (CAS.out _ _).mono ?_
     rintro e wq ⟨rfl, rfl⟩
     go_wp2_with fail
     refine C1.out.mono ?_
     rintro e wq ⟨rfl, rfl⟩
     go_wp2_with fail
     refine (CAS.out _ _).mono ?_
     rintro e wq ⟨rfl, rfl⟩
     go_wp2_with fail
     refine (CCL.out _).mono ?_
     rintro e wq ⟨rfl, rfl⟩
     go_wp2_with fail
     refine C2.out.mono ?_
     rintro e wq ⟨rfl, rfl⟩
     go_wp2_with fail
     go_roundw
     case rel => exact ⟨m + 1, hmi, by rw [hpw], by go_num, by first | rfl | trivial⟩
     case measure => simp [intOf]; omega
end

end Go.Proofs.YtmcicfdnmfbimaaDoor
