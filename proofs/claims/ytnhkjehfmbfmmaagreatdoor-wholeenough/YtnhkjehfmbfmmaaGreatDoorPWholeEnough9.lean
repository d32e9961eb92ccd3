/- Walks and plain facts that the proof of the statement WholeEnough uses, joined: CnoB CanA CanB CanC CanD CanE CanF CanG HisW OrdAG CanH CanJ VecH LevD TblD TblE TblF TblG TblJ TblH TblK VecJ VecK CanK ChkB LatA LatB LatC TblN LatD LatE LatH FueD ChkC ChkD. Conditions: each theorem's own. -/
import Derived.Shelf.SortM.Plain
import Derived.Outline
import Derived.Deep.MidRow
import Derived.Laws.BitsAllLaws
import Derived.Deep.CutRange
import Derived.Deep.AppendLies
import Derived.Deep.RegionHeld
import Derived.Test.YtnhkjehfmbfmmaaGreatDoorPWholeEnough0
import Derived.Test.YtnhkjehfmbfmmaaGreatDoorPWholeEnough1
import Derived.Test.YtnhkjehfmbfmmaaGreatDoorPWholeEnough2
import Derived.Test.YtnhkjehfmbfmmaaGreatDoorPWholeEnough3
import Derived.Test.YtnhkjehfmbfmmaaGreatDoorPWholeEnough4
import Derived.Test.YtnhkjehfmbfmmaaGreatDoorPWholeEnough5
import Derived.Test.YtnhkjehfmbfmmaaGreatDoorPWholeEnough7
import Derived.Test.YtnhkjehfmbfmmaaGreatDoorPWholeEnough8
namespace Go.Proofs.YtnhkjehfmbfmmaaGreatDoor
set_option maxHeartbeats 32000000
set_option maxRecDepth 100000
set_option linter.unusedSimpArgs false
set_option linter.unusedVariables false
open Lib (hid)
section
open Go.RowKit
theorem check_rightB {h : List TxnV} (hc : checkI h = 0) : partsB h = true ∧ valuesB h = true ∧ stampsB h = true ∧ sesB h = true := by
 unfold checkI at hc
 split at hc
 ·cases hc
 ·split at hc
  ·rename_i hr
   unfold rightB at hr
   simp only [Bool.and_eq_true] at hr
   exact ⟨hr.1, hr.2.1, hr.2.2.1, hr.2.2.2⟩
  ·cases hc
theorem may_at {h : List TxnV} (hp : partsB h = true) {t : TxnV} (ht : t ∈ h) : (0 ≤ t.s ∧ t.s < 64 ∧ 0 ≤ t.b ∧ t.b < t.c ∧ t.c ≤ 2147483647 ∧ 1 ≤ t.l.length ∧ t.l.length ≤ 64) ∧ ∀ o ∈ t.l, mayO o = true := by
 have h1 := List.all_eq_true.1 hp t ht
 unfold mayT at h1
 rw [Bool.and_eq_true, decide_eq_true_eq] at h1
 exact ⟨h1.1, fun o ho => List.all_eq_true.1 h1.2 o ho⟩
section
variable {h s c : List TxnV} {f τ κ ν : Int → Int}
end
section
variable {h c : List TxnV} {f τ κ ν : Int → Int} {π ρ : Nat → Nat}
end
section
variable {h s c : List TxnV}
end
end

section
open Go.RowKit Go.Lib Go.Sort Go.Shelf
structure TxS where
 s : Int
 b : Int
 c : Int
 ao : Option Addr
 n : Nat
 cp : Nat
 l : List OpV
instance : Inhabited TxS := ⟨⟨0, 0, 0, none, 0, 0, []⟩⟩
end

section
open Go.RowKit
def stI (r : Nat → Bool) : List Int := (strTo r 12).map Int.ofNat
end

section
open Go.RowKit
theorem can_ok {c : List TxnV} (hc : checkI c = 0) : ∀ t ∈ c, t.ok := fun t ht => by
 obtain ⟨m1, m2⟩ := may_at (check_rightB hc).1 ht
 refine ⟨⟨by unfold IntOk; omega, by unfold IntOk; omega, by unfold IntOk; omega⟩, fun o ho => ?_⟩
 have := (mayO_iff o).1 (m2 o ho)
 refine ⟨by unfold IntOk; omega, by unfold IntOk; omega⟩
theorem can_short {c : List TxnV} (hc : checkI c = 0) : Short c := fun t ht => by
 have := (may_at (check_rightB hc).1 ht).1
 omega
end

section
open Go.RowKit
theorem checkI_vals (h : List TxnV) : checkI h = 0 ∨ checkI h = 2 ∨ checkI h = 3 := by
 unfold checkI
 split
 ·exact .inr (.inr rfl)
 ·split
  ·exact .inl rfl
  ·exact .inr (.inl rfl)
def ChkRes (s : ByteArray) (much : Int) (base : Nat) (w' : World) (e : Ending) : Prop :=
 (∃ n x b w0, x ≠ 0 ∧ ParseRes s b w0 (.returned (.tuple #[.slice none 0 0, .int .i64 n, .int .i64 x])) ∧ e = .returned (.agg (outL (if x = 1 ∨ x = 2 then 1 else 2) (if x = 1 ∨ x = 2 then n else 0) noB wZ0).toArray)) ∨
 (∃ c : List TxnV, runL (linesB s) = some (c.map txE) ∧ endedB s = true ∧ checkI c = 0 ∧ ((Lasts (fuelN much) 0 (vecTo c 12).2 ∧ ∃ ws, e = .returned (.agg (outL 4 0 (accV c) ws).toArray) ∧ WitsIn c ws base w') ∨ (¬ Lasts (fuelN much) 0 (vecTo c 12).2 ∧ e = .returned (.agg (outL 3 0 noB wZ0).toArray))))
theorem outL_oneW {k n : Int} {h : List TxnV} {ws : Nat → Value × Value} {b : Nat} {w : World} (q : WitsIn h ws b w) (r : Nat → Bool) : (outL k n r ws).toArray.all (·.oneCell') = true := outL_one (q.one r)
theorem ccheck_any (s : ByteArray) (much : Int) (w : World) (he : EnvM w) (hs : s.size ≤ 100000) (ht : Tab w) (hK : Kinds w) (hF : ∀ c : List TxnV, runL (linesB s) = some (c.map txE) → endedB s = true → checkI c = 0 → c.length ≤ 7) :
  Calls Tryz.prog 19 #[.string s, .int .i64 much] w fun e w' => ChkRes s much w.heap.size w' e ∧ Below w.heap.size w w' := by
 have hg := ht.pos
 have O1 := OutAt.zero w
 have hb1 := box_below w (.cells #[.int .i64 0, .int .i64 0, .bool false, .bool false, .bool false, .bool false, .bool false, .bool false, .bool false, .bool false, .bool false, .bool false, .bool false, .bool false, .slice none 0 0, .slice none 0 0, .slice none 0 0, .slice none 0 0, .slice none 0 0, .slice none 0 0, .slice none 0 0, .slice none 0 0, .slice none 0 0, .slice none 0 0, .slice none 0 0, .slice none 0 0, .slice none 0 0, .slice none 0 0, .slice none 0 0, .slice none 0 0, .slice none 0 0, .slice none 0 0, .slice none 0 0, .slice none 0 0, .slice none 0 0, .slice none 0 0, .slice none 0 0, .slice none 0 0] 52)
 have CP := hid (sparse_any s _ (he.below hb1) hs)
 have HT : Hid (∀ wx, Below w.heap.size w wx → Tab wx ∧ Kinds wx) := hid (fun wx hb => ⟨ht.below hb hg, hK.below hb⟩)
 have HF := hid hF
 have hs1 : (w.alloc (.cells #[.int .i64 0, .int .i64 0, .bool false, .bool false, .bool false, .bool false, .bool false, .bool false, .bool false, .bool false, .bool false, .bool false, .bool false, .bool false, .slice none 0 0, .slice none 0 0, .slice none 0 0, .slice none 0 0, .slice none 0 0, .slice none 0 0, .slice none 0 0, .slice none 0 0, .slice none 0 0, .slice none 0 0, .slice none 0 0, .slice none 0 0, .slice none 0 0, .slice none 0 0, .slice none 0 0, .slice none 0 0, .slice none 0 0, .slice none 0 0, .slice none 0 0, .slice none 0 0, .slice none 0 0, .slice none 0 0, .slice none 0 0, .slice none 0 0] 52)).heap.size = w.heap.size + 1 := by simp
 clear he hs ht hK hF
 go_enter Tryz.func19, Tryz.ntmps19
 go_upto_region 1 with fail
 generalize w.alloc (.cells #[.int .i64 0, .int .i64 0, .bool false, .bool false, .bool false, .bool false, .bool false, .bool false, .bool false, .bool false, .bool false, .bool false, .bool false, .bool false, .slice none 0 0, .slice none 0 0, .slice none 0 0, .slice none 0 0, .slice none 0 0, .slice none 0 0, .slice none 0 0, .slice none 0 0, .slice none 0 0, .slice none 0 0, .slice none 0 0, .slice none 0 0, .slice none 0 0, .slice none 0 0, .slice none 0 0, .slice none 0 0, .slice none 0 0, .slice none 0 0, .slice none 0 0, .slice none 0 0, .slice none 0 0, .slice none 0 0, .slice none 0 0, .slice none 0 0] 52) = w1 at *
 go_wp2_with fail
 refine CP.out.mono ?_
 rintro e w2 ⟨hR, h2⟩
 have hb2 := below_then hb1 h2
 have h12 := h2.size
 have O2 := O1.below h2 O1.lt
 have hR' := hR
 clear CP h2 hb1 O1
 rcases hR with ⟨k, hk, hH, hno, rfl⟩ | ⟨c, hr, ⟨hen, rfl⟩ | ⟨hen, hne, rfl⟩ | ⟨hen, hc, v, rfl, hM⟩⟩
 ·have HP := hid hR'
  obtain ⟨n, hn⟩ : ∃ n : Int, (k : Int) + 1 = n := ⟨_, rfl⟩
  rw [hn] at HP
  simp only [hn]
  clear hk hH hno hR' hn HF hs1 h12
  have hone2 := outL_one (k := 1) (n := n) (wZ0_one noB)
  have hinf3 := info_outA 1 n noB wZ0
  have hbd := build_bad n
  have hth2 := O2.there (o := 0) (m := (outL 1 n noB wZ0).toArray.size) (by rw [show (outL 1 n noB wZ0).toArray.size = 38 from outL_len _ _ _ _]; omega)
  have O5 := O2.put 1 n noB wZ0
  have hb6 := below_putC (Nat.le_refl w.heap.size) (outL 1 n noB wZ0) 0 _ hb2
  clear O2 hb2
  go_wp2_with (first | (refine wpList_built (by kernel_rfl) rfl hbd ?_) | (with_reducible refine wpList_store_mid rfl 52 _ _ rfl w.heap.size 0 (outL 1 n noB wZ0).toArray rfl rfl hth2 hinf3 hone2 ?_))
  exact bodyPost_ret (results_out rfl _ _ w.heap.size _ _ _ _ rfl O5) rfl ⟨.inl ⟨_, _, _, _, (by decide), HP.out, rfl⟩, hb6⟩
 ·have HP := hid hR'
  obtain ⟨n, hn⟩ : ∃ n : Int, ((linesB s).length : Int) + 1 = n := ⟨_, rfl⟩
  rw [hn] at HP
  simp only [hn]
  clear hr hen hR' hn HF hs1 h12
  have hone2 := outL_one (k := 1) (n := n) (wZ0_one noB)
  have hinf3 := info_outA 1 n noB wZ0
  have hbd := build_bad n
  have hth2 := O2.there (o := 0) (m := (outL 1 n noB wZ0).toArray.size) (by rw [show (outL 1 n noB wZ0).toArray.size = 38 from outL_len _ _ _ _]; omega)
  have O5 := O2.put 1 n noB wZ0
  have hb6 := below_putC (Nat.le_refl w.heap.size) (outL 1 n noB wZ0) 0 _ hb2
  clear O2 hb2
  go_wp2_with (first | (refine wpList_built (by kernel_rfl) rfl hbd ?_) | (with_reducible refine wpList_store_mid rfl 52 _ _ rfl w.heap.size 0 (outL 1 n noB wZ0).toArray rfl rfl hth2 hinf3 hone2 ?_))
  exact bodyPost_ret (results_out rfl _ _ w.heap.size _ _ _ _ rfl O5) rfl ⟨.inl ⟨_, _, _, _, (by decide), HP.out, rfl⟩, hb6⟩
 ·have HP := hid hR'
  rcases checkI_vals c with q | q | q
  ·exact absurd q hne
  ·rw [q] at HP
   simp only [q]
   clear hr hen hR' hne q HF hs1 h12
   have hone2 := outL_one (k := 1) (n := 0) (wZ0_one noB)
   have hinf3 := info_outA 1 0 noB wZ0
   have hbd := build_bad 0
   have hth2 := O2.there (o := 0) (m := (outL 1 0 noB wZ0).toArray.size) (by rw [show (outL 1 0 noB wZ0).toArray.size = 38 from outL_len _ _ _ _]; omega)
   have O5 := O2.put 1 0 noB wZ0
   have hb6 := below_putC (Nat.le_refl w.heap.size) (outL 1 0 noB wZ0) 0 _ hb2
   clear O2 hb2
   go_wp2_with (first | (refine wpList_built (by kernel_rfl) rfl hbd ?_) | (with_reducible refine wpList_store_mid rfl 52 _ _ rfl w.heap.size 0 (outL 1 0 noB wZ0).toArray rfl rfl hth2 hinf3 hone2 ?_))
   exact bodyPost_ret (results_out rfl _ _ w.heap.size _ _ _ _ rfl O5) rfl ⟨.inl ⟨_, _, _, _, (by decide), HP.out, rfl⟩, hb6⟩
  ·rw [q] at HP
   simp only [q]
   clear hr hen hR' hne q HF hs1 h12
   have hone2 := outL_one (k := 2) (n := 0) (wZ0_one noB)
   have hinf3 := info_outA 2 0 noB wZ0
   have hbd := build_large
   have hth2 := O2.there (o := 0) (m := (outL 2 0 noB wZ0).toArray.size) (by rw [show (outL 2 0 noB wZ0).toArray.size = 38 from outL_len _ _ _ _]; omega)
   have O5 := O2.put 2 0 noB wZ0
   have hb6 := below_putC (Nat.le_refl w.heap.size) (outL 2 0 noB wZ0) 0 _ hb2
   clear O2 hb2
   go_wp2_with (first | (refine wpList_built (by kernel_rfl) rfl hbd ?_) | (with_reducible refine wpList_store_mid rfl 52 _ _ rfl w.heap.size 0 (outL 2 0 noB wZ0).toArray rfl rfl hth2 hinf3 hone2 ?_))
   exact bodyPost_ret (results_out rfl _ _ w.heap.size _ _ _ _ rfl O5) rfl ⟨.inl ⟨_, _, _, _, (by decide), HP.out, rfl⟩, hb6⟩
 ·have hTK := HT.out _ hb2
  have hfew := HF.out c hr hen hc
  have CJ := hid (judge_any v c much w2 hM.txns (can_ok hc) (can_short hc) hc hTK.1 hTK.2 (vec_few hfew))
  obtain ⟨va, vc, rfl, _⟩ := hM.txns.form
  have HR := hid hr
  have HE := hid hen
  have HC := hid hc
  clear hr hen hc hM hR' HF hTK hfew
  go_wp2_with fail
  refine CJ.out.mono ?_
  rintro e w3 ⟨hq, h3⟩
  have hb3 := below_then hb2 h3
  have O3 := O2.below h3 O2.lt
  have h23 := h3.size
  clear CJ h3 O2 hb2
  rcases hq with ⟨hla, ws, rfl, hW⟩ | ⟨hla, rfl⟩
  ·have HLA := hid hla
   have hone2 := outL_oneW (k := 4) (n := 0) hW (accV c)
   have hinf3 := info_outA 4 0 (accV c) ws
   have hth2 := O3.there (o := 0) (m := (outL 4 0 (accV c) ws).toArray.size) (by rw [show (outL 4 0 (accV c) ws).toArray.size = 38 from outL_len _ _ _ _]; omega)
   have O5 := O3.put 4 0 (accV c) ws
   have W5 := (hW.cells (g := w.heap.size) (by omega) 0 (outL 4 0 (accV c) ws)).base (b1 := w.heap.size) (by omega)
   have hb6 := below_putC (Nat.le_refl w.heap.size) (outL 4 0 (accV c) ws) 0 _ hb3
   clear O3 hb3 hW hla
   go_wp2_with (with_reducible refine wpList_store_mid rfl 52 _ _ rfl w.heap.size 0 (outL 4 0 (accV c) ws).toArray rfl rfl hth2 hinf3 hone2 ?_)
   exact bodyPost_ret (results_out rfl _ _ w.heap.size _ _ _ _ rfl O5) rfl ⟨.inr ⟨c, HR.out, HE.out, HC.out, .inl ⟨HLA.out, ws, rfl, W5⟩⟩, hb6⟩
  ·have HLA := hid hla
   have hone2 := outL_one (k := 3) (n := 0) (wZ0_one noB)
   have hinf3 := info_outA 3 0 noB wZ0
   have hth2 := O3.there (o := 0) (m := (outL 3 0 noB wZ0).toArray.size) (by rw [show (outL 3 0 noB wZ0).toArray.size = 38 from outL_len _ _ _ _]; omega)
   have O5 := O3.put 3 0 noB wZ0
   have hb6 := below_putC (Nat.le_refl w.heap.size) (outL 3 0 noB wZ0) 0 _ hb3
   clear O3 hb3 hla
   go_wp2_with (with_reducible refine wpList_store_mid rfl 52 _ _ rfl w.heap.size 0 (outL 3 0 noB wZ0).toArray rfl rfl hth2 hinf3 hone2 ?_)
   exact bodyPost_ret (results_out rfl _ _ w.heap.size _ _ _ _ rfl O5) rfl ⟨.inr ⟨c, HR.out, HE.out, HC.out, .inr ⟨HLA.out, rfl⟩⟩, hb6⟩
end

section
open Go.RowKit
def bydTo (r : Nat → Bool) (b : Int) (k : Nat) : Bool := (List.range k).any fun a => !r a && (decide (b ≠ (a : Int)) && impB b (a : Int))
def byd (r : Nat → Bool) (b : Int) : Bool := bydTo r b 12
theorem bydTo_succ (r : Nat → Bool) (b : Int) (k : Nat) : bydTo r b (k + 1) = (bydTo r b k || (!r k && (decide (b ≠ (k : Int)) && impB b (k : Int)))) := by
 unfold bydTo; rw [List.range_succ, List.any_append]; simp
theorem bydTo_hit {r : Nat → Bool} {b : Int} {k : Nat} (hk : k < 12) (h : (!r k && (decide (b ≠ (k : Int)) && impB b (k : Int))) = true) : byd r b = true := List.any_eq_true.2 ⟨k, List.mem_range.2 hk, h⟩
theorem lbeyond_any (r : Nat → Bool) (b : Int) (w : World) (hK : Kinds w) : Calls Tryz.prog 120 #[.agg (rowB r), .int .i64 b] w fun e w' => e = .returned (.bool (byd r b)) ∧ Below w.heap.size w w' := by
 have HK := hid (fun wx (hb : Below w.heap.size w wx) => hK.below hb)
 clear hK
 go_enter Tryz.func120, Tryz.ntmps120
 go_wp2_with fail
 go_loopw [6] (fun i wr => ∃ k : Nat, k ≤ 12 ∧ i = .int .i64 k ∧ bydTo r b k = false ∧ BRow wr w.heap.size r ∧ Below w.heap.size w wr) (fun i _ => 12 - (intOf i).toNat)
 case atStart => exact ⟨0, by omega, rfl, rfl, BRow.made w r rfl rfl, (Below.refl w.heap.size w).alloc (Nat.le_refl _) _⟩
 case round =>
  obtain ⟨k, hk, rfl, hno, h0, hb⟩ := hrel
  have HNO := hid hno
  clear hno
  by_cases hlt : k < 12
  ·have hki : (k : Int) < 12 := by omega
   have hc := h0.cell hlt
   have HS := hid (bydTo_succ r b k)
   have HH := hid (fun h => bydTo_hit (r := r) (b := b) hlt h)
   have CI := hid (limp_any b (k : Int) wr (HK.out _ hb))
   rw [HNO.out] at HS
   cases hr : r k
   rotate_left
   ·rw [hr] at hc HS
    clear hr HH CI
    have HM : Hid (bydTo r b (k + 1) = false) := hid (by rw [HS.out]; rfl)
    go_wp2_with fail
    go_roundw
    case rel => exact ⟨k + 1, by omega, by go_num, HM.out, h0, hb⟩
    case measure => simp [intOf]; omega
   ·rw [hr] at hc HS HH
    clear hr
    by_cases hkb : b = (k : Int)
    ·have HM : Hid (bydTo r b (k + 1) = false) := hid (by rw [HS.out, decide_eq_false (by simpa using hkb)]; rfl)
     clear HH CI HS HNO
     subst hkb
     go_wp2_with fail
     go_roundw
     case rel => exact ⟨k + 1, by omega, by go_num, HM.out, h0, hb⟩
     case measure => simp [intOf]; omega
    ·rw [decide_eq_true (show b ≠ (k : Int) from hkb)] at HS HH
     cases hm : impB b (k : Int)
     ·rw [hm] at CI HS
      have HM : Hid (bydTo r b (k + 1) = false) := hid (by rw [HS.out]; rfl)
      clear hm HH HS
      go_wp2_with (go_at_call 117; refine (CI.out).mono ?_; rintro e w' ⟨rfl, rfl⟩)
      go_roundw
      case rel => exact ⟨k + 1, by omega, by go_num, HM.out, h0, hb⟩
      case measure => simp [intOf]; omega
     ·rw [hm] at CI HH
      have HM : Hid (true = byd r b) := hid (HH.out rfl).symm
      clear hm HH HS
      go_wp2_with (go_at_call 117; refine (CI.out).mono ?_; rintro e w' ⟨rfl, rfl⟩)
      go_ret
      exact ⟨lret_b HM.out, hb⟩
  ·have hkn : k = 12 := by omega
   subst hkn
   have HM : Hid (false = byd r b) := hid HNO.out.symm
   go_wp2_with fail
   go_ret
   exact ⟨lret_b HM.out, hb⟩
def wkTo (r : Nat → Bool) (k : Nat) : List Nat := (List.range k).filter fun b => !r b && !byd r (b : Int)
theorem wkTo_succ (r : Nat → Bool) (k : Nat) : wkTo r (k + 1) = wkTo r k ++ (if !r k && !byd r (k : Int) then [k] else []) := by
 unfold wkTo
 rw [List.range_succ, List.filter_append]
 congr 1
 cases h : !r k && !byd r (k : Int) <;> simp [h]
theorem wkTo_len (r : Nat → Bool) (k : Nat) : (wkTo r k).length ≤ k := by
 unfold wkTo
 have := List.length_filter_le (fun b => !r b && !byd r (b : Int)) (List.range k)
 simpa using this
theorem lweakest_any (r : Nat → Bool) (w : World) (hK : Kinds w) : Calls Tryz.prog 74 #[.agg (rowB r)] w fun e w' => ∃ v, e = .returned v ∧ w'.ownsRow w.heap.size 74 1 v (wkTo r 12).length (natV (wkTo r 12)) ∧ Below w.heap.size w w' := by
 obtain ⟨i0, hi, hz0, hz1, hz2⟩ := info_parts infoLv
 have HK := hid (fun wx (hb : Below w.heap.size w wx) => hK.below hb)
 clear hK
 go_enter Tryz.func74, Tryz.ntmps74
 go_wp2_with fail
 go_loopw [3, 5] (fun v i wr => ∃ k : Nat, k ≤ 12 ∧ i = .int .i64 k ∧ wr.ownsRow (w.heap.size + 1) 74 1 v (wkTo r k).length (natV (wkTo r k)) ∧ BRow wr w.heap.size r ∧ Below w.heap.size w wr) (fun _ i _ => 12 - (intOf i).toNat)
 case atStart => exact ⟨0, by omega, rfl, World.ownsRow_nil _ _ _ _, BRow.made w r rfl rfl, (Below.refl w.heap.size w).alloc (Nat.le_refl _) _⟩
 case round =>
  obtain ⟨k, hk, rfl, hown, h0, hb⟩ := hrel
  have hll := wkTo_len r k
  by_cases hlt : k < 12
  ·have hki : (k : Int) < 12 := by omega
   have hc := h0.cell hlt
   have HS := hid (wkTo_succ r k)
   have CI := hid (lbeyond_any r (k : Int) wr (HK.out _ hb))
   have H2 := hid (fun wx (hx : Below wr.heap.size wr wx) => h0.below hx h0.lt)
   have HB := hid (fun wx (hx : Below wr.heap.size wr wx) => hb.trans (hx.mono hb.size))
   have HO := hid (fun wx (hx : Below wr.heap.size wr wx) => owns_below hown hx)
   have hsz := h0.lt
   cases hr : r k
   rotate_left
   ·rw [hr] at hc HS
    have HM : Hid (wkTo r (k + 1) = wkTo r k) := hid (by rw [HS.out]; simp)
    clear hr HS CI
    go_wp2_with fail
    go_roundw
    case rel => exact ⟨k + 1, by omega, by go_num, by rw [HM.out]; exact hown, h0, hb⟩
    case measure => simp [intOf]; omega
   ·rw [hr] at hc HS
    clear hr
    cases hm : byd r (k : Int)
    ·rw [hm] at CI HS
     have HM : Hid (wkTo r (k + 1) = wkTo r k ++ [k]) := hid (by rw [HS.out]; simp)
     clear hm HS
     go_wp2_with (with_reducible refine wpList_load_rowB_g h0 _ rfl (by kernel_rfl) rfl ?_)
     refine (CI.out).mono ?_
     rintro e w6 ⟨rfl, hb6⟩
     have h6 := H2.out _ hb6
     have hbw := HB.out _ hb6
     have hown6 := HO.out _ hb6
     have hs6 := h6.lt
     clear CI hown h0 hb hb6 hsz H2 HB HO
     go_wp2_with (at_builtin; refine wpList_append_own _ rfl _ _ 54 rfl (w.heap.size + 1) 74 i0 (.int .i64 0) 1 8 Tryz.underlying54 hi hz0 hz1 hz2 rfl (by decide) _ _ _ rfl (hown6.alloc _) ⟨_, 0, none⟩ 1 1 [.int .i64 (k : Int)] rfl rfl ?c1 ?c2 ?c3 ?c4 ?c5 ?_)
     case c1 => exact cell_one_new _ _ _
     case c2 => intro u hu; simp at hu; subst hu; rfl
     case c3 => unfold maxLen; omega
     case c4 => omega
     case c5 => simp; omega
     ·intro v' w7 hown' hgrow _
      have hb' := below_app0 hbw (Nat.le_refl _) hown6 (by omega) hgrow
      have h7 := (h6.alloc _).kept hgrow (fun e => by have := (hown6.lt _ e.symm).1; omega)
      clear hown6 h6 hbw hgrow
      go_wp2_with fail
      go_roundw
      case rel =>
       refine ⟨k + 1, by omega, by go_num, ?_, h7, hb'⟩
       rw [HM.out, natV_snoc, List.length_append]
       exact hown'
      case measure => simp [intOf]; omega
    ·rw [hm] at CI HS
     have HM : Hid (wkTo r (k + 1) = wkTo r k) := hid (by rw [HS.out]; simp)
     clear hm HS
     go_wp2_with (first
      | (with_reducible refine wpList_load_rowB_g h0 _ rfl (by kernel_rfl) rfl ?_)
      | (go_at_call 120; refine (CI.out).mono ?_; rintro e w' ⟨rfl, hbb⟩))
     go_roundw
     case rel => exact ⟨k + 1, by omega, by go_num, by rw [HM.out]; exact HO.out _ hbb, H2.out _ hbb, HB.out _ hbb⟩
     case measure => simp [intOf]; omega
  ·have hkn : k = 12 := by omega
   subst hkn
   go_wp2_with fail
   go_ret
   exact ⟨_, rfl, own_base0 hown (by omega), hb⟩
end

section
open Go.RowKit
theorem yields_load_rowB {ops : Array Oper} {S : World → Prop} {o : Oper} {a : Act} {g : Nat} {r : Nat → Bool} (hw : Region.wanted o (yielded ops a.tmps) = true) (x : Operand) (ho : o.op = .load 38 x)
  (hx : a.eval x = .pointer (some ⟨g, 0, none⟩)) (hS : ∀ w, S w → BRow w g r) : YieldsIf Tryz.prog ops S o (.agg (rowB r)) a :=
 .inl ⟨hw, fun w hw' => by
  unfold execOp
  simp only [ho, hx, Instr.loadAt, Instr.sureAddr, Sem.run_bind, Sem.run_pure, Result.andThen_ok, run_loadVar_row w g _ _ _ _ _ (hS w hw') Tryz.underlying38 rfl (infoRow' _)]⟩
theorem takeR {P : Program} {ops : Array Oper} {Q : Exit → Act → World → Prop} {md : Region.Mode} {S : World → Prop} (d : Option Tmp) {i : Nat} {oi : Oper} {v : Value} {fuel : Nat} {listed : Array Bool} {a : Act} {w : World} (hi : ops[i]? = some oi) (hd : oi.dst = d)
  (hs : Region.noSelect ops = true) (hf : Region.free md ops listed i = true) (hr : (Region.ready md ops listed).contains i = true)
  (hQ : ∀ c a w, Q (.panic c) (a.put oi.dst v) w → Q (.panic c) a w) (hy : YieldsIf P ops S oi v a) (hS : S w)
  (h : wpAnyH P md ops Q S fuel (listed.setIfInBounds i true) (a.put d v) w) : wpAnyH P md ops Q S (fuel + 1) listed a w := by
 subst hd; exact wpAnyH_take hi hs hf hr hQ hy hS h
end

section
open Go.RowKit
theorem infoPos {v1 v2 : Value} : (Tryz.prog.info? 56).map (·.size) = some (#[v1, v2] : Array Value).size := (show (Tryz.prog.info? 56).map (·.size) = some 2 by kernel_rfl)
theorem own_one {w : World} {b e s n : Nat} {v : Value} {xs : List Value} (h : w.ownsRow b e s v n xs) : v.oneCell' = true := by
 rcases h.2 with ⟨rfl, _⟩ | ⟨g, cap, cur, rfl, _⟩ <;> rfl
theorem pos_form {w : World} {b e s n : Nat} {v : Value} {xs : List Value} (h : w.ownsRow b e s v n xs) : ∃ ao m c, v = .slice ao m c := by
 rcases h.2 with ⟨rfl, _⟩ | ⟨g, cap, cur, rfl, _⟩
 ·exact ⟨_, _, _, rfl⟩
 ·exact ⟨_, _, _, rfl⟩
theorem pos_one {w w' : World} {b e s n b' e' s' n' : Nat} {v1 v2 : Value} {xs ys : List Value} (h1 : w.ownsRow b e s v1 n xs) (h2 : w'.ownsRow b' e' s' v2 n' ys) : (#[v1, v2] : Array Value).all (·.oneCell') = true := by
 simp [own_one h1, own_one h2]
theorem owns_setRow {w : World} {g base e s n : Nat} {v : Value} {xs : List Value} (h : w.ownsRow base e s v n xs) (hg : g < base) (cs : Array Value) : (w.setRow g cs).ownsRow base e s v n xs := by
 obtain ⟨h1, h2⟩ := h
 refine ⟨h1, ?_⟩
 rcases h2 with h2 | ⟨g', cap, cur, e1, e2, hb, r⟩
 ·exact .inl h2
 ·exact .inr ⟨g', cap, cur, e1, e2, by rw [setRow_other _ _ _ _ (by omega)]; exact hb, r⟩
theorem BRow.otherRow {w : World} {g g' : Nat} {r : Nat → Bool} (h : BRow w g r) (hg : g ≠ g') (cs : Array Value) : BRow (w.setRow g' cs) g r := by
 unfold BRow at *; rw [setRow_other _ _ _ _ hg]; exact h
structure PosO (w : World) (b : Nat) (v1 v2 : Value) (l m : List Nat) : Prop where
 o1 : w.ownsRow b 74 1 v1 l.length (natV l)
 o2 : w.ownsRow b 74 1 v2 m.length (natV m)
theorem ints_lev {w : World} {b : Nat} {v : Value} {l : List Nat} (h : w.ownsRow b 74 1 v l.length (natV l)) : Ints w v (l.map Int.ofNat) := by
 have h1 := Row.of_owns h
 unfold Ints
 rw [List.length_map, List.map_map]
 exact h1
theorem latof_any (r : Nat → Bool) (w : World) (hK : Kinds w) : Calls Tryz.prog 31 #[.agg (rowB r)] w fun e w' => ∃ v1 v2, e = .returned (.agg #[v1, v2]) ∧ PosO w' w.heap.size v1 v2 (strTo r 12) (wkTo r 12) ∧ Below w.heap.size w w' := by
 have hR := (BRow.made w r rfl rfl).alloc (.cells #[.slice none 0 0, .slice none 0 0] 56)
 have hP := heap_alloc_new (w.alloc (.cells (rowB r) 38)) (.cells #[.slice none 0 0, .slice none 0 0] 56)
 have hb := ((Below.refl w.heap.size w).alloc (Nat.le_refl _) (.cells (rowB r) 38)).alloc (by simp) (.cells #[.slice none 0 0, .slice none 0 0] 56)
 have hsz : (w.alloc (.cells (rowB r) 38)).heap.size = w.heap.size + 1 := by simp
 rw [hsz] at hP
 have hs2 : ((w.alloc (.cells (rowB r) 38)).alloc (.cells #[.slice none 0 0, .slice none 0 0] 56)).heap.size = w.heap.size + 2 := by simp
 have HK := hid (fun wx (hx : Below w.heap.size w wx) => hK.below hx)
 clear hK hsz
 go_enter Tryz.func31, Tryz.ntmps31
 go_upto_region 1 with fail
 generalize (w.alloc (.cells (rowB r) 38)).alloc (.cells #[.slice none 0 0, .slice none 0 0] 56) = w1 at *
 have kd := (Below.refl w1.heap.size w1).drew
 have HP := hid (fun wx (hx : Below w1.heap.size w1 wx) => (hx.block (w.heap.size + 1) (by omega)).trans hP)
 have HW := hid (fun wx (hx : Below w1.heap.size w1 wx) => hb.trans (hx.mono hb.size))
 have hR := hR.below kd hR.lt
 have C1 := hid (fun wx (hx : Below w1.heap.size w1 wx) => strongest_any r wx (HK.out _ (HW.out _ hx)))
 have C2 := hid (fun wx (hx : Below w1.heap.size w1 wx) => lweakest_any r wx (HK.out _ (HW.out _ hx)))
 have HKD0 := hid kd
 have hdz := kd.size
 clear hP hb kd HK
 refine wp_region_held_drew (S := fun wx => BRow wx w.heap.size r) (by kernel_rfl) hR (fun hS0 => ?_)
 generalize w1.drew = wd at *
 refine takeR (some 3) (i := 0) (v := _) rfl rfl (by kernel_rfl) (by kernel_rfl) (by kernel_rfl) (fun _ _ _ h => h) (yields_load_rowB (by rfl) _ rfl rfl (fun _ hw => hw)) hS0 ?_
 try simp only [Act.put, zA, zB, zC]
 refine takeR (some 5) (i := 2) (v := _) rfl rfl (by kernel_rfl) (by kernel_rfl) (by kernel_rfl) (fun _ _ _ h => h) (yields_load_rowB (by rfl) _ rfl rfl (fun _ hw => hw)) hS0 ?_
 try simp only [Act.put, zA, zB, zC]
 refine rD 1 rfl (fun K hK => ?_)
 go_simp
 refine (C1.out _ HKD0.out).mono ?_
 rintro e w2 ⟨v1, rfl, hO1, h2⟩
 obtain ⟨a1, n1, k1, rfl⟩ := pos_form hO1
 have HKD := hid (below_then HKD0.out h2)
 have sB := hS0.below h2 hS0.lt
 show K _ _
 refine hK.out _ _ sB (fun _ => ?_)
 clear hK K
 refine rD 3 rfl (fun K hK => ?_)
 go_simp
 refine (C2.out _ HKD.out).mono ?_
 rintro e w3 ⟨v2, rfl, hO2, h3⟩
 obtain ⟨a2, n2, k2, rfl⟩ := pos_form hO2
 have HKE := hid (below_then HKD.out h3)
 have sC := sB.below h3 sB.lt
 show K _ _
 refine hK.out _ _ sC (fun _ => ?_)
 clear hK K
 refine takeR (some 7) (i := 4) (v := ?vla4x5) rfl rfl (by kernel_rfl) (by kernel_rfl) (by kernel_rfl) (fun _ _ _ h => h) (Or.inl ⟨by rfl, ?hla4x5⟩) sC ?rla4x5
 case hla4x5 => (intro w _; go_simp; try (with_reducible rfl))
 try simp only [Act.put, zA, zB, zC]
 refine rD 5 rfl (fun K hK => ?_)
 rw [if_pos (by rfl)]
 have hp3 := HP.out _ HKE.out
 have HP3 := hid hp3
 have HO1 := hid (owns_setRow (owns_below hO1 h3) (g := w.heap.size + 1) (by omega) #[.slice a1 n1 k1, .slice a2 n2 k2])
 have HO2 := hid (owns_setRow hO2 (g := w.heap.size + 1) (by have := h2.size; omega) #[.slice a1 n1 k1, .slice a2 n2 k2])
 have HB := hid (HW.out _ HKE.out)
 have h2s := h2.size
 refine wp_store_row 56 _ _ rfl (w.heap.size + 1) #[.slice a1 n1 k1, .slice a2 n2 k2] rfl rfl _ _ hp3 infoPos rfl (pos_one hO1 hO2) ?_
 refine hK.out _ _ (sC.otherRow (by omega) _) (fun _ => ?_)
 clear hK K
 refine wpAnyH_done (by kernel_rfl) ?_ _
 go_wp2_with fail
 have hb9 := below_setRow HB.out (show w.heap.size ≤ w.heap.size + 1 by omega) #[.slice a1 n1 k1, .slice a2 n2 k2]
 refine bodyPost_ret (v := .agg #[.slice a1 n1 k1, .slice a2 n2 k2]) (results_cell_row rfl _ _ (w.heap.size + 1) _ #[.slice a1 n1 k1, .slice a2 n2 k2] _ _ rfl (setRow_heap _ _ _ _ _ _ HP3.out) Tryz.underlying56 rfl infoPos) rfl ⟨_, _, rfl, ⟨own_base0 HO1.out (by omega), own_base0 HO2.out (by omega)⟩, hb9⟩
end

section
open Go.RowKit
theorem posrow_any (ao : Option Addr) (n acap : Nat) (v2 : Value) (bo : Option Addr) (n2 bcap : Nat) (h2 : v2 = .slice bo n2 bcap) (xs : List Int) (w : World) (hK : Kinds w) (hI : Ints w (.slice ao n acap) xs) :
  Calls Tryz.prog 29 #[.agg #[.slice ao n acap, v2]] w fun e w' => e = .returned (.agg (rowB (blw xs))) ∧ Below w.heap.size w w' := by
 subst h2
 have hb := ((Below.refl w.heap.size w).alloc (Nat.le_refl _) (.cells #[.slice ao n acap, .slice bo n2 bcap] 56)).alloc (by simp) (.cells #[.bool false, .bool false, .bool false, .bool false, .bool false, .bool false, .bool false, .bool false, .bool false, .bool false, .bool false, .bool false] 38)
 have hP := heap_alloc_new w (.cells #[.slice ao n acap, .slice bo n2 bcap] 56)
 have c0 : (w.alloc (.cells #[.slice ao n acap, .slice bo n2 bcap] 56)).cell? ⟨w.heap.size, 0, none⟩ = some (.slice ao n acap) := by simp only [World.cell?, hP]; rfl
 have c0 := (((Below.refl _ (w.alloc (.cells #[.slice ao n acap, .slice bo n2 bcap] 56))).alloc (Nat.le_refl _) (.cells #[.bool false, .bool false, .bool false, .bool false, .bool false, .bool false, .bool false, .bool false, .bool false, .bool false, .bool false, .bool false] 38)).cell (p := ⟨w.heap.size, 0, none⟩) (block_lt c0)).trans c0
 have h0 : BRow ((w.alloc (.cells #[.slice ao n acap, .slice bo n2 bcap] 56)).alloc (.cells #[.bool false, .bool false, .bool false, .bool false, .bool false, .bool false, .bool false, .bool false, .bool false, .bool false, .bool false, .bool false] 38)) (w.heap.size + 1) noB := BRow.made _ noB (by simp) rowB_none.symm
 have hsz : w.heap.size + 2 ≤ ((w.alloc (.cells #[.slice ao n acap, .slice bo n2 bcap] 56)).alloc (.cells #[.bool false, .bool false, .bool false, .bool false, .bool false, .bool false, .bool false, .bool false, .bool false, .bool false, .bool false, .bool false] 38)).heap.size := by simp
 have CB := hid (tbelow_any _ xs _ (hK.below hb) (hI.below hb))
 clear hK hI hP
 go_enter Tryz.func29, Tryz.ntmps29
 go_upto_region 1 with fail
 generalize (w.alloc (.cells #[.slice ao n acap, .slice bo n2 bcap] 56)).alloc (.cells #[.bool false, .bool false, .bool false, .bool false, .bool false, .bool false, .bool false, .bool false, .bool false, .bool false, .bool false, .bool false] 38) = w1 at *
 go_wp2_with fail
 refine (CB.out).mono ?_
 rintro e w6 ⟨rfl, hb6⟩
 have h6 := h0.below hb6 h0.lt
 have hb7 := hb.trans (hb6.mono hb.size)
 clear CB hb6 hb h0 c0
 go_wp2_with (with_reducible refine wpList_store_rowB h6 (blw xs) rfl _ _ rfl rfl rfl ?_)
 have h3 := h6.setRow (blw xs)
 exact bodyPost_ret (results_rowB rfl _ _ _ _ rfl h3) rfl ⟨rfl, below_setRow hb7 (by omega) _⟩
theorem PosO.row {w wx : World} {b : Nat} {v1 v2 : Value} {r : Nat → Bool} (h : PosO w b v1 v2 (strTo r 12) (wkTo r 12)) (hK : Kinds wx) (hb : Below w.heap.size w wx) :
  Calls Tryz.prog 29 #[.agg #[v1, v2]] wx fun e w' => e = .returned (.agg (rowB (blw (stI r)))) ∧ Below wx.heap.size wx w' := by
 have q := h.below hb
 obtain ⟨a1, n1, k1, rfl⟩ := pos_form q.1
 obtain ⟨a2, n2, k2, rfl⟩ := pos_form q.2
 exact posrow_any a1 n1 k1 _ a2 n2 k2 rfl _ wx hK (ints_lev q.1)
end

section
open Go.RowKit
theorem results_pos2 {fn : Func} {p u : Tmp} (h : fn.results = #[.cell p 56, .tmp u]) (tmps : Array Value) (w : World) (g : Nat) (a1 a2 : Option Addr) (n1 k1 n2 k2 : Nat)
  (hp : tmps.getD p undef = .pointer (some ⟨g, 0, none⟩)) (hg : w.heap[g]? = some (.cells #[.slice a1 n1 k1, .slice a2 n2 k2] 56 (0, 0))) : (results fn tmps).run Tryz.prog w = .ok (.tuple #[.agg #[.slice a1 n1 k1, .slice a2 n2 k2], tmps.getD u undef]) w := by
 have hp' : tmps[p]?.getD undef = .pointer (some ⟨g, 0, none⟩) := by simpa using hp
 simp [results, h, hp', asAddr, run_loadVar_row w g _ 56 #[.slice a1 n1 k1, .slice a2 n2 k2] _ _ hg Tryz.underlying56 rfl infoPos]
end

section
open Go.RowKit
def enoughN (t o : Int) : Nat := if t < 0 ∨ 64 < t ∨ o < 0 then 4611686018427387904 else timesN (levZ t) 12
theorem enough_any (t o : Int) (w : World) : Calls Tryz.prog 23 #[.int .i64 t, .int .i64 o] w fun e w' => e = .returned (.int .i64 ((enoughN t o : Nat) : Int)) ∧ w = w' := by
 have CA := hid (fall_any t w)
 by_cases h1 : t < 0
 ·have HE : Hid (((enoughN t o : Nat) : Int) = 4611686018427387904) := hid (by unfold enoughN; rw [if_pos (.inl h1)]; rfl)
  go_enter Tryz.func23, Tryz.ntmps23
  go_wp2_with fail
  go_ret
  exact ⟨by rw [HE.out]; rfl, rfl⟩
 by_cases h2 : 64 < t
 ·have HE : Hid (((enoughN t o : Nat) : Int) = 4611686018427387904) := hid (by unfold enoughN; rw [if_pos (.inr (.inl h2))]; rfl)
  go_enter Tryz.func23, Tryz.ntmps23
  go_wp2_with fail
  go_ret
  exact ⟨by rw [HE.out]; rfl, rfl⟩
 by_cases h3 : o < 0
 ·have HE : Hid (((enoughN t o : Nat) : Int) = 4611686018427387904) := hid (by unfold enoughN; rw [if_pos (.inr (.inr h3))]; rfl)
  go_enter Tryz.func23, Tryz.ntmps23
  go_wp2_with fail
  go_ret
  exact ⟨by rw [HE.out]; rfl, rfl⟩
 have HE : Hid (((enoughN t o : Nat) : Int) = ((timesN (levZ t) 12 : Nat) : Int)) := hid (by unfold enoughN; rw [if_neg (by omega)])
 go_enter Tryz.func23, Tryz.ntmps23
 go_wp2_with fail
 refine CA.out.mono ?_
 rintro e w1 ⟨rfl, rfl⟩
 go_wp2_with fail
 go_ret
 exact ⟨by rw [HE.out]; rfl, rfl⟩
theorem OutAt.made (w : World) (t : TypeId) (k n : Int) (r : Nat → Bool) (ws : Nat → Value × Value) : OutAt (w.alloc (.cells (outL k n r ws).toArray t)) w.heap.size k n r ws := fun i u hu => by
 have hn := heap_alloc_new w (.cells (outL k n r ws).toArray t)
 refine ⟨?_, frozen_of_row _ _ _ _ _ hn⟩
 rw [cell_of_row _ _ _ _ _ _ hn]
 simpa using hu
section
variable {w : World} {g : Nat} {k n : Int} {r : Nat → Bool} {ws : Nat → Value × Value}
theorem OutAt.kind (h : OutAt w g k n r ws) : w.cell? ⟨g, 0, none⟩ = some (.int .i64 k) := (h 0 _ rfl).1
theorem outL_vec (k n : Int) (r : Nat → Bool) (ws : Nat → Value × Value) {i : Nat} (hi : i < 36) : (outL k n r ws)[2 + i]? = some (vecF r ws i) := by
 unfold outL
 rw [show 2 + i = i + 1 + 1 by omega, List.getElem?_cons_succ, List.getElem?_cons_succ, vecL_at r ws hi]
theorem OutAt.vec (h : OutAt w g k n r ws) : w.rangeAt g 2 (vecL r ws) := fun j v hv => by
 have hj : j < 36 := by
  have := (List.getElem?_eq_some_iff.1 hv).1
  rwa [vecL_len] at this
 rw [(h (2 + j) _ (outL_vec k n r ws hj)).1, ← hv, vecL_at r ws hj]
end
theorem cpos_yes (n : Int) (r : Nat → Bool) (ws : Nat → Value × Value) (w : World) (hK : Kinds w) :
  Calls Tryz.prog 20 #[.agg (outL 4 n r ws).toArray] w fun e w' => (∃ v1 v2, e = .returned (.tuple #[.agg #[v1, v2], .bool true]) ∧ PosO w' w.heap.size v1 v2 (strTo r 12) (wkTo r 12)) ∧ Below w.heap.size w w' := by
 have O1 := OutAt.made w 52 4 n r ws
 have hb1 := box_below w (.cells (outL 4 n r ws).toArray 52)
 have hs1 : (w.alloc (.cells (outL 4 n r ws).toArray 52)).heap.size = w.heap.size + 1 := by simp
 have HK := hid (fun wx (hx : Below w.heap.size w wx) => hK.below hx)
 clear hK
 go_enter Tryz.func20, Tryz.ntmps20
 go_upto_region 1 with fail
 generalize w.alloc (.cells (outL 4 n r ws).toArray 52) = w1 at *
 have hP := heap_alloc_new w1 (.cells #[.slice none 0 0, .slice none 0 0] 56)
 have hb2 := box_below w1 (.cells #[.slice none 0 0, .slice none 0 0] 56)
 have hlt : w1.heap.size < (w1.alloc (.cells #[.slice none 0 0, .slice none 0 0] 56)).heap.size := by simp
 have O2 := O1.below hb2 O1.lt
 have hb3 := below_then hb1 hb2
 have n0 := O2.kind
 have hrow := O2.row
 have hgw : w.heap.size < w1.heap.size := by omega
 generalize w1.heap.size = q1 at *
 subst hs1
 generalize w1.alloc (.cells #[.slice none 0 0, .slice none 0 0] 56) = w2 at *
 have CL := hid (latof_any r w2 (HK.out _ hb3))
 clear O1 O2 hb1 hb2
 go_wp2_with (with_reducible refine wpList_load_mid rfl 38 _ rfl w.heap.size 2 rfl (rowB r).toList _ hrow Tryz.underlying38 rfl (by kernel_rfl) ?_)
 refine CL.out.mono ?_
 rintro e w5 ⟨v1, v2, rfl, hO, h5⟩
 obtain ⟨a1, n1, k1, rfl⟩ := pos_form hO.1
 obtain ⟨a2, n2, k2, rfl⟩ := pos_form hO.2
 have hP2 := (h5.block _ hlt).trans hP
 have hb5 := below_then hb3 h5
 have hO9 : PosO (w5.setRow (w.heap.size + 1) #[.slice a1 n1 k1, .slice a2 n2 k2]) w.heap.size (.slice a1 n1 k1) (.slice a2 n2 k2) (strTo r 12) (wkTo r 12) := ⟨own_base0 (owns_setRow hO.1 (by omega) _) (by omega), own_base0 (owns_setRow hO.2 (by omega) _) (by omega)⟩
 have HO9 := hid hO9
 have hone : (#[Value.slice a1 n1 k1, Value.slice a2 n2 k2] : Array Value).all (·.oneCell') = true := by simp [Value.oneCell']
 have hb9 := below_setRow hb5 (show w.heap.size ≤ (w.heap.size + 1) by omega) #[.slice a1 n1 k1, .slice a2 n2 k2]
 clear CL hO h5 hb3 hrow hO9 n0 hP hlt hb5
 go_wp2_with (with_reducible refine wpList_store_row rfl 56 _ _ rfl (w.heap.size + 1) #[.slice a1 n1 k1, .slice a2 n2 k2] rfl rfl _ _ hP2 infoPos rfl hone ?_)
 exact bodyPost_ret (results_pos2 rfl _ _ (w.heap.size + 1) _ _ _ _ _ _ rfl (setRow_heap _ _ _ _ _ _ hP2)) rfl ⟨⟨_, _, rfl, HO9.out⟩, hb9⟩
theorem empty_run : runL (linesB ⟨#[]⟩) = some [] ∧ endedB ⟨#[]⟩ = true := by decide +kernel
theorem empty_acc : ∀ l : Fin 12, accV [] l.val = true := by decide +kernel
theorem vec_none : ∀ j, j ≤ 12 → (vecTo [] j).2 = 0 := by decide +kernel
theorem str_all {r : Nat → Bool} (h : ∀ l, l < 12 → r l = true) : strTo r 12 = [11] := by
 have e : strTo r 12 = strTo (fun _ => true) 12 := by
  unfold strTo abv abvTo
  refine List.filter_congr fun b hb => ?_
  have hb := List.mem_range.1 hb
  rw [h b hb]
  congr 2
  refine any_alike _ fun a ha => ?_
  rw [h a (List.mem_range.1 ha)]
 rw [e]
 decide +kernel
theorem bad_line : ¬ ∃ E, runL (linesB ⟨#[116, 120, 110, 32, 48, 32, 49, 10]⟩) = some E := by
 rw [show runL (linesB ⟨#[116, 120, 110, 32, 48, 32, 49, 10]⟩) = none from by decide +kernel]
 rintro ⟨E, h⟩
 cases h
end

section
open Go.RowKit
theorem out_put (w : World) (k n : Int) (r : Nat → Bool) (ws : Nat → Value × Value) : OutAt ((w.alloc (.cells #[.int .i64 0, .int .i64 0, .bool false, .bool false, .bool false, .bool false, .bool false, .bool false, .bool false, .bool false, .bool false, .bool false, .bool false, .bool false, .slice none 0 0, .slice none 0 0, .slice none 0 0, .slice none 0 0, .slice none 0 0, .slice none 0 0, .slice none 0 0, .slice none 0 0, .slice none 0 0, .slice none 0 0, .slice none 0 0, .slice none 0 0, .slice none 0 0, .slice none 0 0, .slice none 0 0, .slice none 0 0, .slice none 0 0, .slice none 0 0, .slice none 0 0, .slice none 0 0, .slice none 0 0, .slice none 0 0, .slice none 0 0, .slice none 0 0] 52)).setCells w.heap.size 0 (outL k n r ws)) w.heap.size k n r ws ∧ Below w.heap.size w ((w.alloc (.cells #[.int .i64 0, .int .i64 0, .bool false, .bool false, .bool false, .bool false, .bool false, .bool false, .bool false, .bool false, .bool false, .bool false, .bool false, .bool false, .slice none 0 0, .slice none 0 0, .slice none 0 0, .slice none 0 0, .slice none 0 0, .slice none 0 0, .slice none 0 0, .slice none 0 0, .slice none 0 0, .slice none 0 0, .slice none 0 0, .slice none 0 0, .slice none 0 0, .slice none 0 0, .slice none 0 0, .slice none 0 0, .slice none 0 0, .slice none 0 0, .slice none 0 0, .slice none 0 0, .slice none 0 0, .slice none 0 0, .slice none 0 0, .slice none 0 0] 52)).setCells w.heap.size 0 (outL k n r ws)) ∧ (w.alloc (.cells #[.int .i64 0, .int .i64 0, .bool false, .bool false, .bool false, .bool false, .bool false, .bool false, .bool false, .bool false, .bool false, .bool false, .bool false, .bool false, .slice none 0 0, .slice none 0 0, .slice none 0 0, .slice none 0 0, .slice none 0 0, .slice none 0 0, .slice none 0 0, .slice none 0 0, .slice none 0 0, .slice none 0 0, .slice none 0 0, .slice none 0 0, .slice none 0 0, .slice none 0 0, .slice none 0 0, .slice none 0 0, .slice none 0 0, .slice none 0 0, .slice none 0 0, .slice none 0 0, .slice none 0 0, .slice none 0 0, .slice none 0 0, .slice none 0 0] 52)).there w.heap.size 0 (outL k n r ws).toArray.size :=
 ⟨(OutAt.zero w).put k n r ws, below_putC (Nat.le_refl _) _ _ _ (box_below w _), by rw [show (outL k n r ws).toArray.size = 38 from outL_len _ _ _ _]; exact (OutAt.zero w).there (by omega)⟩
theorem parse_fails {s : ByteArray} {b : Nat} {w : World} {v : Value} {n x : Int} {c : List TxnV} (h : ParseRes s b w (.returned (.tuple #[v, .int .i64 n, .int .i64 x]))) (hx : x ≠ 0) (hr : runL (linesB s) = some (c.map txE)) (he : endedB s = true) (hc : checkI c = 0) : False := by
 rcases h with ⟨k, hk, _, hno, _⟩ | ⟨d, hd, hR⟩
 ·rw [runL_stop hno] at hr; cases hr
 ·rw [hr] at hd
  have hce := Option.some.inj hd
  rcases hR with ⟨q, _⟩ | ⟨_, q, _⟩ | ⟨_, _, v', e, _⟩
  ·rw [he] at q; cases q
  ·exact q ((checkI_txE hce).symm.trans hc)
  ·simp at e
   exact hx e.2.2
theorem check_empty (w : World) (he : EnvM w) (ht : Tab w) (hK : Kinds w) : Calls Tryz.prog 19 #[.string ⟨#[]⟩, .int .i64 0] w fun e w' => (∃ ws, e = .returned (.agg (outL 4 0 (accV []) ws).toArray) ∧ WitsIn [] ws w.heap.size w') ∧ Below w.heap.size w w' := by
 refine (ccheck_any ⟨#[]⟩ 0 w he (by decide) ht hK (fun c hr _ _ => by
  rw [empty_run.1] at hr
  have := congrArg List.length (Option.some.inj hr)
  simp at this
  omega)).mono ?_
 rintro e w' ⟨hq, hb⟩
 refine ⟨?_, hb⟩
 rcases hq with ⟨n, x, b, w0, hx, hP, _⟩ | ⟨c, hr, _, _, hq⟩
 ·exact (parse_fails (c := []) hP hx empty_run.1 empty_run.2 rfl).elim
 ·rw [empty_run.1] at hr
  have hc0 : c = [] := by
   have := congrArg List.length (Option.some.inj hr)
   simpa using this.symm
  subst hc0
  rcases hq with ⟨_, ws, e1, e2⟩ | ⟨hn, _⟩
  ·exact ⟨ws, e1, e2⟩
  ·exfalso
   apply hn
   right
   rw [vec_none 12 (Nat.le_refl _)]
   exact Nat.zero_le _
theorem check_bad (w : World) (he : EnvM w) (ht : Tab w) (hK : Kinds w) : Calls Tryz.prog 19 #[.string ⟨#[116, 120, 110, 32, 48, 32, 49, 10]⟩, .int .i64 0] w fun e w' => e = .returned (.agg (outL 1 1 noB wZ0).toArray) ∧ Below w.heap.size w w' := by
 refine (ccheck_any ⟨#[116, 120, 110, 32, 48, 32, 49, 10]⟩ 0 w he (by decide) ht hK (fun c hr _ _ => (bad_line ⟨_, hr⟩).elim)).mono ?_
 rintro e w' ⟨hq, hb⟩
 refine ⟨?_, hb⟩
 rcases hq with ⟨n, x, b, w0, hx, hP, rfl⟩ | ⟨c, hr, _⟩
 ·rcases hP with ⟨k, hk, _, _, e⟩ | ⟨d, hd, _⟩
  ·have hl : (linesB ⟨#[116, 120, 110, 32, 48, 32, 49, 10]⟩).length = 1 := by decide +kernel
   have hk0 : k = 0 := by omega
   subst hk0
   simp at e
   obtain ⟨rfl, rfl⟩ := e
   rfl
  ·exact (bad_line ⟨_, hd⟩).elim
 ·exact (bad_line ⟨_, hr⟩).elim
theorem speaks25_any (w : World) (he : EnvM w) (ht : Tab w) (hK : Kinds w) :
  Calls Tryz.prog 17 #[] w fun e w' => e = .returned (.bool true) ∧ Below w.heap.size w w' := by
 have hg := ht.pos
 have HT : Hid (∀ wx, Below w.heap.size w wx → EnvM wx ∧ Tab wx ∧ Kinds wx) := hid (fun wx hb => ⟨he.below hb, ht.below hb hg, hK.below hb⟩)
 have C1 := hid (check_empty w he ht hK)
 clear he ht hK hg
 go_enter Tryz.func17, Tryz.ntmps17
 go_wp2_with fail
 refine C1.out.mono ?_
 rintro e wa ⟨⟨ws, rfl, hW⟩, ha⟩
 have q := HT.out _ ha
 have C2 := hid (check_bad wa q.1 q.2.1 q.2.2)
 clear C1 q
 go_wp2_with fail
 refine C2.out.mono ?_
 rintro e w2 ⟨rfl, h2⟩
 have hb2 := below_then ha h2
 have hW2 := hW.below h2
 have hoA := outL_oneW (k := 4) (n := 0) hW2 (accV [])
 have hoB := outL_one (k := 1) (n := 1) (wZ0_one noB)
 have hiA := info_outA 4 0 (accV []) ws
 have hiB := info_outA 1 1 noB wZ0
 have hA0 := OutAt.zero w2
 have hx1 := box_below w2 (.cells #[.int .i64 0, .int .i64 0, .bool false, .bool false, .bool false, .bool false, .bool false, .bool false, .bool false, .bool false, .bool false, .bool false, .bool false, .bool false, .slice none 0 0, .slice none 0 0, .slice none 0 0, .slice none 0 0, .slice none 0 0, .slice none 0 0, .slice none 0 0, .slice none 0 0, .slice none 0 0, .slice none 0 0, .slice none 0 0, .slice none 0 0, .slice none 0 0, .slice none 0 0, .slice none 0 0, .slice none 0 0, .slice none 0 0, .slice none 0 0, .slice none 0 0, .slice none 0 0, .slice none 0 0, .slice none 0 0, .slice none 0 0, .slice none 0 0] 52)
 have hx2 := box_below (w2.alloc (.cells #[.int .i64 0, .int .i64 0, .bool false, .bool false, .bool false, .bool false, .bool false, .bool false, .bool false, .bool false, .bool false, .bool false, .bool false, .bool false, .slice none 0 0, .slice none 0 0, .slice none 0 0, .slice none 0 0, .slice none 0 0, .slice none 0 0, .slice none 0 0, .slice none 0 0, .slice none 0 0, .slice none 0 0, .slice none 0 0, .slice none 0 0, .slice none 0 0, .slice none 0 0, .slice none 0 0, .slice none 0 0, .slice none 0 0, .slice none 0 0, .slice none 0 0, .slice none 0 0, .slice none 0 0, .slice none 0 0, .slice none 0 0, .slice none 0 0] 52)) (.cells #[.int .i64 0, .int .i64 0, .bool false, .bool false, .bool false, .bool false, .bool false, .bool false, .bool false, .bool false, .bool false, .bool false, .bool false, .bool false, .slice none 0 0, .slice none 0 0, .slice none 0 0, .slice none 0 0, .slice none 0 0, .slice none 0 0, .slice none 0 0, .slice none 0 0, .slice none 0 0, .slice none 0 0, .slice none 0 0, .slice none 0 0, .slice none 0 0, .slice none 0 0, .slice none 0 0, .slice none 0 0, .slice none 0 0, .slice none 0 0, .slice none 0 0, .slice none 0 0, .slice none 0 0, .slice none 0 0, .slice none 0 0, .slice none 0 0] 52)
 have hs1 : (w2.alloc (.cells #[.int .i64 0, .int .i64 0, .bool false, .bool false, .bool false, .bool false, .bool false, .bool false, .bool false, .bool false, .bool false, .bool false, .bool false, .bool false, .slice none 0 0, .slice none 0 0, .slice none 0 0, .slice none 0 0, .slice none 0 0, .slice none 0 0, .slice none 0 0, .slice none 0 0, .slice none 0 0, .slice none 0 0, .slice none 0 0, .slice none 0 0, .slice none 0 0, .slice none 0 0, .slice none 0 0, .slice none 0 0, .slice none 0 0, .slice none 0 0, .slice none 0 0, .slice none 0 0, .slice none 0 0, .slice none 0 0, .slice none 0 0, .slice none 0 0] 52)).heap.size = w2.heap.size + 1 := by simp
 have hA1 := hA0.below hx2 hA0.lt
 have hB1 := OutAt.zero (w2.alloc (.cells #[.int .i64 0, .int .i64 0, .bool false, .bool false, .bool false, .bool false, .bool false, .bool false, .bool false, .bool false, .bool false, .bool false, .bool false, .bool false, .slice none 0 0, .slice none 0 0, .slice none 0 0, .slice none 0 0, .slice none 0 0, .slice none 0 0, .slice none 0 0, .slice none 0 0, .slice none 0 0, .slice none 0 0, .slice none 0 0, .slice none 0 0, .slice none 0 0, .slice none 0 0, .slice none 0 0, .slice none 0 0, .slice none 0 0, .slice none 0 0, .slice none 0 0, .slice none 0 0, .slice none 0 0, .slice none 0 0, .slice none 0 0, .slice none 0 0] 52))
 rw [hs1] at hB1
 have hthA := hA1.there (o := 0) (m := (outL 4 0 (accV []) ws).toArray.size) (by rw [show (outL 4 0 (accV []) ws).toArray.size = 38 from outL_len _ _ _ _]; omega)
 have hA2 := hA1.put 4 0 (accV []) ws
 have hB2 := hB1.cells (g' := w2.heap.size) (by omega) 0 (outL 4 0 (accV []) ws)
 have hthB := hB2.there (o := 0) (m := (outL 1 1 noB wZ0).toArray.size) (by rw [show (outL 1 1 noB wZ0).toArray.size = 38 from outL_len _ _ _ _]; omega)
 have hB3 := hB2.put 1 1 noB wZ0
 have hA3 := hA2.cells (g' := w2.heap.size + 1) (by omega) 0 (outL 1 1 noB wZ0)
 have hb3 := below_then hb2 (below_putC (show w2.heap.size ≤ w2.heap.size + 1 by omega) (outL 1 1 noB wZ0) 0 _ (below_putC (Nat.le_refl w2.heap.size) (outL 4 0 (accV []) ws) 0 _ (below_then hx1 hx2)))
 clear C2 h2 hb2 hW2 hA0 hx1 hx2 hs1 hA1 hB1 hA2 hB2 hW ha
 go_upto_region 2 with (first | (with_reducible refine wpList_store_mid rfl 52 _ _ rfl w2.heap.size 0 (outL 4 0 (accV []) ws).toArray rfl rfl hthA hiA hoA ?_) | (with_reducible refine wpList_store_mid rfl 52 _ _ rfl (w2.heap.size + 1) 0 (outL 1 1 noB wZ0).toArray rfl rfl hthB hiB hoB ?_))
 generalize (((w2.alloc (.cells #[.int .i64 0, .int .i64 0, .bool false, .bool false, .bool false, .bool false, .bool false, .bool false, .bool false, .bool false, .bool false, .bool false, .bool false, .bool false, .slice none 0 0, .slice none 0 0, .slice none 0 0, .slice none 0 0, .slice none 0 0, .slice none 0 0, .slice none 0 0, .slice none 0 0, .slice none 0 0, .slice none 0 0, .slice none 0 0, .slice none 0 0, .slice none 0 0, .slice none 0 0, .slice none 0 0, .slice none 0 0, .slice none 0 0, .slice none 0 0, .slice none 0 0, .slice none 0 0, .slice none 0 0, .slice none 0 0, .slice none 0 0, .slice none 0 0] 52)).alloc (.cells #[.int .i64 0, .int .i64 0, .bool false, .bool false, .bool false, .bool false, .bool false, .bool false, .bool false, .bool false, .bool false, .bool false, .bool false, .bool false, .slice none 0 0, .slice none 0 0, .slice none 0 0, .slice none 0 0, .slice none 0 0, .slice none 0 0, .slice none 0 0, .slice none 0 0, .slice none 0 0, .slice none 0 0, .slice none 0 0, .slice none 0 0, .slice none 0 0, .slice none 0 0, .slice none 0 0, .slice none 0 0, .slice none 0 0, .slice none 0 0, .slice none 0 0, .slice none 0 0, .slice none 0 0, .slice none 0 0, .slice none 0 0, .slice none 0 0] 52)).setCells w2.heap.size 0 (outL 4 0 (accV []) ws)).setCells (w2.heap.size + 1) 0 (outL 1 1 noB wZ0) = w3 at *
 generalize w2.heap.size = g1 at *
 have CP := hid (cpos_yes 0 (accV []) ws w3 (HT.out _ hb3).2.2)
 have hall := hA3.all
 have hio := info_out 4 0 (accV []) ws
 have HA3 := hid hA3
 have HB3 := hid hB3
 clear hthA hthB hoA hoB hiA hiB hA3 hB3
 go_wp2_with (with_reducible refine wpList_load_mid rfl 52 _ rfl g1 0 rfl (outL 4 0 (accV []) ws) _ hall Tryz.underlying52 rfl hio ?_)
 refine CP.out.mono ?_
 rintro e w4 ⟨⟨v1, v2, rfl, hO⟩, h4⟩
 obtain ⟨a1, n1, k1, rfl⟩ := pos_form hO.1
 obtain ⟨a2, n2, k2, rfl⟩ := pos_form hO.2
 have hn1 : n1 = 1 := by
  have h1 := hO.1
  rw [str_all (fun l hl => empty_acc ⟨l, hl⟩)] at h1
  rcases h1.2 with q | ⟨_, _, _, q, _⟩
  ·exact absurd q.2 (by decide)
  ·simp at q; exact q.2.1
 subst hn1
 have hb4 := below_then hb3 h4
 have hx5 := box_below w4 (.cells #[.slice a1 1 k1, .slice a2 n2 k2] 56)
 have hP := heap_alloc_new w4 (.cells #[.slice a1 1 k1, .slice a2 n2 k2] 56)
 have c0 : (w4.alloc (.cells #[.slice a1 1 k1, .slice a2 n2 k2] 56)).cell? ⟨w4.heap.size, 0, none⟩ = some (.slice a1 1 k1) := by simp only [World.cell?, hP]; rfl
 have A5 := (HA3.out.below h4 HA3.out.lt)
 have A5 := A5.below hx5 A5.lt
 have B5 := (HB3.out.below h4 HB3.out.lt)
 have B5 := B5.below hx5 B5.lt
 have hb5 := below_then hb4 hx5
 have nA := A5.kind
 have nR := A5.bit (l := 11) (by omega)
 rw [empty_acc ⟨11, by decide⟩] at nR
 have nB := B5.kind
 have nL := B5.line
 have CE := hid (fun wx => enough_any 3 5 wx)
 rw [show ((enoughN 3 5 : Nat) : Int) = 216 from by decide +kernel] at CE
 clear CP hall hio HA3 HB3 hO h4 hb4 hx5 hP A5 B5 hb3
 go_upto_region 3 with fail
 generalize w4.alloc (.cells #[.slice a1 1 k1, .slice a2 n2 k2] 56) = w5 at *
 go_wp2_with fail
 refine (CE.out _).mono ?_
 rintro e w6 ⟨rfl, rfl⟩
 go_wp2_with fail
 go_ret
 exact ⟨rfl, hb5⟩
theorem seven_lev : ∀ k, k ≤ 7 → timesN (levN k) 12 = levN k * 12 ∧ trN k ≤ levN k := by decide +kernel
theorem lasts_enough {h : List TxnV} (hn : h.length ≤ 7) (o : Nat) : Lasts (fuelN ((enoughN (h.length : Int) (o : Int) : Nat) : Int)) 0 (vecTo h 12).2 := by
 have e : enoughN (h.length : Int) (o : Int) = timesN (levN h.length) 12 := by
  unfold enoughN levZ
  rw [if_neg (by omega), Int.toNat_natCast]
 rw [e]
 obtain ⟨h1, h2⟩ := seven_lev _ hn
 have hv := vec_bound (h := h) (levN h.length) (fun l _ => Nat.le_trans (dec_tries h (l : Int)) h2) 12 (Nat.le_refl _)
 have h3 := times_le (levN h.length) 12
 right
 unfold fuelN
 rw [h1] at h3 ⊢
 omega
theorem check_run {s : ByteArray} {h : List TxnV} (hrun : runL (linesB s) = some (h.map txE)) (hend : endedB s = true) (hc : checkI h = 0) (hs : s.size ≤ 100000) (hn : h.length ≤ 7) (much : Int) (w : World) (he : EnvM w) (ht : Tab w) (hK : Kinds w) :
  Calls Tryz.prog 19 #[.string s, .int .i64 much] w fun e w' => ((Lasts (fuelN much) 0 (vecTo h 12).2 ∧ ∃ ws, e = .returned (.agg (outL 4 0 (accV h) ws).toArray) ∧ WitsIn h ws w.heap.size w') ∨ (¬ Lasts (fuelN much) 0 (vecTo h 12).2 ∧ e = .returned (.agg (outL 3 0 noB wZ0).toArray))) ∧ Below w.heap.size w w' := by
 refine (ccheck_any _ much w he hs ht hK (fun c hr _ _ => by
  rw [hrun] at hr
  rw [← txE_len (Option.some.inj hr)]
  exact hn)).mono ?_
 rintro e w' ⟨hq, hb⟩
 refine ⟨?_, hb⟩
 rcases hq with ⟨n, x, b, w0, hx, hP, _⟩ | ⟨c, hr, _, _, hq⟩
 ·exact (parse_fails hP hx hrun hend hc).elim
 ·rw [hrun] at hr
  have hce := (Option.some.inj hr).symm
  have e1 : accV c = accV h := acc_txE hce
  have e2 : vecTo c = vecTo h := by
   have : vecStep c = vecStep h := by unfold vecStep; rw [dec_txE hce, decW_txE hce]
   unfold vecTo
   rw [this]
  rw [e1, e2] at hq
  refine hq.imp (fun ⟨q, ws, e3, e4⟩ => ⟨q, ws, e3, ?_⟩) id
  intro i hi
  have := e4 i hi
  rw [decW_txE hce] at this
  exact this
theorem check_pr {h : List TxnV} (hok : ∀ t ∈ h, t.ok) (hc : checkI h = 0) (hn : h.length ≤ 7) (much : Int) (w : World) (he : EnvM w) (ht : Tab w) (hK : Kinds w) :
  Calls Tryz.prog 19 #[.string ⟨(prTxt h).toArray⟩, .int .i64 much] w fun e w' => ((Lasts (fuelN much) 0 (vecTo h 12).2 ∧ ∃ ws, e = .returned (.agg (outL 4 0 (accV h) ws).toArray) ∧ WitsIn h ws w.heap.size w') ∨ (¬ Lasts (fuelN much) 0 (vecTo h 12).2 ∧ e = .returned (.agg (outL 3 0 noB wZ0).toArray))) ∧ Below w.heap.size w w' := by
 obtain ⟨h1, h2, h3⟩ := checkI_right hc
 have hl := prTxt_len2 h hok
 have hs : (⟨(prTxt h).toArray⟩ : ByteArray).size ≤ 100000 := by
  have e : (⟨(prTxt h).toArray⟩ : ByteArray).size = (prTxt h).length := by simp [ByteArray.size]
  rw [e]; omega
 exact check_run (runL_pr h3) (pr_lines h).2 hc hs hn much w he ht hK
theorem wenough13_walk (va : Value) (h : List TxnV) (w : World) (he : Env w) (ht : Tab w) (hK : Kinds w) (hT : Txns w va h) (hok : ∀ t ∈ h, t.ok) (hsh : Short h) :
  Calls Tryz.prog 9 #[va] w fun e w' => e = .returned (.bool true) ∧ Below w.heap.size w w' := by
 have hg := ht.pos
 have HT : Hid (∀ wx, Below w.heap.size w wx → Env wx ∧ Tab wx ∧ Kinds wx) := hid (fun wx hb => ⟨he.below hb, ht.below hb hg, hK.below hb⟩)
 have HH := hid (fun wx (hx : Below w.heap.size w wx) => hT.below hx)
 obtain ⟨ao, cap, rfl, hal⟩ := hT.form
 have HOK := hid hok
 have HSH := hid hsh
 have CE := hid (fun (t o : Int) wx => enough_any t o wx)
 have CE3 := hid (enough_any 3 0 w)
 rw [show ((enoughN 3 0 : Nat) : Int) = 216 from by decide +kernel] at CE3
 clear he ht hK hT hok hg
 go_enter Tryz.func9, Tryz.ntmps9
 go_wp2_with fail
 refine CE3.out.mono ?_
 rintro e w1 ⟨rfl, rfl⟩
 clear CE3
 by_cases h7 : 7 < h.length
 ·have h7i : (7 : Int) < (h.length : Int) := by omega
  clear hsh
  go_wp2_with fail
  go_ret
  exact ⟨rfl, Below.refl _ _⟩
 have h7i : ¬ (7 : Int) < (h.length : Int) := by omega
 have CC := hid (rcheck_any _ h w (HH.out _ (Below.refl _ _)) hsh)
 rw [← check_ref] at CC
 by_cases hc : checkI h = 0
 rotate_left
 ·have hcn : ¬ checkI h = 0 := hc
  generalize checkI h = c at *
  have hcb : (c != 0) = true := by rw [bne_iff_ne]; exact hcn
  clear hsh hc
  go_wp2_with fail
  refine CC.out.mono ?_
  rintro e w2 ⟨rfl, hb2⟩
  go_wp2_with fail
  go_ret
  exact ⟨rfl, hb2⟩
 rw [hc] at CC
 go_wp2_with fail
 refine CC.out.mono ?_
 rintro e w2 ⟨rfl, hb2⟩
 have hq := HT.out _ hb2
 have HC := hid hc
 have H7 : Hid (h.length ≤ 7) := hid (by omega)
 have CPR := hid (print_any _ h w2 hq.1.1 (HH.out _ hb2) (fun t ht => ⟨HOK.out t ht, by have := (may_at (check_rightB HC.out).1 ht).1; omega⟩) (by have := H7.out; omega))
 have CN := hid (fun wx (hx : Below w.heap.size w wx) => count_any _ h wx (HH.out _ hx) (by have := (check_zero HC.out).2.1; omega))
 clear CC hc hsh hq
 go_wp2_with fail
 refine CPR.out.mono ?_
 rintro e w3 ⟨rfl, h3⟩
 have hb3 := below_then hb2 h3
 have CN3 := hid (CN.out _ hb3)
 clear CPR h3 hb2 CN
 go_wp2_with fail
 refine CN3.out.mono ?_
 rintro e w4 ⟨rfl, h4⟩
 have hb4 := below_then hb3 h4
 have hq := HT.out _ hb4
 have CC1 := hid (CE.out (h.length : Int) (opsN h : Int) w4)
 have CK := hid (check_pr HOK.out HC.out H7.out ((enoughN (h.length : Int) (opsN h : Int) : Nat) : Int) w4 hq.1 hq.2.1 hq.2.2)
 have HL := hid (lasts_enough H7.out (opsN h))
 clear CN3 CE h4 hb3 hq
 go_wp2_with fail
 refine CC1.out.mono ?_
 rintro e w5 ⟨rfl, rfl⟩
 clear CC1
 go_wp2_with fail
 refine CK.out.mono ?_
 rintro e w5 ⟨hqq, h5⟩
 have hb5 := below_then hb4 h5
 obtain ⟨_, ws, rfl, hW⟩ := hqq.resolve_right (fun q => q.1 HL.out)
 obtain ⟨O6, hb6, hth⟩ := out_put w5 4 0 (accV h) ws
 have hone := outL_oneW (k := 4) (n := 0) hW (accV h)
 have hinf := info_outA 4 0 (accV h) ws
 have hinf2 := info_vec (accV h) ws
 have h56 := below_then hb5 hb6
 clear CK hqq HL hW h5 hb4 hb5 hb6
 go_upto_region 6 with (with_reducible refine wpList_store_mid rfl 52 _ _ rfl w5.heap.size 0 (outL 4 0 (accV h) ws).toArray rfl rfl hth hinf hone ?_)
 generalize (w5.alloc (.cells #[.int .i64 0, .int .i64 0, .bool false, .bool false, .bool false, .bool false, .bool false, .bool false, .bool false, .bool false, .bool false, .bool false, .bool false, .bool false, .slice none 0 0, .slice none 0 0, .slice none 0 0, .slice none 0 0, .slice none 0 0, .slice none 0 0, .slice none 0 0, .slice none 0 0, .slice none 0 0, .slice none 0 0, .slice none 0 0, .slice none 0 0, .slice none 0 0, .slice none 0 0, .slice none 0 0, .slice none 0 0, .slice none 0 0, .slice none 0 0, .slice none 0 0, .slice none 0 0, .slice none 0 0, .slice none 0 0, .slice none 0 0, .slice none 0 0] 52)).setCells w5.heap.size 0 (outL 4 0 (accV h) ws) = w6 at *
 generalize w5.heap.size = g6 at *
 have hq := HT.out _ h56
 have CO2 := hid (lawof_any _ h w6 (HH.out _ h56) HOK.out HSH.out HC.out hq.2.1 hq.2.2 (vec_few H7.out))
 clear hth hone hinf hq
 go_wp2_with fail
 refine CO2.out.mono ?_
 rintro e w7 ⟨⟨B2, us, rfl, hOr, hW⟩, h10⟩
 obtain ⟨V10, hb10, hth⟩ := vec_put w7 (accV h) us
 have hone := hW.one (accV h)
 have hinf := info_vecA (accV h) us
 have hinf3 := info_vec (accV h) us
 have h11 := below_then h10 hb10
 have O11 := O6.below h11 O6.lt
 have h12 := below_then h56 h11
 clear CO2 hOr hW h10 hb10 O6 h56 h11
 go_upto_region 7 with (with_reducible refine wpList_store_mid rfl 44 _ _ rfl w7.heap.size 0 (vecL (accV h) us).toArray rfl rfl hth hinf hone ?_)
 generalize (w7.alloc (.cells #[.bool false, .bool false, .bool false, .bool false, .bool false, .bool false, .bool false, .bool false, .bool false, .bool false, .bool false, .bool false, .slice none 0 0, .slice none 0 0, .slice none 0 0, .slice none 0 0, .slice none 0 0, .slice none 0 0, .slice none 0 0, .slice none 0 0, .slice none 0 0, .slice none 0 0, .slice none 0 0, .slice none 0 0, .slice none 0 0, .slice none 0 0, .slice none 0 0, .slice none 0 0, .slice none 0 0, .slice none 0 0, .slice none 0 0, .slice none 0 0, .slice none 0 0, .slice none 0 0, .slice none 0 0, .slice none 0 0] 44)).setCells w7.heap.size 0 (vecL (accV h) us) = w10 at *
 generalize w7.heap.size = x10 at *
 have n0 := O11.kind
 have hall1 := O11.vec
 have hall2 := V10.all
 have CS := hid (vsame_any (accV h) (accV h) ws us w10)
 rw [eqlB_one (fun _ _ => rfl)] at CS
 clear hth hone hinf V10 O11
 go_wp2_with (first | (with_reducible refine wpList_load_midG 44 _ rfl (by kernel_rfl) g6 2 rfl (vecL (accV h) ws) _ hall1 Tryz.underlying44 rfl hinf2 ?_) | (with_reducible refine wpList_load_midG 44 _ rfl (by kernel_rfl) x10 0 rfl (vecL (accV h) us) _ hall2 Tryz.underlying44 rfl hinf3 ?_))
 refine CS.out.mono ?_
 rintro e w11 ⟨rfl, h13⟩
 have hz := below_then h12 h13
 clear CS hall1 hall2 h13
 go_wp2_with fail
 go_ret
 exact ⟨rfl, hz⟩
end

end Go.Proofs.YtnhkjehfmbfmmaaGreatDoor
