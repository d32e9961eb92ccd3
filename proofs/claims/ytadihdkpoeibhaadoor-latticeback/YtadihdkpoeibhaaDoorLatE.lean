/- The walks of a position's Row, and of what the statements of layer 19 ask first. Conditions: the table of the levels lies where it is laid; the levels of a position's slices are known. -/
import Derived.Test.YtadihdkpoeibhaaDoorLatD
import Derived.Test.YtadihdkpoeibhaaDoorTblK
import Derived.Test.YtadihdkpoeibhaaDoorTblM
import Derived.Test.YtadihdkpoeibhaaDoorTblH
import Derived.Test.YtadihdkpoeibhaaDoorTblG
namespace Go.Proofs.YtadihdkpoeibhaaDoor
set_option maxRecDepth 100000
open Go.RowKit

set_option maxRecDepth 100000 in
set_option maxHeartbeats 4000000 in
theorem posrow_any (ao : Option Addr) (n acap : Nat) (v2 : Value) (bo : Option Addr) (n2 bcap : Nat) (h2 : v2 = .slice bo n2 bcap) (xs : List Int) (w : World) (hK : Kinds w) (hI : Ints w (.slice ao n acap) xs) :
    Calls Tryd.prog 12 #[.agg #[.slice ao n acap, v2]] w fun e w' => e = .returned (.agg (rowB (blw xs))) ∧ Below w.heap.size w w' := by
  subst h2
  have hb := ((Below.refl w.heap.size w).alloc (Nat.le_refl _) (.cells #[.slice ao n acap, .slice bo n2 bcap] 32)).alloc (by simp) (.cells #[.bool false, .bool false, .bool false, .bool false, .bool false, .bool false, .bool false, .bool false, .bool false, .bool false, .bool false, .bool false] 25)
  have hP := heap_alloc_new w (.cells #[.slice ao n acap, .slice bo n2 bcap] 32)
  have c0 : (w.alloc (.cells #[.slice ao n acap, .slice bo n2 bcap] 32)).cell? ⟨w.heap.size, 0, none⟩ = some (.slice ao n acap) := by simp only [World.cell?, hP]; rfl
  have c0 := (((Below.refl _ (w.alloc (.cells #[.slice ao n acap, .slice bo n2 bcap] 32))).alloc (Nat.le_refl _) (.cells #[.bool false, .bool false, .bool false, .bool false, .bool false, .bool false, .bool false, .bool false, .bool false, .bool false, .bool false, .bool false] 25)).cell (p := ⟨w.heap.size, 0, none⟩) (block_lt c0)).trans c0
  have h0 : BRow ((w.alloc (.cells #[.slice ao n acap, .slice bo n2 bcap] 32)).alloc (.cells #[.bool false, .bool false, .bool false, .bool false, .bool false, .bool false, .bool false, .bool false, .bool false, .bool false, .bool false, .bool false] 25)) (w.heap.size + 1) noB := BRow.made _ noB (by simp) rowB_none.symm
  have hsz : w.heap.size + 2 ≤ ((w.alloc (.cells #[.slice ao n acap, .slice bo n2 bcap] 32)).alloc (.cells #[.bool false, .bool false, .bool false, .bool false, .bool false, .bool false, .bool false, .bool false, .bool false, .bool false, .bool false, .bool false] 25)).heap.size := by simp
  have CB := Lib.hid (tbelow_any _ xs _ (hK.below hb) (hI.below hb))
  clear hK hI hP
  go_enter Tryd.func12, Tryd.ntmps12
  go_upto_region 1 with fail
  generalize (w.alloc (.cells #[.slice ao n acap, .slice bo n2 bcap] 32)).alloc (.cells #[.bool false, .bool false, .bool false, .bool false, .bool false, .bool false, .bool false, .bool false, .bool false, .bool false, .bool false, .bool false] 25) = w1 at *
  go_wp2_with fail
  refine (CB.out).mono ?_
  rintro e w6 ⟨rfl, hb6⟩
  have h6 := h0.below hb6 h0.lt
  have hb7 := hb.trans (hb6.mono hb.size)
  clear CB hb6 hb h0 c0
  go_wp2_with (with_reducible refine wpList_store_rowB h6 (blw xs) rfl _ _ rfl rfl rfl ?_)
  have h3 := h6.setRow (blw xs)
  exact bodyPost_ret (results_rowB rfl _ _ _ _ rfl h3) rfl ⟨rfl, below_setRow hb7 (by omega) _⟩
theorem seven_text : posB (strTo (blw [7]) 12) (wkTo (blw [7]) 12) = ⟨#[115, 116, 114, 111, 110, 103, 101, 115, 116, 32, 115, 101, 114, 105, 97, 108, 10, 98, 101, 121, 111, 110, 100, 32, 116, 105, 109, 101, 45, 99, 97, 117, 115, 97, 108, 10]⟩ := by decide +kernel
theorem none_text : posB (strTo noB 12) (wkTo noB 12) = ⟨#[115, 116, 114, 111, 110, 103, 101, 115, 116, 32, 45, 10, 98, 101, 121, 111, 110, 100, 32, 114, 101, 97, 100, 45, 97, 116, 111, 109, 105, 99, 10]⟩ := by decide +kernel
theorem seven_shut : cls (blw [7]) = true := by decide +kernel
/-- A position's text and row, of what lattice.Of answers. -/
theorem PosO.text {w wx : World} {b : Nat} {v1 v2 : Value} {r : Nat → Bool} (h : PosO w b v1 v2 (strTo r 12) (wkTo r 12)) (hK : Kinds wx) (hb : Below w.heap.size w wx) :
    Calls Tryd.prog 11 #[.agg #[v1, v2]] wx fun e w' => e = .returned (.string (posB (strTo r 12) (wkTo r 12))) ∧ Below wx.heap.size wx w' := by
  have q := h.below hb
  obtain ⟨a1, n1, k1, rfl⟩ := pos_form q.1
  obtain ⟨a2, n2, k2, rfl⟩ := pos_form q.2
  exact ptext_any a1 n1 k1 a2 n2 k2 _ _ wx hK (ints_nat q.1) (ints_nat q.2) (strTo_lt r) (wkTo_lt r) (strTo_len r 12) (wkTo_len r 12)
theorem PosO.row {w wx : World} {b : Nat} {v1 v2 : Value} {r : Nat → Bool} (h : PosO w b v1 v2 (strTo r 12) (wkTo r 12)) (hK : Kinds wx) (hb : Below w.heap.size w wx) :
    Calls Tryd.prog 12 #[.agg #[v1, v2]] wx fun e w' => e = .returned (.agg (rowB (blw (stI r)))) ∧ Below wx.heap.size wx w' := by
  have q := h.below hb
  obtain ⟨a1, n1, k1, rfl⟩ := pos_form q.1
  obtain ⟨a2, n2, k2, rfl⟩ := pos_form q.2
  exact posrow_any a1 n1 k1 _ a2 n2 k2 rfl _ wx hK (ints_nat q.1)
set_option maxRecDepth 100000 in
set_option maxHeartbeats 4000000 in
theorem speaks19_any (w : World) (hK : Kinds w) : Calls Tryd.prog 5 #[] w fun e w' => e = .returned (.bool true) ∧ Below w.heap.size w w' := by
  have HK := Lib.hid (fun wx (hb : Below w.heap.size w wx) => hK.below hb)
  clear hK
  have hb1 := (Below.refl w.heap.size w).alloc (Nat.le_refl _) (.cells #[.int .i64 7] 34)
  have CB := Lib.hid (tbelow_any _ _ _ (HK.out _ hb1) (ints_oneT w 7 34))
  have CL := Lib.hid (fun (r : Nat → Bool) wx (hx : Below w.heap.size w wx) => latof_any r wx (HK.out _ hx))
  go_enter Tryd.func5, Tryd.ntmps5
  go_wp2_with fail
  refine (CB.out).mono ?_
  rintro e w6 ⟨rfl, hb6⟩
  have hb7 := hb1.trans (hb6.mono hb1.size)
  have CL1 := Lib.hid (CL.out (blw [7]) w6 hb7)
  clear hb1 hb6 CB
  go_wp2_with fail
  refine (CL1.out).mono ?_
  rintro e w7 ⟨v1, v2, rfl, hO, h7⟩
  have hb8 := hb7.trans (h7.mono hb7.size)
  have HO := hO
  obtain ⟨a1, n1, k1, rfl⟩ := pos_form hO.1
  obtain ⟨a2, n2, k2, rfl⟩ := pos_form hO.2
  clear hO CL1 h7 hb7
  have hx8 := box_below w7 (.cells #[.slice a1 n1 k1, .slice a2 n2 k2] 32)
  have hP := heap_alloc_new w7 (.cells #[.slice a1 n1 k1, .slice a2 n2 k2] 32)
  have c0 : (w7.alloc (.cells #[.slice a1 n1 k1, .slice a2 n2 k2] 32)).cell? ⟨w7.heap.size, 0, none⟩ = some (.slice a1 n1 k1) := by simp only [World.cell?, hP]; rfl
  have c1 : (w7.alloc (.cells #[.slice a1 n1 k1, .slice a2 n2 k2] 32)).cell? ⟨w7.heap.size, 1, none⟩ = some (.slice a2 n2 k2) := by simp only [World.cell?, hP]; rfl
  have hb9 := below_then hb8 hx8
  have HO8 := HO.below hx8
  go_wp2_with fail
  generalize w7.alloc (.cells #[.slice a1 n1 k1, .slice a2 n2 k2] 32) = w8 at *
  have CT := Lib.hid (HO8.text (HK.out _ hb9) (Below.refl _ _))
  rw [seven_text] at CT
  clear hx8 hP hb8 HO
  refine CT.out.mono ?_
  rintro e w9 ⟨rfl, h9⟩
  have c0 := (h9.cell (p := ⟨w7.heap.size, 0, none⟩) (block_lt c0)).trans c0
  have c1 := (h9.cell (p := ⟨w7.heap.size, 1, none⟩) (block_lt c1)).trans c1
  have hb10 := below_then hb9 h9
  have CR := Lib.hid (HO8.row (HK.out _ hb10) h9)
  rw [blw_shut seven_shut] at CR
  clear CT h9 hb9 HO8
  go_wp2_with fail
  refine CR.out.mono ?_
  rintro e wA ⟨rfl, hA⟩
  have hb11 := below_then hb10 hA
  have hbB := box_below wA (.cells #[.int .i64 7] 34)
  have hb12 := below_then hb11 hbB
  have CB := Lib.hid (tbelow_any _ _ _ (HK.out _ hb12) (ints_oneT wA 7 34))
  clear CR hA c0 c1 hb10
  go_wp2_with fail
  refine CB.out.mono ?_
  rintro e wB ⟨rfl, hB⟩
  have hb13 := below_then hb12 hB
  have CN := Lib.hid (CL.out noB wB hb13)
  rw [rowB_none] at CN
  have hEQ := fun wx => run_eql_rowB (blw [7]) wx
  have hGD := fun o x y wx => guard_rowB o x y (blw [7]) (blw [7]) wx
  clear CB hB hbB hb11 hb12 CL
  go_wp2_with fail
  refine CN.out.mono ?_
  rintro e wC ⟨v1, v2, rfl, hO, hC⟩
  have hb14 := below_then hb13 hC
  have HO := hO
  obtain ⟨b1, m1, j1, rfl⟩ := pos_form hO.1
  obtain ⟨b2, m2, j2, rfl⟩ := pos_form hO.2
  have CT := Lib.hid (HO.text (HK.out _ hb14) (Below.refl _ _))
  rw [none_text] at CT
  clear hO CN hC hb13 hEQ hGD HO
  go_wp2_with fail
  refine CT.out.mono ?_
  rintro e wD ⟨rfl, hD⟩
  have hb15 := below_then hb14 hD
  go_wp2_with fail
  go_ret
  exact ⟨rfl, hb15⟩
/-- A bit of a number. -/
def bitB (s : Nat) : Nat → Bool := fun i => s.testBit i
set_option maxHeartbeats 2000000 in
theorem row19_any (s : Nat) (w : World) (hs : s < 65536) : Calls Tryd.prog 6 #[.int .u16 s] w fun e w' => e = .returned (.agg (rowB (bitB s))) ∧ Below w.heap.size w w' := by
  have HBit := Lib.hid (fun k => u16_bit s k hs)
  clear hs
  obtain ⟨r, hr⟩ : ∃ r : Nat → Bool, r = bitB s := ⟨_, rfl⟩
  have HR : Hid (∀ k, s.testBit k = r k) := Lib.hid (fun k => by rw [hr]; rfl)
  rw [← hr]
  clear hr
  go_enter Tryd.func6, Tryd.ntmps6
  go_wp2_with fail
  go_loopw [5] (fun i wr => ∃ k : Nat, k ≤ 12 ∧ i = .int .i64 k ∧ BRow wr (w.heap.size + 1) (bvTo r k) ∧ BRow wr w.heap.size noB ∧ Below w.heap.size w wr) (fun i _ => 12 - (intOf i).toNat)
  case atStart =>
    refine ⟨0, by omega, rfl, ?_, ?_, ?_⟩
    · exact BRow.made _ _ (by simp) (rowB_none.symm.trans (rowB_congr fun i _ => by unfold bvTo; simp [noB]))
    · exact (BRow.made w noB rfl rowB_none.symm).alloc _
    · exact ((Below.refl w.heap.size w).alloc (Nat.le_refl _) _).alloc (by simp) _
  case round =>
    obtain ⟨k, hk, rfl, h1, h0, hb⟩ := hrel
    by_cases hlt : k < 12
    · have hki : (k : Int) < 12 := by omega
      have hbt := HBit.out k
      rw [HR.out k] at hbt
      have hc1 := h1.cell hlt
      have hf1 := h1.free k
      have H1 := Lib.hid (fun v => h1.store k v)
      have H0 := Lib.hid (fun v => h0.other (k := ⟨w.heap.size + 1, k, none⟩) (by simp) (.bool v))
      have HB := Lib.hid (fun v => hb.setCell (p := ⟨w.heap.size + 1, k, none⟩) (by simp) (.bool v))
      have HV : Hid (rSet (bvTo r k) k (r k) = bvTo r (k + 1)) := Lib.hid (by
        cases e : r k with
        | true => exact bvTo_hit e
        | false =>
          rw [bvTo_miss e]
          funext i
          unfold rSet bvTo
          by_cases e2 : i = k
          · subst e2; simp
          · rw [if_neg e2])
      cases hrk : r k
      · rw [hrk] at hbt HV
        simp only [Bool.false_eq_true, if_false] at hbt
        clear hrk h1 h0 hb
        go_wp2_with fail
        go_roundw
        case rel => exact ⟨k + 1, by omega, by go_num, HV.out ▸ H1.out _, H0.out _, HB.out _⟩
        case measure => simp [intOf]; omega
      · rw [hrk] at hbt HV
        simp only [if_true] at hbt
        clear hrk h1 h0 hb
        go_wp2_with fail
        go_roundw
        case rel => exact ⟨k + 1, by omega, by go_num, HV.out ▸ H1.out _, H0.out _, HB.out _⟩
        case measure => simp [intOf]; omega
    · have hkn : k = 12 := by omega
      subst hkn
      have h1' := h1.congr (bvTo_all r)
      clear h1
      go_wp2_with (first
        | (with_reducible refine wpList_load_rowB h1' rfl _ rfl rfl ?_)
        | (with_reducible refine wpList_store_rowB h0 r rfl _ _ rfl rfl rfl ?_))
      have h3 := h0.setRow r
      have hb3 := below_setRow (cs := rowB r) hb (Nat.le_refl _)
      exact bodyPost_ret (results_rowB rfl _ _ _ _ rfl h3) rfl ⟨rfl, hb3⟩
end Go.Proofs.YtadihdkpoeibhaaDoor
