/- Walks and plain facts that the proof of the statement MemoAlike uses, joined: MemK BruB SeaA MemL MemN MemO. Conditions: each theorem's own. -/
import Derived.Deep.QuietTactic
import Derived.BigQuiet
import Derived.Test.YtecpeegbfeijaaaDoorPMemoAlike0
import Derived.Test.YtecpeegbfeijaaaDoorPMemoAlike2
import Derived.Test.YtecpeegbfeijaaaDoorPMemoAlike3
import Derived.Test.YtecpeegbfeijaaaDoorPMemoAlike4
import Derived.Test.YtecpeegbfeijaaaDoorPMemoAlike7
namespace Go.Proofs.YtecpeegbfeijaaaDoor
set_option maxRecDepth 100000
open Go.RowKit

structure BoxP (g : Nat) (vh : Value) (a : Nat) (vb vo : Value) (m : Nat) (vn : Value) (w : World) : Prop where
  c0 : w.cell? ⟨g, 0, none⟩ = some vh
  c1 : w.cell? ⟨g, 1, none⟩ = some (.int .u8 (a : Int))
  c2 : w.cell? ⟨g, 2, none⟩ = some vb
  c3 : w.cell? ⟨g, 3, none⟩ = some vo
  c4 : w.cell? ⟨g, 4, none⟩ = some (.int .u8 (m : Int))
  c5 : w.cell? ⟨g, 5, none⟩ = some vn
theorem BoxP.block {g : Nat} {vh : Value} {a : Nat} {vb vo : Value} {m : Nat} {vn : Value} {w w' : World} (h : BoxP g vh a vb vo m vn w) (hb : w'.heap[g]? = w.heap[g]?) : BoxP g vh a vb vo m vn w' :=
  ⟨(World.cell?_of_block (a := ⟨g, 0, none⟩) hb).trans h.c0, (World.cell?_of_block (a := ⟨g, 1, none⟩) hb).trans h.c1, (World.cell?_of_block (a := ⟨g, 2, none⟩) hb).trans h.c2, (World.cell?_of_block (a := ⟨g, 3, none⟩) hb).trans h.c3, (World.cell?_of_block (a := ⟨g, 4, none⟩) hb).trans h.c4, (World.cell?_of_block (a := ⟨g, 5, none⟩) hb).trans h.c5⟩
theorem BoxP.below {g : Nat} {vh : Value} {a : Nat} {vb vo : Value} {m : Nat} {vn : Value} {w w' : World} (h : BoxP g vh a vb vo m vn w) (hb : Below w.heap.size w w') : BoxP g vh a vb vo m vn w' := h.block (hb.block g (block_lt h.c0))
theorem BoxP.made (w : World) (vh : Value) (a : Nat) (vb vo : Value) (m : Nat) (vn : Value) : BoxP w.heap.size vh a vb vo m vn (w.alloc (.cells #[vh, .int .u8 (a : Int), vb, vo, .int .u8 (m : Int), vn] 28)) := by
  have hn := heap_alloc_new w (.cells #[vh, .int .u8 (a : Int), vb, vo, .int .u8 (m : Int), vn] 28)
  refine ⟨?_, ?_, ?_, ?_, ?_, ?_⟩ <;> (rw [cell_of_row _ _ _ _ _ _ hn]; rfl)
theorem row_take {w : World} {ao : Option Addr} {n cap : Nat} {L : List Nat} (h : Row w (.slice ao n cap) L.length 1 (L.map fun i : Nat => Value.int .i64 (i : Int))) {k : Nat} (hk : k ≤ L.length) : Row w (.slice ao k cap) (L.take k).length 1 ((L.take k).map fun i : Nat => Value.int .i64 (i : Int)) := by
  obtain ⟨_, ao', cap', he, hm, hno, hc⟩ := h
  cases he
  have hl : (L.take k).length = k := by rw [List.length_take]; omega
  refine ⟨by simp, ao, cap, by rw [hl], by rw [hl]; omega, fun e => by have := hno e; rw [hl]; omega, fun hn => ?_⟩
  rw [hl] at hn
  obtain ⟨g, o, e, hcell⟩ := hc (by omega)
  refine ⟨g, o, e, fun i hi => ?_⟩
  rw [hl] at hi
  rw [hcell i (by omega), List.map_take, List.getElem?_take, if_pos (by omega)]
set_option maxRecDepth 100000 in
set_option maxHeartbeats 32000000 in
theorem states15_any (vh vb vo vn : Value) (a m : Nat) (h : List TxnV) (bs os : List Int) (w : World) (ht : Tab w) (hc : checkI h = 0) (h7 : h.length ≤ 7) (hT : Txns w vh h) (hok : ∀ t ∈ h, t.ok) (hsh : Short h)
    (hB : Row w vb bs.length 1 (bs.map (Value.int .u8))) (hbs : ∀ n ∈ bs, 0 ≤ n ∧ n < 256) (hQ : Row w vo os.length 1 (os.map (Value.int .u8))) (hos : ∀ n ∈ os, 0 ≤ n ∧ n < 256) (ha : a < 256) (hm : m < 256) :
    Calls Tryd.prog 8 #[.agg #[vh, .int .u8 a, vb, vo, .int .u8 m, vn]] w fun e w' => ∃ (w5 : World) (B N1 S1 N2 S2 : Nat) (r1 r2 : List Nat) (vb1 vr1 vb2 vr2 : Value) (aF1 sF1 aF2 sF2 : Nat → Nat),
      e = .returned (.tuple #[.pointer (some ⟨B, 0, none⟩), .pointer (some ⟨S1, 0, none⟩), .pointer (some ⟨S2, 0, none⟩), .bool true]) ∧ OrdIs w5 B (B + 2) h ∧ Tab w5 ∧
      Two w5 B (B + 2) h (clI (a : Int)) N1 S1 r1 vb1 vr1 aF1 sF1 N2 S2 r2 vb2 vr2 aF2 sF2 w' ∧ Below w5.heap.size w5 w' ∧ Below w.heap.size w w5 := by
  have hb0 := box_below w (.cells #[vh, .int .u8 (a : Int), vb, vo, .int .u8 (m : Int), vn] 28)
  have x0 := BoxP.made w vh a vb vo m vn
  have hx1 := x0.below (Below.refl _ _)
  have HT := Lib.hid (fun wx (hx : Below w.heap.size w wx) => ht.below hx ht.pos)
  have HBY := Lib.hid (fun wx (hx : Below w.heap.size w wx) => Row.below hB hx)
  have HQY := Lib.hid (fun wx (hx : Below w.heap.size w wx) => Row.below hQ hx)
  have HBS := Lib.hid hbs
  have HQS := Lib.hid hos
  have HC := Lib.hid hc
  have CO := Lib.hid (of_done _ h _ (hT.below hb0) hok hsh hc)
  obtain ⟨ao, cap, rfl, hal⟩ := hT.form
  have hCl : clI (a : Int) < 9223372036854775808 := by have := clI_lt (a : Int); omega
  have HCL := Lib.hid hCl
  have h64 : h.length ≤ 64 := by omega
  clear ht hT hok hsh hB hQ hbs hos hc hx1 hCl
  go_enter Tryd.func8, Tryd.ntmps8
  go_upto_region 1 with fail
  generalize w.alloc (.cells #[.slice ao h.length cap, .int .u8 (a : Int), vb, vo, .int .u8 (m : Int), vn] 28) = w1 at *
  obtain ⟨n0, n1, n2, n3, n4, n5⟩ := x0
  go_wp2_with fail
  refine (CO.out).mono ?_
  rintro e w5 ⟨⟨B, rfl, hBl, hO⟩, h15⟩
  have x5 := BoxP.below ⟨n0, n1, n2, n3, n4, n5⟩ h15
  have HB5 := Lib.hid (below_then hb0 h15)
  have HS5 := Lib.hid (fun wx (hx : Below w5.heap.size w5 wx) => x5.below hx)
  have HOT : Hid (OrdIs w5 B (B + 2) h ∧ Tab w5) := Lib.hid ⟨hO, HT.out _ HB5.out⟩
  have CN := Lib.hid (fun wx (hx : Below w5.heap.size w5 wx) => xnew_any (a : Int) HOT.out.1 HC.out HOT.out.2 (w := wx) hx)
  have HW5 := Lib.hid (fun wx (hx : Below w5.heap.size w5 wx) => below_then HB5.out hx)
  clear n0 n1 n2 n3 n4 n5 hb0 h15 x5 CO hO hBl
  obtain ⟨C, hCe⟩ : ∃ C, C = clI (a : Int) := ⟨_, rfl⟩
  rw [← hCe] at CN HCL
  have HCE := Lib.hid hCe
  clear hCe
  have hwa : IntKind.i64.wrap (a : Int) = (a : Int) := by rw [IntKind.wrap_i64]; omega
  have hwm : IntKind.i64.wrap (m : Int) = (m : Int) := by rw [IntKind.wrap_i64]; omega
  have kd := (Below.refl w5.heap.size w5).drew
  go_upto_region 4 with fail
  go_cut [8, 9] from 8 to 39 (fun u8 u9 wx => ∃ (N1 S1 N2 S2 : Nat) (vb1 vb2 : Value) (aF1 sF1 aF2 sF2 : Nat → Nat), u8 = .pointer (some ⟨S1, 0, none⟩) ∧ u9 = .pointer (some ⟨S2, 0, none⟩) ∧ Two w5 B (B + 2) h C N1 S1 [] vb1 (.slice none 0 0) aF1 sF1 N2 S2 [] vb2 (.slice none 0 0) aF2 sF2 wx ∧ Below w5.heap.size w5 wx)
  case first =>
    refine wp_region_held_drew (S := Below w5.heap.size w5) (by kernel_rfl) kd (fun hS0 => ?_)
    refine takeG (some 28) (i := 0) (v := ?vst0x1) rfl rfl (by kernel_rfl) (by kernel_rfl) (by kernel_rfl) (fun _ _ _ h => h) (Or.inl ⟨by rfl, ?hst0x1⟩) hS0 ?rst0x1
    case hst0x1 => (intro w hz; obtain ⟨z0, z1, z2, z3, z4, z5⟩ := HS5.out w hz; go_simp; try (with_reducible rfl))
    try simp only [Act.put, List.setIfInBounds_toArray, List.set_cons_zero, List.set_cons_succ]
    refine takeG (some 29) (i := 1) (v := ?vst1x2) rfl rfl (by kernel_rfl) (by kernel_rfl) (by kernel_rfl) (fun _ _ _ h => h) (Or.inl ⟨by rfl, ?hst1x2⟩) hS0 ?rst1x2
    case hst1x2 => (intro w hz; obtain ⟨z0, z1, z2, z3, z4, z5⟩ := HS5.out w hz; go_simp; try (with_reducible rfl))
    try simp only [Act.put, List.setIfInBounds_toArray, List.set_cons_zero, List.set_cons_succ]
    refine takeG (some 30) (i := 2) (v := ?vst2x3) rfl rfl (by kernel_rfl) (by kernel_rfl) (by kernel_rfl) (fun _ _ _ h => h) (Or.inl ⟨by rfl, ?hst2x3⟩) hS0 ?rst2x3
    case hst2x3 => (intro w hz; obtain ⟨z0, z1, z2, z3, z4, z5⟩ := HS5.out w hz; go_simp; try (with_reducible rfl))
    try simp only [Act.put, List.setIfInBounds_toArray, List.set_cons_zero, List.set_cons_succ]
    refine takeG (some 31) (i := 3) (v := ?vst3x4) rfl rfl (by kernel_rfl) (by kernel_rfl) (by kernel_rfl) (fun _ _ _ h => h) (Or.inl ⟨by rfl, ?hst3x4⟩) hS0 ?rst3x4
    case hst3x4 => (intro w hz; obtain ⟨z0, z1, z2, z3, z4, z5⟩ := HS5.out w hz; go_simp; try (with_reducible rfl))
    try simp only [Act.put, List.setIfInBounds_toArray, List.set_cons_zero, List.set_cons_succ]
    refine takeG (some 32) (i := 4) (v := ?vst4x5) rfl rfl (by kernel_rfl) (by kernel_rfl) (by kernel_rfl) (fun _ _ _ h => h) (Or.inl ⟨by rfl, ?hst4x5⟩) hS0 ?rst4x5
    case hst4x5 => (intro w hz; obtain ⟨z0, z1, z2, z3, z4, z5⟩ := HS5.out w hz; go_simp; try (with_reducible rfl))
    try simp only [Act.put, List.setIfInBounds_toArray, List.set_cons_zero, List.set_cons_succ]
    refine takeG (some 34) (i := 6) (v := ?vst6x6) rfl rfl (by kernel_rfl) (by kernel_rfl) (by kernel_rfl) (fun _ _ _ h => h) (Or.inl ⟨by rfl, ?hst6x6⟩) hS0 ?rst6x6
    case hst6x6 => (intro w hz; obtain ⟨z0, z1, z2, z3, z4, z5⟩ := HS5.out w hz; go_simp; try (with_reducible rfl))
    try simp only [Act.put, List.setIfInBounds_toArray, List.set_cons_zero, List.set_cons_succ]
    refine takeG (some 35) (i := 7) (v := ?vst7x7) rfl rfl (by kernel_rfl) (by kernel_rfl) (by kernel_rfl) (fun _ _ _ h => h) (Or.inl ⟨by rfl, ?hst7x7⟩) hS0 ?rst7x7
    case hst7x7 => (intro w hz; obtain ⟨z0, z1, z2, z3, z4, z5⟩ := HS5.out w hz; go_simp; try (with_reducible rfl))
    try simp only [Act.put, List.setIfInBounds_toArray, List.set_cons_zero, List.set_cons_succ]
    refine takeG (some 36) (i := 8) (v := ?vst8x8) rfl rfl (by kernel_rfl) (by kernel_rfl) (by kernel_rfl) (fun _ _ _ h => h) (Or.inl ⟨by rfl, ?hst8x8⟩) hS0 ?rst8x8
    case hst8x8 => (intro w hz; obtain ⟨z0, z1, z2, z3, z4, z5⟩ := HS5.out w hz; go_simp; try (with_reducible rfl))
    try simp only [Act.put, List.setIfInBounds_toArray, List.set_cons_zero, List.set_cons_succ]
    refine takeG (some 37) (i := 9) (v := ?vst9x9) rfl rfl (by kernel_rfl) (by kernel_rfl) (by kernel_rfl) (fun _ _ _ h => h) (Or.inl ⟨by rfl, ?hst9x9⟩) hS0 ?rst9x9
    case hst9x9 => (intro w hz; obtain ⟨z0, z1, z2, z3, z4, z5⟩ := HS5.out w hz; go_simp; try (with_reducible rfl))
    try simp only [Act.put, List.setIfInBounds_toArray, List.set_cons_zero, List.set_cons_succ]
    refine takeG (some 38) (i := 10) (v := ?vst10x10) rfl rfl (by kernel_rfl) (by kernel_rfl) (by kernel_rfl) (fun _ _ _ h => h) (Or.inl ⟨by rfl, ?hst10x10⟩) hS0 ?rst10x10
    case hst10x10 => (intro w hz; obtain ⟨z0, z1, z2, z3, z4, z5⟩ := HS5.out w hz; go_simp; try (with_reducible rfl))
    try simp only [Act.put, List.setIfInBounds_toArray, List.set_cons_zero, List.set_cons_succ]
    refine wpAnyH_ready (rs := [5]) (by kernel_rfl) (by simp) ?_
    refine AllReadyH.cons rfl (fun K hK => ?_) AllReadyH.nil
    go_simp
    refine (CN.out w5.drew hS0).mono ?_
    rintro e y11 ⟨S11, vb11, aF11, sF11, rfl, p11, h11⟩
    show K _ _
    have s11 := hS0.trans (h11.mono hS0.size)
    refine hK.out _ _ s11 (fun _ => ?_)
    clear hK K
    refine wpAnyH_ready (rs := [11]) (by kernel_rfl) (by simp) ?_
    refine AllReadyH.cons rfl (fun K hK => ?_) AllReadyH.nil
    go_simp
    refine (CN.out y11 s11).mono ?_
    rintro e y12 ⟨S12, vb12, aF12, sF12, rfl, p12, h12⟩
    show K _ _
    have s12 := s11.trans (h12.mono s11.size)
    have T12 := Two.made h12 p11 p12
    refine hK.out _ _ s12 (fun _ => ?_)
    clear hK K
    refine takeG (some 8) (i := 12) (v := ?vst12x13) rfl rfl (by kernel_rfl) (by kernel_rfl) (by kernel_rfl) (fun _ _ _ h => h) (Or.inl ⟨by rfl, ?hst12x13⟩) s12 ?rst12x13
    case hst12x13 => (intro w hz; obtain ⟨z0, z1, z2, z3, z4, z5⟩ := HS5.out w hz; go_simp; try (with_reducible rfl))
    try simp only [Act.put, List.setIfInBounds_toArray, List.set_cons_zero, List.set_cons_succ]
    refine takeG (some 9) (i := 13) (v := ?vst13x14) rfl rfl (by kernel_rfl) (by kernel_rfl) (by kernel_rfl) (fun _ _ _ h => h) (Or.inl ⟨by rfl, ?hst13x14⟩) s12 ?rst13x14
    case hst13x14 => (intro w hz; obtain ⟨z0, z1, z2, z3, z4, z5⟩ := HS5.out w hz; go_simp; try (with_reducible rfl))
    try simp only [Act.put, List.setIfInBounds_toArray, List.set_cons_zero, List.set_cons_succ]
    refine wpAnyH_done (by kernel_rfl) ?_ _
    go_wp2_with fail
    go_meet
    exact ⟨_, _, _, _, _, _, _, _, _, _, rfl, rfl, T12, s12⟩
  case rest =>
    obtain ⟨N1, S1, N2, S2, vb1, vb2, aF1, sF1, aF2, sF2, rfl, rfl, T, hb⟩ := hcut
    generalize wc = w6 at *
    obtain ⟨k, hke⟩ : ∃ k : Nat, (m : Int) % ((h.length : Int) + 1) = (k : Int) := ⟨((m : Int) % ((h.length : Int) + 1)).toNat, by have := Int.emod_nonneg (m : Int) (show (h.length : Int) + 1 ≠ 0 by omega); omega⟩
    have hkn : k ≤ h.length := by have := Int.emod_lt_of_pos (m : Int) (show 0 < (h.length : Int) + 1 by omega); omega
    obtain ⟨n0, n1, n2, n3, n4, n5⟩ := HS5.out _ hb
    go_upto_region 6 with fail
    rw [hke]
    have CR := Lib.hid (lrow_own h.length (by omega) _ bs w6 (HBY.out _ (HW5.out _ hb)) HBS.out)
    have hS1 := T.p1.lowS.2.1
    have hS2 := T.p2.lowS.2.1
    clear hke
    go_wp2_with fail
    refine (CR.out).mono ?_
    rintro e w7 ⟨⟨v, L, rfl, hown, hP⟩, h7x⟩
    have T := T.below h7x
    have hX : RowX S1 (.slice none 0 0) w7 v L.length 1 (L.map fun i : Nat => Value.int .i64 (i : Int)) := ⟨Row.of_owns hown, fun _ _ g hg => ⟨by have := (hown.lt g hg).1; omega, by intro e; cases e⟩⟩
    have hLl : L.length = h.length := by rw [hP.length_eq, List.length_range]
    have hb := hb.trans (h7x.mono hb.size)
    obtain ⟨va, vc, rfl⟩ := owns_form hown
    have hvc : L.length ≤ vc := by
      obtain ⟨⟨_, ao', cap', e, hm', _⟩, _⟩ := hX
      cases e; exact hm'.1
    have hkL : k ≤ L.length := by omega
    have hX : RowX S1 (.slice none 0 0) w7 (.slice va k vc) (L.take k).length 1 ((L.take k).map fun i : Nat => Value.int .i64 (i : Int)) := ⟨row_take hX.1 hkL, fun hn h1 g hg => hX.2 (by rw [List.length_take] at hn; omega) h1 g (by cases va with | none => cases hg | some x => exact hg)⟩
    have hTL : (L.take k).length = k := by rw [List.length_take]; omega
    have hkv : (k : Int) ≤ (vc : Int) := by omega
    clear hown hP h7x CR n0 n1 n2 n3 n4 n5
    go_wp2_with fail
    go_loopw [60] (fun iv wr => ∃ (j : Nat) (r1 r2 : List Nat) (vr1 vr2 : Value) (aF1 sF1 aF2 sF2 : Nat → Nat), j ≤ k ∧ iv = .int .i64 j ∧ Two w5 B (B + 2) h C N1 S1 r1 vb1 vr1 aF1 sF1 N2 S2 r2 vb2 vr2 aF2 sF2 wr ∧ RowX S1 vr1 wr (.slice va k vc) (L.take k).length 1 ((L.take k).map fun i : Nat => Value.int .i64 (i : Int)) ∧ Below w5.heap.size w5 wr) (fun iv _ => k - (intOf iv).toNat)
    case atStart => exact ⟨0, _, _, _, _, _, _, _, _, Nat.zero_le _, rfl, T, hX, hb⟩
    case round =>
      clear T hX hb
      obtain ⟨j, r1, r2, vr1, vr2, aF1, sF1, aF2, sF2, hj, rfl, T, hX, hb⟩ := hrel
      by_cases hlt : j < k
      · have hki : (j : Int) < (k : Int) := by omega
        have hlt2 : j < (L.take k).length := by rw [hTL]; exact hlt
        obtain ⟨g, o, hao, hcell⟩ := rowx_at (L := L.take k) (by rw [hTL] at hX ⊢; exact hX) hlt2
        cases hao
        generalize (L.take k)[j] = i at *
        cases htr : tryP h C r1 i with
        | false =>
          have CT := Lib.hid (xtry_no T.p1 HC.out HCL.out (i : Int) (by unfold tryI; rw [Int.toNat_natCast, htr]; simp))
          have HP := Lib.hid (fun wx (hx : Below wr.heap.size wr wx) => And.intro (T.below hx) (And.intro (hX.step (by omega) (PlStep.of_below (S := S1) (vr := vr1) hx)) (hb.trans (hx.mono hb.size))))
          clear htr T hX hb
          go_wp2_with fail
          refine (CT.out).mono ?_
          rintro e w6 ⟨rfl, h6⟩
          obtain ⟨T, hX, hb⟩ := HP.out _ h6
          clear hcell CT HP h6
          go_wp2_with fail
          go_roundw
          case rel => exact ⟨j + 1, _, _, _, _, _, _, _, _, by omega, by go_num, T, hX, hb⟩
          case measure => simp [intOf]; omega
        | true =>
          have CT := Lib.hid (xtry_yes T.p1 HC.out HCL.out i htr)
          have HG1 := Lib.hid (fun w' vr' (k6 : PlStep S1 vr1 vr' wr w') => T.p1.grow1 hb k6)
          clear htr
          go_wp2_with fail
          refine (CT.out).mono ?_
          rintro e w6 ⟨rfl, vr3, aF3, sF3, p, k6⟩
          have hb := HG1.out _ _ k6
          have hX := hX.step (by omega) k6
          have T := T.step HOT.out.1 HOT.out.2 p k6
          clear hcell CT HG1 p k6
          go_wp2_with fail
          go_roundw
          case rel => exact ⟨j + 1, _, _, _, _, _, _, _, _, by omega, by go_num, T, hX, hb⟩
          case measure => simp [intOf]; omega
      · have hjk : j = k := by omega
        subst hjk
        clear hX hvc hkL hTL hkv hj
        have CR := Lib.hid (lrow_own h.length (by omega) _ os wr (HQY.out _ (HW5.out _ hb)) HQS.out)
        obtain ⟨n0, n1, n2, n3, n4, n5⟩ := HS5.out _ hb
        have hS1 := T.p1.lowS.2.1
        have hS2 := T.p2.lowS.2.1
        clear hLl
        go_wp2_with fail
        refine (CR.out).mono ?_
        rintro e w7 ⟨⟨v, L, rfl, hown, hP⟩, h7x⟩
        have hX : RowX S2 vr2 w7 v L.length 1 (L.map fun i : Nat => Value.int .i64 (i : Int)) := ⟨Row.of_owns hown, fun _ _ g hg => ⟨by have := (hown.lt g hg).1; omega, fun e => by have h1 := (hown.lt g hg).1; have h2 := (T.p2.own.2 g e).2; omega⟩⟩
        have T := T.below h7x
        have hLl : L.length = h.length := by rw [hP.length_eq, List.length_range]
        have hb := hb.trans (h7x.mono hb.size)
        obtain ⟨va, vc, rfl⟩ := owns_form hown
        have hvc : L.length ≤ vc := by
          obtain ⟨⟨_, ao', cap', e, hm', _⟩, _⟩ := hX
          cases e; exact hm'.1
        have hkL : j ≤ L.length := by omega
        have hX : RowX S2 vr2 w7 (.slice va j vc) (L.take j).length 1 ((L.take j).map fun i : Nat => Value.int .i64 (i : Int)) := ⟨row_take hX.1 hkL, fun hn h1 g hg => hX.2 (by rw [List.length_take] at hn; omega) h1 g (by cases va with | none => cases hg | some x => exact hg)⟩
        have hTL : (L.take j).length = j := by rw [List.length_take]; omega
        have hkv : (j : Int) ≤ (vc : Int) := by omega
        clear hown hP h7x CR n0 n1 n2 n3 n4 n5
        generalize j = k at *
        go_wp2_with fail
        go_loopw [78] (fun iv wr => ∃ (j : Nat) (r1 r2 : List Nat) (vr1 vr2 : Value) (aF1 sF1 aF2 sF2 : Nat → Nat), j ≤ k ∧ iv = .int .i64 j ∧ Two w5 B (B + 2) h C N1 S1 r1 vb1 vr1 aF1 sF1 N2 S2 r2 vb2 vr2 aF2 sF2 wr ∧ RowX S2 vr2 wr (.slice va k vc) (L.take k).length 1 ((L.take k).map fun i : Nat => Value.int .i64 (i : Int)) ∧ Below w5.heap.size w5 wr) (fun iv _ => k - (intOf iv).toNat)
        case atStart => exact ⟨0, _, _, _, _, _, _, _, _, Nat.zero_le _, rfl, T, hX, hb⟩
        case round =>
          clear T hX hb
          obtain ⟨j, r1, r2, vr1, vr2, aF1, sF1, aF2, sF2, hj, rfl, T, hX, hb⟩ := hrel
          by_cases hlt : j < k
          · have hki : (j : Int) < (k : Int) := by omega
            have hlt2 : j < (L.take k).length := by rw [hTL]; exact hlt
            obtain ⟨g, o, hao, hcell⟩ := rowx_at (L := L.take k) (by rw [hTL] at hX ⊢; exact hX) hlt2
            cases hao
            generalize (L.take k)[j] = i at *
            cases htr : tryP h C r2 i with
            | false =>
              have CT := Lib.hid (xtry_no T.p2 HC.out HCL.out (i : Int) (by unfold tryI; rw [Int.toNat_natCast, htr]; simp))
              have HP := Lib.hid (fun wx (hx : Below wr.heap.size wr wx) => And.intro (T.below hx) (And.intro (hX.step (by omega) (PlStep.of_below (S := S2) (vr := vr2) hx)) (hb.trans (hx.mono hb.size))))
              clear htr T hX hb
              go_wp2_with fail
              refine (CT.out).mono ?_
              rintro e w6 ⟨rfl, h6⟩
              obtain ⟨T, hX, hb⟩ := HP.out _ h6
              clear hcell CT HP h6
              go_wp2_with fail
              go_roundw
              case rel => exact ⟨j + 1, _, _, _, _, _, _, _, _, by omega, by go_num, T, hX, hb⟩
              case measure => simp [intOf]; omega
            | true =>
              have CT := Lib.hid (xtry_yes T.p2 HC.out HCL.out i htr)
              have HG1 := Lib.hid (fun w' vr' (k6 : PlStep S2 vr2 vr' wr w') => T.p2.grow1 hb k6)
              clear htr
              go_wp2_with fail
              refine (CT.out).mono ?_
              rintro e w6 ⟨rfl, vr3, aF3, sF3, p, k6⟩
              have hb := HG1.out _ _ k6
              have hX := hX.step (by omega) k6
              have T := (T.symm.step HOT.out.1 HOT.out.2 p k6).symm
              clear hcell CT HG1 p k6
              go_wp2_with fail
              go_roundw
              case rel => exact ⟨j + 1, _, _, _, _, _, _, _, _, by omega, by go_num, T, hX, hb⟩
              case measure => simp [intOf]; omega
          · have hjk : j = k := by omega
            subst hjk
            have HZ : Hid (∃ (w5 : World) (B N1 S1' N2 S2' : Nat) (r1 r2 : List Nat) (vb1 vr1 vb2 vr2 : Value) (aF1 sF1 aF2 sF2 : Nat → Nat), True) := Lib.hid ⟨w5, B, N1, S1, N2, S2, r1, r2, vb1, vr1, vb2, vr2, aF1, sF1, aF2, sF2, trivial⟩
            have HTZ := Lib.hid T
            have HBZ := Lib.hid hb
            clear T hX hb hvc hkL hTL hkv hj hLl HZ
            go_wp2_with fail
            refine bodyPost_ret (v := .tuple #[.pointer (some ⟨B, 0, none⟩), .pointer (some ⟨S1, 0, none⟩), .pointer (some ⟨S2, 0, none⟩), .bool true]) ?_ rfl ⟨w5, B, N1, S1, N2, S2, r1, r2, vb1, vr1, vb2, vr2, aF1, sF1, aF2, sF2, rfl, HOT.out.1, HOT.out.2, (by rw [← HCE.out]; exact HTZ.out), HBZ.out, HB5.out⟩
            simp [results, Tryd.results8, go_sem]
end Go.Proofs.YtecpeegbfeijaaaDoor

namespace Go.Proofs.YtecpeegbfeijaaaDoor
set_option maxRecDepth 100000
open Go.RowKit

instance memDec (q : Nat × ByteArray) (M : List (Nat × ByteArray)) : Decidable (q ∈ M) := @List.instDecidableMemOfLawfulBEq _ instBEqOfDecidableEq inferInstance q M
section
variable {h : List TxnV} {C n : Nat}
theorem RowG.nil : RowG h C [] := ⟨List.nodup_nil, fun _ hk => (by cases hk), fun _ hk => (by cases hk)⟩
/-- The first order that goes on from a row, the last one first; of k that are left. -/
def firstE (h : List TxnV) (C n : Nat) : Nat → List Nat → Option (List Nat)
  | 0, r => some r
  | k + 1, r => (List.range n).findSome? fun j => if tryP h C r j = true then firstE h C n k (j :: r) else none
/-- What failed: keys of rows from which no order goes on. -/
def Bad (h : List TxnV) (C n : Nat) (M : List (Nat × ByteArray)) : Prop := ∀ q ∈ M, ∃ (r : List Nat) (k : Nat), RowG h C r ∧ r.length + k = n ∧ q = (plS r, keyB h C r) ∧ firstE h C n k r = none
theorem Bad.nil : Bad h C n [] := fun _ hq => by cases hq
/-- A search: what is found, the last one first; what has failed; how often one was tried. -/
abbrev Srch := Option (List Nat) × List (Nat × ByteArray) × Nat
section
variable {F : List Nat → List (Nat × ByteArray) → Srch} {r : List Nat} {st : Srch} {j : Nat}
end
theorem free_count {r : List Nat} (hnd : r.Nodup) (hlt : ∀ i ∈ r, i < n) : ((List.range n).filter fun j => !decide (j ∈ r)).length + r.length = n := by
  have h1 : ((List.range n).filter fun j => decide (j ∈ r)).Perm r := by
    refine (List.perm_ext_iff_of_nodup (List.nodup_range.filter _) hnd).2 fun j => ?_
    simp only [List.mem_filter, List.mem_range, decide_eq_true_eq]
    exact ⟨And.right, fun q => ⟨hlt j q, q⟩⟩
  have h2 : ((List.range n).filter fun j => decide (j ∈ r)).length + ((List.range n).filter fun j => !decide (j ∈ r)).length = (List.range n).length := by
    rw [← List.countP_eq_length_filter, ← List.countP_eq_length_filter]
    have := List.length_eq_countP_add_countP (fun j => decide (j ∈ r)) (l := List.range n)
    rw [this]
    congr 1
    refine List.countP_congr fun j _ => ?_
    cases decide (j ∈ r) <;> simp
  rw [h1.length_eq, List.length_range] at h2
  omega
end
end Go.Proofs.YtecpeegbfeijaaaDoor

namespace Go.Proofs.YtecpeegbfeijaaaDoor
set_option maxRecDepth 100000
open Go.RowKit

theorem plrow_len {r : List Nat} {n : Nat} (hnd : r.Nodup) (hlt : ∀ k ∈ r, k < n) (hn : n ≤ 64) : r.length ≤ 64 := by
  have := free_count (n := n) hnd hlt
  omega
end Go.Proofs.YtecpeegbfeijaaaDoor

namespace Go.Proofs.YtecpeegbfeijaaaDoor
set_option maxRecDepth 100000
open Go.RowKit

/-- Where one of a row comes among those that write; -1 of who isn't in it. -/
def posV (h : List TxnV) (r : List Nat) (k : Nat) : Int := if k ∈ r then (aheadC h r k : Int) else -1
theorem posV_cons (h : List TxnV) (i : Nat) (r : List Nat) (k : Nat) : posV h (i :: r) k = if k = i then ((wrOf h r).length : Int) else posV h r k := by
  unfold posV
  rw [aheadC]
  by_cases e : k = i
  · subst e; rw [if_pos (List.mem_cons_self ..), if_pos rfl, if_pos rfl]
  · rw [if_neg e, if_neg e]; simp [e]
def PosAt (w : World) (g n : Nat) (F : Nat → Int) : Prop := ∀ i, i < n → w.cell? ⟨g, i, none⟩ = some (.int .i64 (F i)) ∧ w.frozen? ⟨g, i, none⟩ = false
theorem PosAt.put {w : World} {g n : Nat} {F F' : Nat → Int} (h : PosAt w g n F) {k : Nat} (hk : k < n) {x : Int} (h1 : F' k = x) (h2 : ∀ i, i < n → i ≠ k → F' i = F i) : PosAt (w.setCell ⟨g, k, none⟩ (.int .i64 x)) g n F' := fun i hi => by
  refine ⟨?_, by rw [World.frozen?_setCell]; exact (h i hi).2⟩
  by_cases e : i = k
  · subst e
    rw [World.cell?_setCell_same _ _ _ (h i hi).1, h1]
  · have hne : (⟨g, k, none⟩ : Addr) ≠ ⟨g, i, none⟩ := by
      intro q
      injection q with _ q2
      exact e q2.symm
    rw [World.cell?_setCell_other _ _ _ _ hne, h2 i hi e]
    exact (h i hi).1
theorem PosAt.below {w w' : World} {g n : Nat} {F : Nat → Int} (h : PosAt w g n F) (hb : Below w.heap.size w w') : PosAt w' g n F := fun i hi => by
  have hl := block_lt (h i hi).1
  rw [hb.cell (p := ⟨g, i, none⟩) hl, hb.frozen (p := ⟨g, i, none⟩) hl]; exact h i hi
theorem PosAt.congr {w : World} {g n : Nat} {F F' : Nat → Int} (h : PosAt w g n F) (he : ∀ i, i < n → F' i = F i) : PosAt w g n F' := fun i hi => by rw [he i hi]; exact h i hi
theorem PosAt.ints {w : World} {g n : Nat} {F : Nat → Int} (h : PosAt w g n F) (hn : n ≤ maxLen) : Ints w (.slice (some ⟨g, 0, none⟩) n n) ((List.range n).map F) := by
  have hl : ((List.range n).map F).length = n := by simp
  unfold Ints
  rw [hl]
  refine ⟨by simp, _, _, rfl, ⟨Nat.le_refl _, hn⟩, fun e => (by cases e), fun _ => ⟨g, 0, rfl, fun i hi => ?_⟩⟩
  have hi : i < n := by omega
  rw [Nat.zero_add, (h i hi).1]; simp [hi]
set_option maxRecDepth 100000 in
set_option maxHeartbeats 8000000 in
theorem shape15_any (va vr : Value) (h : List TxnV) (r : List Nat) (w : World) (hT : Txns w va h) (hR : Ints w vr (r.reverse.map Int.ofNat)) (hr : ∀ k ∈ r, k < h.length) (h64 : h.length ≤ 64) (hrl : r.length ≤ 64) :
    Calls Tryd.prog 12 #[va, vr] w fun e w' => ∃ v, e = .returned v ∧ Ints w' v ((List.range h.length).map (posV h r)) ∧ Below w.heap.size w w' := by
  obtain ⟨i0, hi0, hz0, hz1, hz2⟩ := info_parts infoInt
  obtain ⟨L, hL⟩ : ∃ L, L = r.reverse := ⟨_, rfl⟩
  rw [← hL] at hR
  have hLl : L.length = r.length := by rw [hL, List.length_reverse]
  have HLT : Hid (∀ k ∈ L, k < h.length) := Lib.hid (fun k hk => hr k (by rw [hL] at hk; exact List.mem_reverse.1 hk))
  have HEQ : Hid (∀ q, L.take L.length = List.reverse q → q = r) := Lib.hid (fun q e => by rw [List.take_length, hL] at e; exact (List.reverse_inj.1 e).symm)
  have HTX := Lib.hid (fun wx (hx : Below w.heap.size w wx) => hT.below hx)
  have HRX := Lib.hid (fun wx (hx : Below w.heap.size w wx) => hR.below hx)
  obtain ⟨ao, cap, rfl, hal⟩ := hT.form
  obtain ⟨ro, rc, rfl, hrl2⟩ := hR.form
  have hml : (L.map Int.ofNat).length = L.length := List.length_map ..
  rw [hml] at HRX ⊢
  have hL64 : L.length ≤ 64 := by omega
  obtain ⟨n, hn⟩ : ∃ n, n = h.length := ⟨_, rfl⟩
  have hb0 := box_below w (.cells (madeCells #[.int .i64 0] n) 3)
  have hnew := heap_alloc_new w (.cells (madeCells #[.int .i64 0] n) 3)
  have hP0 : PosAt (w.alloc (.cells (madeCells #[.int .i64 0] n) 3)) w.heap.size n (fun k => if k < 0 then -1 else 0) := fun i hi => by
    refine ⟨?_, frozen_of_row _ _ _ _ _ hnew⟩
    rw [cell_of_row _ _ _ _ _ _ hnew]
    simp [madeCells, hi, Nat.mod_one]
  clear hT hR hr hrl hL hnew hLl hrl2 hml hal
  rw [← hn] at h64 HLT HTX ⊢
  have HN := Lib.hid hn
  clear hn
  go_enter Tryd.func12, Tryd.ntmps12
  go_upto_region 2 with (at_make; go_loud (refine wpList_make_row _ rfl _ _ 26 rfl 3 i0 (.int .i64 0) Tryd.underlying26 hi0 hz0 hz1 rfl .i64 .i64 n rfl rfl ?b2 ?b3 ?_))
  case b2 => rw [hz2]; omega
  case b3 => omega
  generalize w.alloc (.cells (madeCells #[.int .i64 0] n) 3) = w1 at *
  go_wp2_with fail
  go_loopw [15] (fun iv wr => ∃ j : Nat, j ≤ n ∧ iv = .int .i64 j ∧ PosAt wr w.heap.size n (fun k => if k < j then -1 else 0) ∧ Below w.heap.size w wr) (fun iv _ => n - (intOf iv).toNat)
  case atStart => exact ⟨0, Nat.zero_le _, rfl, hP0, hb0⟩
  case round =>
    clear hP0 hb0
    obtain ⟨j, hj, rfl, hP, hb⟩ := hrel
    by_cases hlt : j < n
    · have hji : (j : Int) < (n : Int) := by omega
      obtain ⟨c0, f0⟩ := hP j hlt
      have hP2 := hP.put (F' := fun k => if k < j + 1 then -1 else 0) hlt (x := -1) (if_pos (by omega)) (fun i _ hne => by
        show (if i < j + 1 then (-1 : Int) else 0) = if i < j then -1 else 0
        by_cases e : i < j
        · rw [if_pos e, if_pos (by omega)]
        · rw [if_neg e, if_neg (by omega)])
      have hb2 := hb.setCell (p := ⟨w.heap.size, j, none⟩) (Nat.le_refl _) (.int .i64 (-1))
      clear hP hb
      go_wp2_with fail
      go_roundw
      case rel => exact ⟨j + 1, by omega, by go_num, hP2, hb2⟩
      case measure => simp [intOf]; omega
    · have hP := hP.congr (F' := posV h []) (fun i hi => by
        show posV h [] i = if i < j then -1 else 0
        rw [if_pos (by omega)]; unfold posV; rw [if_neg List.not_mem_nil])
      have hji : ¬ (j : Int) < (n : Int) := by omega
      go_wp2_with fail
      go_loopw [7, 24] (fun nv iv wr => ∃ (j : Nat) (q : List Nat), j ≤ L.length ∧ nv = .int .i64 ((wrOf h q).length : Int) ∧ iv = .int .i64 (j : Int) ∧ q.length = j ∧ Hid (L.take j = q.reverse) ∧ PosAt wr w.heap.size n (posV h q) ∧ Below w.heap.size w wr) (fun _ iv _ => L.length - (intOf iv).toNat)
      case atStart => exact ⟨0, [], Nat.zero_le _, rfl, rfl, rfl, Lib.hid rfl, hP, hb⟩
      case round =>
        clear hP hb hlt hji hj
        obtain ⟨j, q, hj, rfl, rfl, hql, HQ, hP, hb⟩ := hrel
        by_cases hlt : j < L.length
        · have hji : (j : Int) < (L.length : Int) := by omega
          obtain ⟨g, o, hao, e0⟩ := (HRX.out _ hb).at (k := j) (by rw [List.length_map]; exact hlt)
          cases hao
          rw [List.getElem_map] at e0
          have hin : L[j] < n := HLT.out _ (List.getElem_mem hlt)
          have HQ2 : Hid (L.take (j + 1) = (L[j] :: q).reverse) := Lib.hid (by rw [List.take_succ_eq_append_getElem hlt, HQ.out, List.reverse_cons])
          generalize L[j] = i at *
          obtain ⟨c0, f0⟩ := hP i hin
          have hP2 := hP.put (F' := posV h (i :: q)) hin (x := ((wrOf h q).length : Int)) (by rw [posV_cons, if_pos rfl]) (fun k _ hne => by rw [posV_cons, if_neg hne])
          have hb2 := hb.setCell (p := ⟨w.heap.size, i, none⟩) (Nat.le_refl _) (.int .i64 ((wrOf h q).length : Int))
          have hwl := wrOf_le (h := h) (r := q)
          have HWC := Lib.hid (wrOf_cons (h := h) i q)
          generalize wrOf h q = wq at *
          have e0 : wr.cell? ⟨g, o + j, none⟩ = some (.int .i64 (i : Int)) := e0
          clear hP hb HQ
          go_upto_region 12 with fail
          clear e0 c0 f0
          generalize wr.setCell ⟨w.heap.size, i, none⟩ (.int .i64 (wq.length : Int)) = w2 at *
          have hT2 := HTX.out _ hb2
          have hil : i < h.length := by rw [← HN.out]; exact hin
          obtain ⟨g2, o2, hao, _, _, _, y3⟩ := hT2.at hil
          cases hao
          have CW := Lib.hid (rwrites_any _ _ w2 (hT2.ops hil))
          have HB : Hid ((wAllN h).testBit i = true ↔ (refWrites h[i].l).length ≠ 0) := Lib.hid (by
            rw [wAll_bit, opsAt_eq hil]
            unfold keysOf
            rw [ne_eq, List.map_eq_nil_iff, ← List.length_eq_zero_iff]
            exact ⟨fun q => q.2.2, fun q => ⟨by omega, hil, q⟩⟩)
          clear hT2
          generalize refWrites h[i].l = rw1 at *
          go_wp2_with fail
          refine CW.out.mono ?_
          rintro e w3 ⟨v, rfl, hO, h3⟩
          obtain ⟨po, pc, rfl, _⟩ := hO.ops.form
          have hP3 := hP2.below h3
          have hb3 := hb2.trans (h3.mono hb2.size)
          clear y3 CW hO hP2 hb2 h3
          by_cases hz : 0 < rw1.length
          · have hzi : (0 : Int) < (rw1.length : Int) := by omega
            have HWE : Hid (wrOf h (i :: q) = i :: wq) := Lib.hid (by rw [HWC.out, if_pos (HB.out.2 (by omega))])
            go_wp2_with fail
            go_roundw
            case rel => exact ⟨j + 1, i :: q, by omega, by rw [HWE.out, List.length_cons]; go_num, by go_num, by simp [hql], HQ2, hP3, hb3⟩
            case measure => simp [intOf]; omega
          · have hzi : ¬ (0 : Int) < (rw1.length : Int) := by omega
            have HWE : Hid (wrOf h (i :: q) = wq) := Lib.hid (by rw [HWC.out, if_neg (fun e => hz (by have := HB.out.1 e; omega))])
            go_wp2_with fail
            go_roundw
            case rel => exact ⟨j + 1, i :: q, by omega, by rw [HWE.out], by go_num, by simp [hql], HQ2, hP3, hb3⟩
            case measure => simp [intOf]; omega
        · have hjL : j = L.length := by omega
          have hji : ¬ (j : Int) < (L.length : Int) := by omega
          have HE : Hid (q = r) := Lib.hid (HEQ.out q (by rw [← hjL]; exact HQ.out))
          have HI := Lib.hid (hP.ints (by unfold maxLen; omega))
          rw [HE.out] at HI
          clear hP HQ HE
          go_wp2_with fail
          go_ret
          exact ⟨_, rfl, HI.out, hb⟩
end Go.Proofs.YtecpeegbfeijaaaDoor

namespace Go.Proofs.YtecpeegbfeijaaaDoor
set_option maxRecDepth 100000
open Go.RowKit

theorem takes_eq {a b : List Int} {k : Nat} (ha : k < a.length) (hb : k < b.length) (h : a.take k = b.take k) (hx : a[k] = b[k]) : a.take (k + 1) = b.take (k + 1) := by
  rw [List.take_succ_eq_append_getElem ha, List.take_succ_eq_append_getElem hb, h, hx]
set_option maxRecDepth 100000 in
set_option maxHeartbeats 32000000 in
theorem alike15_walk (vh vb vo vn : Value) (a m : Nat) (h : List TxnV) (bs os : List Int) (w : World) (ht : Tab w) (hT : Txns w vh h) (hok : ∀ t ∈ h, t.ok) (hsh : Short h)
    (hB : Row w vb bs.length 1 (bs.map (Value.int .u8))) (hbs : ∀ n ∈ bs, 0 ≤ n ∧ n < 256) (hQ : Row w vo os.length 1 (os.map (Value.int .u8))) (hos : ∀ n ∈ os, 0 ≤ n ∧ n < 256) (ha : a < 256) (hm : m < 256) :
    Calls Tryd.prog 4 #[.agg #[vh, .int .u8 a, vb, vo, .int .u8 m, vn]] w fun e w' => e = .returned (.bool true) ∧ Below w.heap.size w w' := by
  have hb0 := box_below w (.cells #[vh, .int .u8 (a : Int), vb, vo, .int .u8 (m : Int), vn] 28)
  have x0 := BoxP.made w vh a vb vo m vn
  have HT := Lib.hid (fun wx (hx : Below w.heap.size w wx) => ht.below hx ht.pos)
  have HTX := Lib.hid (fun wx (hx : Below w.heap.size w wx) => hT.below hx)
  have HBY := Lib.hid (fun wx (hx : Below w.heap.size w wx) => Row.below hB hx)
  have HQY := Lib.hid (fun wx (hx : Below w.heap.size w wx) => Row.below hQ hx)
  have HBS := Lib.hid hbs
  have HQS := Lib.hid hos
  have HOK := Lib.hid hok
  have HSH := Lib.hid hsh
  have CS := Lib.hid (speaks15_any _ (ht.below hb0 ht.pos))
  obtain ⟨ao, cap, rfl, hal⟩ := hT.form
  clear ht hT hok hsh hB hQ hbs hos
  go_enter Tryd.func4, Tryd.ntmps4
  go_upto_region 1 with fail
  generalize w.alloc (.cells #[.slice ao h.length cap, .int .u8 (a : Int), vb, vo, .int .u8 (m : Int), vn] 28) = w1 at *
  go_wp2_with fail
  refine CS.out.mono ?_
  rintro e w2 ⟨rfl, h2⟩
  have x2 := x0.below h2
  have hb2 := below_then hb0 h2
  have CM := Lib.hid (small_any _ h w2 (HTX.out _ hb2) HSH.out)
  clear CS x0 hb0 h2
  obtain ⟨n0, n1, n2, n3, n4, n5⟩ := x2
  go_wp2_with fail
  refine CM.out.mono ?_
  rintro e w3 ⟨rfl, h3⟩
  have x3 := BoxP.below ⟨n0, n1, n2, n3, n4, n5⟩ h3
  have hb3 := below_then hb2 h3
  clear n0 n1 n2 n3 n4 n5 hb2 h3 CM
  by_cases hs : smallI h = 0
  · rw [hs]
    go_wp2_with fail
    go_ret
    exact ⟨rfl, hb3⟩
  obtain ⟨h7, hc, h1⟩ := small_no hs
  rw [h1]
  clear hs h1
  have HX3 := Lib.hid x3
  obtain ⟨n0, n1, n2, n3, n4, n5⟩ := x3
  have CST := Lib.hid (states15_any _ vb vo (vn) a m h bs os w3 (HT.out _ hb3) hc h7 (HTX.out _ hb3) HOK.out HSH.out (HBY.out _ hb3) HBS.out (HQY.out _ hb3) HQS.out ha hm)
  have HC := Lib.hid hc
  have h64 : h.length ≤ 64 := by omega
  go_wp2_with fail
  refine CST.out.mono ?_
  rintro e w6 ⟨w5, B, N1, S1, N2, S2, r1, r2, vb1, vr1, vb2, vr2, aF1, sF1, aF2, sF2, rfl, hO, hTb, T, h56, h35⟩
  have HCL : Hid (clI (a : Int) < 9223372036854775808) := Lib.hid (by have := clI_lt (a : Int); omega)
  generalize clI (a : Int) = C at *
  have HB5 := Lib.hid (below_then hb3 h35)
  have HX5 := Lib.hid (HX3.out.below h35)
  have HOT : Hid (OrdIs w5 B (B + 2) h ∧ Tab w5) := Lib.hid ⟨hO, hTb⟩
  clear n0 n1 n2 n3 n4 n5 CST hc hb3 h35 hO hTb HX3
  have HW6 := Lib.hid (fun wx (hx : Below w6.heap.size w6 wx) => below_then HB5.out (h56.trans (hx.mono h56.size)))
  have HX8 := Lib.hid (fun wx (hx : Below w6.heap.size w6 wx) => HX5.out.below (h56.trans (hx.mono h56.size)))
  have CO1 := Lib.hid (fun wx (hx : Below w6.heap.size w6 wx) => mofx_any (T.p1.below hx) HC.out HCL.out)
  have CO2 := Lib.hid (fun wx (hx : Below w6.heap.size w6 wx) => mofx_any (T.p2.below hx) HC.out HCL.out)
  unfold kV at CO1 CO2
  have CP1 := Lib.hid (xplaced_any T.p1)
  have CP2 := Lib.hid (xplaced_any T.p2)
  have CR1 := Lib.hid (fun wx (hx : Below w6.heap.size w6 wx) => xrow_any (T.p1.below hx) h64)
  have CR2 := Lib.hid (fun wx (hx : Below w6.heap.size w6 wx) => xrow_any (T.p2.below hx) h64)
  have G1 := T.p1.rowG HC.out
  have G2 := T.p2.rowG HC.out
  have l1 : r1.length ≤ 64 := plrow_len G1.nd T.p1.lt.1 h64
  have l2 : r2.length ≤ 64 := plrow_len G2.nd T.p2.lt.1 h64
  have CSH1 := Lib.hid (fun v wx (hx : Below w6.heap.size w6 wx) (hi : Ints wx v (r1.reverse.map Int.ofNat)) => shape15_any _ v h r1 wx (HTX.out wx (HW6.out _ hx)) hi T.p1.lt.1 h64 l1)
  have CSH2 := Lib.hid (fun v wx (hx : Below w6.heap.size w6 wx) (hi : Ints wx v (r2.reverse.map Int.ofNat)) => shape15_any _ v h r2 wx (HTX.out wx (HW6.out _ hx)) hi T.p2.lt.1 h64 l2)
  have HKA : Hid (plS r1 = plS r2 → (List.range h.length).map (posV h r1) = (List.range h.length).map (posV h r2) → keyB h C r1 = keyB h C r2) := Lib.hid (fun hp he => by
    have hmem := mem_of_plS G1.lt G2.lt hp
    refine key_alike G1.nd G2.nd hmem hp (fun k hk => ?_) G1.lt
    have hkn := T.p1.lt.1 k hk
    have h1 := (List.map_inj_left.1 he) k (List.mem_range.2 hkn)
    unfold posV at h1
    rw [if_pos hk, if_pos ((hmem k).1 hk)] at h1
    omega)
  have hE := neqK (plS r1) (plS r2) (keyB h C r1) (keyB h C r2)
  have hE2 := eqlK (plS r1) (plS r2) (keyB h C r1) (keyB h C r2)
  have hG := guardK
  clear G1 G2 l1 l2 T h56
  generalize hAe : (List.range h.length).map (posV h r1) = LA at *
  generalize hBe : (List.range h.length).map (posV h r2) = LB at *
  have hAl : LA.length = h.length := by rw [← hAe]; simp
  have hBl : LB.length = h.length := by rw [← hBe]; simp
  clear hAe hBe
  go_wp2_with fail
  refine CP1.out.mono ?_
  rintro e yq ⟨rfl, rfl⟩
  go_wp2_with fail
  refine CP2.out.mono ?_
  rintro e yq ⟨rfl, rfl⟩
  clear CP1 CP2
  by_cases hp : plS r1 = plS r2
  rotate_left
  · rw [decide_eq_true (show ¬ (plS r1 = plS r2 ∧ keyB h C r1 = keyB h C r2) from fun q => hp q.1)] at hE
    have hpi : ((plS r1 : Nat) : Int) ≠ ((plS r2 : Nat) : Int) := by omega
    have hpb : (((plS r1 : Nat) : Int) != ((plS r2 : Nat) : Int)) = true := by rw [bne_iff_ne]; exact hpi
    clear hE2 HKA CR1 CR2 CSH1 CSH2 hp
    generalize plS r1 = p1 at *
    generalize plS r2 = p2 at *
    generalize keyB h C r1 = b1 at *
    generalize keyB h C r2 = b2 at *
    go_wp2_with fail
    refine (CO1.out _ (Below.refl _ _)).mono ?_
    rintro e w7 ⟨rfl, h7x⟩
    go_wp2_with fail
    refine (CO2.out _ h7x).mono ?_
    rintro e w8 ⟨rfl, h8⟩
    have hz := HW6.out _ (below_then h7x h8)
    clear h7x h8 CO1 CO2
    go_wp2_with fail
    go_ret
    exact ⟨rfl, hz⟩
  have hpb : (((plS r1 : Nat) : Int) != ((plS r2 : Nat) : Int)) = false := by rw [hp]; simp
  have hpi : ((plS r1 : Nat) : Int) = ((plS r2 : Nat) : Int) := by rw [hp]
  have HK2 : Hid (LA = LB → keyB h C r1 = keyB h C r2) := Lib.hid (HKA.out hp)
  have HEQ : Hid (LA = LB → ∀ w, Sem.run Tryd.prog (binOp .eql 38 (.agg #[.int .u64 (plS r1 : Int), .string (keyB h C r1)]) (.agg #[.int .u64 (plS r2 : Int), .string (keyB h C r2)])) w = .ok (.bool true) w) := Lib.hid (fun e => by
    intro w
    rw [hE2 w, decide_eq_true ⟨hp, HK2.out e⟩])
  clear hE hE2 HKA hp HK2
  generalize plS r1 = p1 at *
  generalize plS r2 = p2 at *
  have kd := (Below.refl w6.heap.size w6).drew
  go_upto_region 10 with fail
  go_cut [7, 8] from 7 to 49 (fun u7 u8 wx => Ints wx u7 LA ∧ Ints wx u8 LB ∧ Below w6.heap.size w6 wx)
  case first =>
    refine wp_region_held_drew (S := Below w6.heap.size w6) (by kernel_rfl) kd (fun hS0 => ?_)
    refine takeG (some 38) (i := 0) (v := ?val0x1) rfl rfl (by kernel_rfl) (by kernel_rfl) (by kernel_rfl) (fun _ _ _ h => h) (Or.inl ⟨by rfl, ?hal0x1⟩) hS0 ?ral0x1
    case hal0x1 => (intro w hz; obtain ⟨z0, z1, z2, z3, z4, z5⟩ := HX8.out w hz; go_simp; try (with_reducible rfl))
    try simp only [Act.put, List.setIfInBounds_toArray, List.set_cons_zero, List.set_cons_succ]
    refine takeG (some 39) (i := 1) (v := ?val1x2) rfl rfl (by kernel_rfl) (by kernel_rfl) (by kernel_rfl) (fun _ _ _ h => h) (Or.inl ⟨by rfl, ?hal1x2⟩) hS0 ?ral1x2
    case hal1x2 => (intro w hz; obtain ⟨z0, z1, z2, z3, z4, z5⟩ := HX8.out w hz; go_simp; try (with_reducible rfl))
    try simp only [Act.put, List.setIfInBounds_toArray, List.set_cons_zero, List.set_cons_succ]
    refine takeG (some 40) (i := 2) (v := ?val2x3) rfl rfl (by kernel_rfl) (by kernel_rfl) (by kernel_rfl) (fun _ _ _ h => h) (Or.inl ⟨by rfl, ?hal2x3⟩) hS0 ?ral2x3
    case hal2x3 => (intro w hz; obtain ⟨z0, z1, z2, z3, z4, z5⟩ := HX8.out w hz; go_simp; try (with_reducible rfl))
    try simp only [Act.put, List.setIfInBounds_toArray, List.set_cons_zero, List.set_cons_succ]
    refine takeG (some 41) (i := 3) (v := ?val3x4) rfl rfl (by kernel_rfl) (by kernel_rfl) (by kernel_rfl) (fun _ _ _ h => h) (Or.inl ⟨by rfl, ?hal3x4⟩) hS0 ?ral3x4
    case hal3x4 => (intro w hz; obtain ⟨z0, z1, z2, z3, z4, z5⟩ := HX8.out w hz; go_simp; try (with_reducible rfl))
    try simp only [Act.put, List.setIfInBounds_toArray, List.set_cons_zero, List.set_cons_succ]
    refine takeG (some 44) (i := 6) (v := ?val6x5) rfl rfl (by kernel_rfl) (by kernel_rfl) (by kernel_rfl) (fun _ _ _ h => h) (Or.inl ⟨by rfl, ?hal6x5⟩) hS0 ?ral6x5
    case hal6x5 => (intro w hz; obtain ⟨z0, z1, z2, z3, z4, z5⟩ := HX8.out w hz; go_simp; try (with_reducible rfl))
    try simp only [Act.put, List.setIfInBounds_toArray, List.set_cons_zero, List.set_cons_succ]
    refine takeG (some 45) (i := 7) (v := ?val7x6) rfl rfl (by kernel_rfl) (by kernel_rfl) (by kernel_rfl) (fun _ _ _ h => h) (Or.inl ⟨by rfl, ?hal7x6⟩) hS0 ?ral7x6
    case hal7x6 => (intro w hz; obtain ⟨z0, z1, z2, z3, z4, z5⟩ := HX8.out w hz; go_simp; try (with_reducible rfl))
    try simp only [Act.put, List.setIfInBounds_toArray, List.set_cons_zero, List.set_cons_succ]
    refine takeG (some 46) (i := 8) (v := ?val8x7) rfl rfl (by kernel_rfl) (by kernel_rfl) (by kernel_rfl) (fun _ _ _ h => h) (Or.inl ⟨by rfl, ?hal8x7⟩) hS0 ?ral8x7
    case hal8x7 => (intro w hz; obtain ⟨z0, z1, z2, z3, z4, z5⟩ := HX8.out w hz; go_simp; try (with_reducible rfl))
    try simp only [Act.put, List.setIfInBounds_toArray, List.set_cons_zero, List.set_cons_succ]
    refine takeG (some 47) (i := 9) (v := ?val9x8) rfl rfl (by kernel_rfl) (by kernel_rfl) (by kernel_rfl) (fun _ _ _ h => h) (Or.inl ⟨by rfl, ?hal9x8⟩) hS0 ?ral9x8
    case hal9x8 => (intro w hz; obtain ⟨z0, z1, z2, z3, z4, z5⟩ := HX8.out w hz; go_simp; try (with_reducible rfl))
    try simp only [Act.put, List.setIfInBounds_toArray, List.set_cons_zero, List.set_cons_succ]
    refine wpAnyH_ready (rs := [4]) (by kernel_rfl) (by simp) ?_
    refine AllReadyH.cons rfl (fun K hK => ?_) AllReadyH.nil
    go_simp
    refine (CR1.out w6.drew hS0).mono ?_
    rintro e y9 ⟨v9, rfl, i9, h9⟩
    show K _ _
    have s9 := hS0.trans (h9.mono hS0.size)
    refine hK.out _ _ s9 (fun _ => ?_)
    clear hK K
    refine wpAnyH_ready (rs := [5]) (by kernel_rfl) (by simp) ?_
    refine AllReadyH.cons rfl (fun K hK => ?_) AllReadyH.nil
    go_simp
    refine (CSH1.out _ y9 s9 i9).mono ?_
    rintro e y10 ⟨v10, rfl, i10, h10⟩
    show K _ _
    have i9 := i9.below h10
    have s10 := s9.trans (h10.mono s9.size)
    refine hK.out _ _ s10 (fun _ => ?_)
    clear hK K
    refine wpAnyH_ready (rs := [10]) (by kernel_rfl) (by simp) ?_
    refine AllReadyH.cons rfl (fun K hK => ?_) AllReadyH.nil
    go_simp
    refine (CR2.out y10 s10).mono ?_
    rintro e y11 ⟨v11, rfl, i11, h11⟩
    show K _ _
    have i10 := i10.below h11
    have s11 := s10.trans (h11.mono s10.size)
    refine hK.out _ _ s11 (fun _ => ?_)
    clear hK K
    refine wpAnyH_ready (rs := [11]) (by kernel_rfl) (by simp) ?_
    refine AllReadyH.cons rfl (fun K hK => ?_) AllReadyH.nil
    go_simp
    refine (CSH2.out _ y11 s11 i11).mono ?_
    rintro e y12 ⟨v12, rfl, i12, h12⟩
    show K _ _
    have i10 := i10.below h12
    have i11 := i11.below h12
    have s12 := s11.trans (h12.mono s11.size)
    refine hK.out _ _ s12 (fun _ => ?_)
    clear hK K
    refine takeG (some 7) (i := 12) (v := ?val12x13) rfl rfl (by kernel_rfl) (by kernel_rfl) (by kernel_rfl) (fun _ _ _ h => h) (Or.inl ⟨by rfl, ?hal12x13⟩) s12 ?ral12x13
    case hal12x13 => (intro w hz; obtain ⟨z0, z1, z2, z3, z4, z5⟩ := HX8.out w hz; go_simp; try (with_reducible rfl))
    try simp only [Act.put, List.setIfInBounds_toArray, List.set_cons_zero, List.set_cons_succ]
    refine takeG (some 8) (i := 13) (v := ?val13x14) rfl rfl (by kernel_rfl) (by kernel_rfl) (by kernel_rfl) (fun _ _ _ h => h) (Or.inl ⟨by rfl, ?hal13x14⟩) s12 ?ral13x14
    case hal13x14 => (intro w hz; obtain ⟨z0, z1, z2, z3, z4, z5⟩ := HX8.out w hz; go_simp; try (with_reducible rfl))
    try simp only [Act.put, List.setIfInBounds_toArray, List.set_cons_zero, List.set_cons_succ]
    refine wpAnyH_done (by kernel_rfl) ?_ _
    go_wp2_with fail
    go_meet
    exact ⟨i10, i12, s12⟩
  case rest =>
    obtain ⟨hA, hB, hb⟩ := hcut
    generalize wc = w7 at *
    obtain ⟨ao1, cap1, rfl, _⟩ := hA.form
    obtain ⟨bo1, bap1, rfl, _⟩ := hB.form
    clear CR1 CR2 CSH1 CSH2 kd
    go_wp2_with fail
    go_loopw [52] (fun iv wr => ∃ k : Nat, k ≤ LA.length ∧ iv = .int .i64 k ∧ LA.take k = LB.take k ∧ Below w7.heap.size w7 wr) (fun iv _ => LA.length - (intOf iv).toNat)
    case atStart => exact ⟨0, Nat.zero_le _, rfl, by simp, Below.refl _ _⟩
    case round =>
      obtain ⟨k, hk, rfl, htk, hbw⟩ := hrel
      have HTK := Lib.hid htk
      clear htk
      by_cases hlt : k < LA.length
      · have hlti : (k : Int) < (LA.length : Int) := by omega
        have hltb : k < LB.length := by omega
        obtain ⟨p, off, e1, hc⟩ := (hA.below hbw).at hlt
        obtain ⟨q, offb, e2, hcb⟩ := (hB.below hbw).at hltb
        cases e1
        cases e2
        have HS : Hid (LA[k] = LB[k] → LA.take (k + 1) = LB.take (k + 1)) := Lib.hid (takes_eq hlt hltb HTK.out)
        generalize LA[k] = x at *
        generalize LB[k] = y at *
        by_cases hxy : x = y
        · have hxy' : (x != y) = false := by simpa using hxy
          have HX := Lib.hid (HS.out hxy)
          clear hxy HS
          go_wp2_with fail
          go_quiet (fail)
          go_wp2_with fail
          go_roundw
          case rel => exact ⟨k + 1, by omega, by go_num, HX.out, below_drewN hbw _⟩
          case measure => simp [intOf]; omega
        · have hxy' : (x != y) = true := by simpa using hxy
          have HZ := Lib.hid (fun wz (hz : Below w7.heap.size w7 wz) => HW6.out _ (hb.trans (hz.mono hb.size)))
          clear hxy HS
          go_wp2_with fail
          go_quiet (fail)
          go_wp2_with fail
          go_ret
          exact ⟨rfl, HZ.out _ (below_drewN hbw _)⟩
      · have hlti : ¬ (k : Int) < (LA.length : Int) := by omega
        have he : LA = LB := by
          have := HTK.out
          rw [List.take_of_length_le (by omega), List.take_of_length_le (by omega)] at this
          exact this
        have hE := HEQ.out he
        have h6r := hb.trans (hbw.mono hb.size)
        clear hA hB hb hbw HTK he HEQ hlt hpi hpb
        generalize keyB h C r1 = b1 at *
        generalize keyB h C r2 = b2 at *
        go_wp2_with fail
        refine (CO1.out _ h6r).mono ?_
        rintro e w8 ⟨rfl, h8⟩
        have h68 := h6r.trans (h8.mono h6r.size)
        go_wp2_with fail
        refine (CO2.out _ h68).mono ?_
        rintro e w9 ⟨rfl, h9⟩
        have hz := HW6.out _ (h68.trans (h9.mono h68.size))
        clear h8 h68 h9 h6r CO1 CO2
        go_wp2_with fail
        go_ret
        exact ⟨rfl, hz⟩
end Go.Proofs.YtecpeegbfeijaaaDoor
