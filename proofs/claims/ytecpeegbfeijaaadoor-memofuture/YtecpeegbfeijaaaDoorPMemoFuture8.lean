/- Walks and plain facts that the proof of the statement MemoFuture uses, joined: MemK BruB SeaA MemL. Conditions: each theorem's own. -/
import Derived.Test.YtecpeegbfeijaaaDoorPMemoFuture0
import Derived.Test.YtecpeegbfeijaaaDoorPMemoFuture2
import Derived.Test.YtecpeegbfeijaaaDoorPMemoFuture3
import Derived.Test.YtecpeegbfeijaaaDoorPMemoFuture4
import Derived.Test.YtecpeegbfeijaaaDoorPMemoFuture7
namespace Go.Proofs.YtecpeegbfeijaaaDoor
set_option maxRecDepth 100000
open Go.RowKit

structure BoxP (g : Nat) (vh : Value) (a : Nat) (vb vo : Value) (m : Nat) (vn : Value) (w : World) : Prop where
  c0 : w.cell? ⟨g, 0, none⟩ = some vh
  c1 : w.cell? ⟨g, 1, none⟩ = some (.int .u8 (a : Int))
  c2 : w.cell? ⟨g, 2, none⟩ = some vb
  c3 : w.cell? ⟨g, 3, none⟩ = some vo
  c4 : w.cell? ⟨g, 4, none⟩ = some (.int .u8 (m : Int))
  c5 : w.cell? ⟨g, 5, none⟩ = some vn
theorem BoxP.block {g : Nat} {vh : Value} {a : Nat} {vb vo : Value} {m : Nat} {vn : Value} {w w' : World} (h : BoxP g vh a vb vo m vn w) (hb : w'.heap[g]? = w.heap[g]?) : BoxP g vh a vb vo m vn w' :=
  ⟨(World.cell?_of_block (a := ⟨g, 0, none⟩) hb).trans h.c0, (World.cell?_of_block (a := ⟨g, 1, none⟩) hb).trans h.c1, (World.cell?_of_block (a := ⟨g, 2, none⟩) hb).trans h.c2, (World.cell?_of_block (a := ⟨g, 3, none⟩) hb).trans h.c3, (World.cell?_of_block (a := ⟨g, 4, none⟩) hb).trans h.c4, (World.cell?_of_block (a := ⟨g, 5, none⟩) hb).trans h.c5⟩
theorem BoxP.below {g : Nat} {vh : Value} {a : Nat} {vb vo : Value} {m : Nat} {vn : Value} {w w' : World} (h : BoxP g vh a vb vo m vn w) (hb : Below w.heap.size w w') : BoxP g vh a vb vo m vn w' := h.block (hb.block g (block_lt h.c0))
theorem BoxP.made (w : World) (vh : Value) (a : Nat) (vb vo : Value) (m : Nat) (vn : Value) : BoxP w.heap.size vh a vb vo m vn (w.alloc (.cells #[vh, .int .u8 (a : Int), vb, vo, .int .u8 (m : Int), vn] 28)) := by
  have hn := heap_alloc_new w (.cells #[vh, .int .u8 (a : Int), vb, vo, .int .u8 (m : Int), vn] 28)
  refine ⟨?_, ?_, ?_, ?_, ?_, ?_⟩ <;> (rw [cell_of_row _ _ _ _ _ _ hn]; rfl)
theorem row_take {w : World} {ao : Option Addr} {n cap : Nat} {L : List Nat} (h : Row w (.slice ao n cap) L.length 1 (L.map fun i : Nat => Value.int .i64 (i : Int))) {k : Nat} (hk : k ≤ L.length) : Row w (.slice ao k cap) (L.take k).length 1 ((L.take k).map fun i : Nat => Value.int .i64 (i : Int)) := by
  obtain ⟨_, ao', cap', he, hm, hno, hc⟩ := h
  cases he
  have hl : (L.take k).length = k := by rw [List.length_take]; omega
  refine ⟨by simp, ao, cap, by rw [hl], by rw [hl]; omega, fun e => by have := hno e; rw [hl]; omega, fun hn => ?_⟩
  rw [hl] at hn
  obtain ⟨g, o, e, hcell⟩ := hc (by omega)
  refine ⟨g, o, e, fun i hi => ?_⟩
  rw [hl] at hi
  rw [hcell i (by omega), List.map_take, List.getElem?_take, if_pos (by omega)]
set_option maxRecDepth 100000 in
set_option maxHeartbeats 32000000 in
theorem states15_any (vh vb vo vn : Value) (a m : Nat) (h : List TxnV) (bs os : List Int) (w : World) (ht : Tab w) (hc : checkI h = 0) (h7 : h.length ≤ 7) (hT : Txns w vh h) (hok : ∀ t ∈ h, t.ok) (hsh : Short h)
    (hB : Row w vb bs.length 1 (bs.map (Value.int .u8))) (hbs : ∀ n ∈ bs, 0 ≤ n ∧ n < 256) (hQ : Row w vo os.length 1 (os.map (Value.int .u8))) (hos : ∀ n ∈ os, 0 ≤ n ∧ n < 256) (ha : a < 256) (hm : m < 256) :
    Calls Tryd.prog 8 #[.agg #[vh, .int .u8 a, vb, vo, .int .u8 m, vn]] w fun e w' => ∃ (w5 : World) (B N1 S1 N2 S2 : Nat) (r1 r2 : List Nat) (vb1 vr1 vb2 vr2 : Value) (aF1 sF1 aF2 sF2 : Nat → Nat),
      e = .returned (.tuple #[.pointer (some ⟨B, 0, none⟩), .pointer (some ⟨S1, 0, none⟩), .pointer (some ⟨S2, 0, none⟩), .bool true]) ∧ OrdIs w5 B (B + 2) h ∧ Tab w5 ∧
      Two w5 B (B + 2) h (clI (a : Int)) N1 S1 r1 vb1 vr1 aF1 sF1 N2 S2 r2 vb2 vr2 aF2 sF2 w' ∧ Below w5.heap.size w5 w' ∧ Below w.heap.size w w5 := by
  have hb0 := box_below w (.cells #[vh, .int .u8 (a : Int), vb, vo, .int .u8 (m : Int), vn] 28)
  have x0 := BoxP.made w vh a vb vo m vn
  have hx1 := x0.below (Below.refl _ _)
  have HT := Lib.hid (fun wx (hx : Below w.heap.size w wx) => ht.below hx ht.pos)
  have HBY := Lib.hid (fun wx (hx : Below w.heap.size w wx) => Row.below hB hx)
  have HQY := Lib.hid (fun wx (hx : Below w.heap.size w wx) => Row.below hQ hx)
  have HBS := Lib.hid hbs
  have HQS := Lib.hid hos
  have HC := Lib.hid hc
  have CO := Lib.hid (of_done _ h _ (hT.below hb0) hok hsh hc)
  obtain ⟨ao, cap, rfl, hal⟩ := hT.form
  have hCl : clI (a : Int) < 9223372036854775808 := by have := clI_lt (a : Int); omega
  have HCL := Lib.hid hCl
  have h64 : h.length ≤ 64 := by omega
  clear ht hT hok hsh hB hQ hbs hos hc hx1 hCl
  go_enter Tryd.func8, Tryd.ntmps8
  go_upto_region 1 with fail
  generalize w.alloc (.cells #[.slice ao h.length cap, .int .u8 (a : Int), vb, vo, .int .u8 (m : Int), vn] 28) = w1 at *
  obtain ⟨n0, n1, n2, n3, n4, n5⟩ := x0
  go_wp2_with fail
  refine (CO.out).mono ?_
  rintro e w5 ⟨⟨B, rfl, hBl, hO⟩, h15⟩
  have x5 := BoxP.below ⟨n0, n1, n2, n3, n4, n5⟩ h15
  have HB5 := Lib.hid (below_then hb0 h15)
  have HS5 := Lib.hid (fun wx (hx : Below w5.heap.size w5 wx) => x5.below hx)
  have HOT : Hid (OrdIs w5 B (B + 2) h ∧ Tab w5) := Lib.hid ⟨hO, HT.out _ HB5.out⟩
  have CN := Lib.hid (fun wx (hx : Below w5.heap.size w5 wx) => xnew_any (a : Int) HOT.out.1 HC.out HOT.out.2 (w := wx) hx)
  have HW5 := Lib.hid (fun wx (hx : Below w5.heap.size w5 wx) => below_then HB5.out hx)
  clear n0 n1 n2 n3 n4 n5 hb0 h15 x5 CO hO hBl
  obtain ⟨C, hCe⟩ : ∃ C, C = clI (a : Int) := ⟨_, rfl⟩
  rw [← hCe] at CN HCL
  have HCE := Lib.hid hCe
  clear hCe
  have hwa : IntKind.i64.wrap (a : Int) = (a : Int) := by rw [IntKind.wrap_i64]; omega
  have hwm : IntKind.i64.wrap (m : Int) = (m : Int) := by rw [IntKind.wrap_i64]; omega
  have kd := (Below.refl w5.heap.size w5).drew
  go_upto_region 4 with fail
  go_cut [8, 9] from 8 to 39 (fun u8 u9 wx => ∃ (N1 S1 N2 S2 : Nat) (vb1 vb2 : Value) (aF1 sF1 aF2 sF2 : Nat → Nat), u8 = .pointer (some ⟨S1, 0, none⟩) ∧ u9 = .pointer (some ⟨S2, 0, none⟩) ∧ Two w5 B (B + 2) h C N1 S1 [] vb1 (.slice none 0 0) aF1 sF1 N2 S2 [] vb2 (.slice none 0 0) aF2 sF2 wx ∧ Below w5.heap.size w5 wx)
  case first =>
    refine wp_region_held_drew (S := Below w5.heap.size w5) (by kernel_rfl) kd (fun hS0 => ?_)
    refine takeG (some 28) (i := 0) (v := ?vst0x1) rfl rfl (by kernel_rfl) (by kernel_rfl) (by kernel_rfl) (fun _ _ _ h => h) (Or.inl ⟨by rfl, ?hst0x1⟩) hS0 ?rst0x1
    case hst0x1 => (intro w hz; obtain ⟨z0, z1, z2, z3, z4, z5⟩ := HS5.out w hz; go_simp; try (with_reducible rfl))
    try simp only [Act.put, List.setIfInBounds_toArray, List.set_cons_zero, List.set_cons_succ]
    refine takeG (some 29) (i := 1) (v := ?vst1x2) rfl rfl (by kernel_rfl) (by kernel_rfl) (by kernel_rfl) (fun _ _ _ h => h) (Or.inl ⟨by rfl, ?hst1x2⟩) hS0 ?rst1x2
    case hst1x2 => (intro w hz; obtain ⟨z0, z1, z2, z3, z4, z5⟩ := HS5.out w hz; go_simp; try (with_reducible rfl))
    try simp only [Act.put, List.setIfInBounds_toArray, List.set_cons_zero, List.set_cons_succ]
    refine takeG (some 30) (i := 2) (v := ?vst2x3) rfl rfl (by kernel_rfl) (by kernel_rfl) (by kernel_rfl) (fun _ _ _ h => h) (Or.inl ⟨by rfl, ?hst2x3⟩) hS0 ?rst2x3
    case hst2x3 => (intro w hz; obtain ⟨z0, z1, z2, z3, z4, z5⟩ := HS5.out w hz; go_simp; try (with_reducible rfl))
    try simp only [Act.put, List.setIfInBounds_toArray, List.set_cons_zero, List.set_cons_succ]
    refine takeG (some 31) (i := 3) (v := ?vst3x4) rfl rfl (by kernel_rfl) (by kernel_rfl) (by kernel_rfl) (fun _ _ _ h => h) (Or.inl ⟨by rfl, ?hst3x4⟩) hS0 ?rst3x4
    case hst3x4 => (intro w hz; obtain ⟨z0, z1, z2, z3, z4, z5⟩ := HS5.out w hz; go_simp; try (with_reducible rfl))
    try simp only [Act.put, List.setIfInBounds_toArray, List.set_cons_zero, List.set_cons_succ]
    refine takeG (some 32) (i := 4) (v := ?vst4x5) rfl rfl (by kernel_rfl) (by kernel_rfl) (by kernel_rfl) (fun _ _ _ h => h) (Or.inl ⟨by rfl, ?hst4x5⟩) hS0 ?rst4x5
    case hst4x5 => (intro w hz; obtain ⟨z0, z1, z2, z3, z4, z5⟩ := HS5.out w hz; go_simp; try (with_reducible rfl))
    try simp only [Act.put, List.setIfInBounds_toArray, List.set_cons_zero, List.set_cons_succ]
    refine takeG (some 34) (i := 6) (v := ?vst6x6) rfl rfl (by kernel_rfl) (by kernel_rfl) (by kernel_rfl) (fun _ _ _ h => h) (Or.inl ⟨by rfl, ?hst6x6⟩) hS0 ?rst6x6
    case hst6x6 => (intro w hz; obtain ⟨z0, z1, z2, z3, z4, z5⟩ := HS5.out w hz; go_simp; try (with_reducible rfl))
    try simp only [Act.put, List.setIfInBounds_toArray, List.set_cons_zero, List.set_cons_succ]
    refine takeG (some 35) (i := 7) (v := ?vst7x7) rfl rfl (by kernel_rfl) (by kernel_rfl) (by kernel_rfl) (fun _ _ _ h => h) (Or.inl ⟨by rfl, ?hst7x7⟩) hS0 ?rst7x7
    case hst7x7 => (intro w hz; obtain ⟨z0, z1, z2, z3, z4, z5⟩ := HS5.out w hz; go_simp; try (with_reducible rfl))
    try simp only [Act.put, List.setIfInBounds_toArray, List.set_cons_zero, List.set_cons_succ]
    refine takeG (some 36) (i := 8) (v := ?vst8x8) rfl rfl (by kernel_rfl) (by kernel_rfl) (by kernel_rfl) (fun _ _ _ h => h) (Or.inl ⟨by rfl, ?hst8x8⟩) hS0 ?rst8x8
    case hst8x8 => (intro w hz; obtain ⟨z0, z1, z2, z3, z4, z5⟩ := HS5.out w hz; go_simp; try (with_reducible rfl))
    try simp only [Act.put, List.setIfInBounds_toArray, List.set_cons_zero, List.set_cons_succ]
    refine takeG (some 37) (i := 9) (v := ?vst9x9) rfl rfl (by kernel_rfl) (by kernel_rfl) (by kernel_rfl) (fun _ _ _ h => h) (Or.inl ⟨by rfl, ?hst9x9⟩) hS0 ?rst9x9
    case hst9x9 => (intro w hz; obtain ⟨z0, z1, z2, z3, z4, z5⟩ := HS5.out w hz; go_simp; try (with_reducible rfl))
    try simp only [Act.put, List.setIfInBounds_toArray, List.set_cons_zero, List.set_cons_succ]
    refine takeG (some 38) (i := 10) (v := ?vst10x10) rfl rfl (by kernel_rfl) (by kernel_rfl) (by kernel_rfl) (fun _ _ _ h => h) (Or.inl ⟨by rfl, ?hst10x10⟩) hS0 ?rst10x10
    case hst10x10 => (intro w hz; obtain ⟨z0, z1, z2, z3, z4, z5⟩ := HS5.out w hz; go_simp; try (with_reducible rfl))
    try simp only [Act.put, List.setIfInBounds_toArray, List.set_cons_zero, List.set_cons_succ]
    refine wpAnyH_ready (rs := [5]) (by kernel_rfl) (by simp) ?_
    refine AllReadyH.cons rfl (fun K hK => ?_) AllReadyH.nil
    go_simp
    refine (CN.out w5.drew hS0).mono ?_
    rintro e y11 ⟨S11, vb11, aF11, sF11, rfl, p11, h11⟩
    show K _ _
    have s11 := hS0.trans (h11.mono hS0.size)
    refine hK.out _ _ s11 (fun _ => ?_)
    clear hK K
    refine wpAnyH_ready (rs := [11]) (by kernel_rfl) (by simp) ?_
    refine AllReadyH.cons rfl (fun K hK => ?_) AllReadyH.nil
    go_simp
    refine (CN.out y11 s11).mono ?_
    rintro e y12 ⟨S12, vb12, aF12, sF12, rfl, p12, h12⟩
    show K _ _
    have s12 := s11.trans (h12.mono s11.size)
    have T12 := Two.made h12 p11 p12
    refine hK.out _ _ s12 (fun _ => ?_)
    clear hK K
    refine takeG (some 8) (i := 12) (v := ?vst12x13) rfl rfl (by kernel_rfl) (by kernel_rfl) (by kernel_rfl) (fun _ _ _ h => h) (Or.inl ⟨by rfl, ?hst12x13⟩) s12 ?rst12x13
    case hst12x13 => (intro w hz; obtain ⟨z0, z1, z2, z3, z4, z5⟩ := HS5.out w hz; go_simp; try (with_reducible rfl))
    try simp only [Act.put, List.setIfInBounds_toArray, List.set_cons_zero, List.set_cons_succ]
    refine takeG (some 9) (i := 13) (v := ?vst13x14) rfl rfl (by kernel_rfl) (by kernel_rfl) (by kernel_rfl) (fun _ _ _ h => h) (Or.inl ⟨by rfl, ?hst13x14⟩) s12 ?rst13x14
    case hst13x14 => (intro w hz; obtain ⟨z0, z1, z2, z3, z4, z5⟩ := HS5.out w hz; go_simp; try (with_reducible rfl))
    try simp only [Act.put, List.setIfInBounds_toArray, List.set_cons_zero, List.set_cons_succ]
    refine wpAnyH_done (by kernel_rfl) ?_ _
    go_wp2_with fail
    go_meet
    exact ⟨_, _, _, _, _, _, _, _, _, _, rfl, rfl, T12, s12⟩
  case rest =>
    obtain ⟨N1, S1, N2, S2, vb1, vb2, aF1, sF1, aF2, sF2, rfl, rfl, T, hb⟩ := hcut
    generalize wc = w6 at *
    obtain ⟨k, hke⟩ : ∃ k : Nat, (m : Int) % ((h.length : Int) + 1) = (k : Int) := ⟨((m : Int) % ((h.length : Int) + 1)).toNat, by have := Int.emod_nonneg (m : Int) (show (h.length : Int) + 1 ≠ 0 by omega); omega⟩
    have hkn : k ≤ h.length := by have := Int.emod_lt_of_pos (m : Int) (show 0 < (h.length : Int) + 1 by omega); omega
    obtain ⟨n0, n1, n2, n3, n4, n5⟩ := HS5.out _ hb
    go_upto_region 6 with fail
    rw [hke]
    have CR := Lib.hid (lrow_own h.length (by omega) _ bs w6 (HBY.out _ (HW5.out _ hb)) HBS.out)
    have hS1 := T.p1.lowS.2.1
    have hS2 := T.p2.lowS.2.1
    clear hke
    go_wp2_with fail
    refine (CR.out).mono ?_
    rintro e w7 ⟨⟨v, L, rfl, hown, hP⟩, h7x⟩
    have T := T.below h7x
    have hX : RowX S1 (.slice none 0 0) w7 v L.length 1 (L.map fun i : Nat => Value.int .i64 (i : Int)) := ⟨Row.of_owns hown, fun _ _ g hg => ⟨by have := (hown.lt g hg).1; omega, by intro e; cases e⟩⟩
    have hLl : L.length = h.length := by rw [hP.length_eq, List.length_range]
    have hb := hb.trans (h7x.mono hb.size)
    obtain ⟨va, vc, rfl⟩ := owns_form hown
    have hvc : L.length ≤ vc := by
      obtain ⟨⟨_, ao', cap', e, hm', _⟩, _⟩ := hX
      cases e; exact hm'.1
    have hkL : k ≤ L.length := by omega
    have hX : RowX S1 (.slice none 0 0) w7 (.slice va k vc) (L.take k).length 1 ((L.take k).map fun i : Nat => Value.int .i64 (i : Int)) := ⟨row_take hX.1 hkL, fun hn h1 g hg => hX.2 (by rw [List.length_take] at hn; omega) h1 g (by cases va with | none => cases hg | some x => exact hg)⟩
    have hTL : (L.take k).length = k := by rw [List.length_take]; omega
    have hkv : (k : Int) ≤ (vc : Int) := by omega
    clear hown hP h7x CR n0 n1 n2 n3 n4 n5
    go_wp2_with fail
    go_loopw [60] (fun iv wr => ∃ (j : Nat) (r1 r2 : List Nat) (vr1 vr2 : Value) (aF1 sF1 aF2 sF2 : Nat → Nat), j ≤ k ∧ iv = .int .i64 j ∧ Two w5 B (B + 2) h C N1 S1 r1 vb1 vr1 aF1 sF1 N2 S2 r2 vb2 vr2 aF2 sF2 wr ∧ RowX S1 vr1 wr (.slice va k vc) (L.take k).length 1 ((L.take k).map fun i : Nat => Value.int .i64 (i : Int)) ∧ Below w5.heap.size w5 wr) (fun iv _ => k - (intOf iv).toNat)
    case atStart => exact ⟨0, _, _, _, _, _, _, _, _, Nat.zero_le _, rfl, T, hX, hb⟩
    case round =>
      clear T hX hb
      obtain ⟨j, r1, r2, vr1, vr2, aF1, sF1, aF2, sF2, hj, rfl, T, hX, hb⟩ := hrel
      by_cases hlt : j < k
      · have hki : (j : Int) < (k : Int) := by omega
        have hlt2 : j < (L.take k).length := by rw [hTL]; exact hlt
        obtain ⟨g, o, hao, hcell⟩ := rowx_at (L := L.take k) (by rw [hTL] at hX ⊢; exact hX) hlt2
        cases hao
        generalize (L.take k)[j] = i at *
        cases htr : tryP h C r1 i with
        | false =>
          have CT := Lib.hid (xtry_no T.p1 HC.out HCL.out (i : Int) (by unfold tryI; rw [Int.toNat_natCast, htr]; simp))
          have HP := Lib.hid (fun wx (hx : Below wr.heap.size wr wx) => And.intro (T.below hx) (And.intro (hX.step (by omega) (PlStep.of_below (S := S1) (vr := vr1) hx)) (hb.trans (hx.mono hb.size))))
          clear htr T hX hb
          go_wp2_with fail
          refine (CT.out).mono ?_
          rintro e w6 ⟨rfl, h6⟩
          obtain ⟨T, hX, hb⟩ := HP.out _ h6
          clear hcell CT HP h6
          go_wp2_with fail
          go_roundw
          case rel => exact ⟨j + 1, _, _, _, _, _, _, _, _, by omega, by go_num, T, hX, hb⟩
          case measure => simp [intOf]; omega
        | true =>
          have CT := Lib.hid (xtry_yes T.p1 HC.out HCL.out i htr)
          have HG1 := Lib.hid (fun w' vr' (k6 : PlStep S1 vr1 vr' wr w') => T.p1.grow1 hb k6)
          clear htr
          go_wp2_with fail
          refine (CT.out).mono ?_
          rintro e w6 ⟨rfl, vr3, aF3, sF3, p, k6⟩
          have hb := HG1.out _ _ k6
          have hX := hX.step (by omega) k6
          have T := T.step HOT.out.1 HOT.out.2 p k6
          clear hcell CT HG1 p k6
          go_wp2_with fail
          go_roundw
          case rel => exact ⟨j + 1, _, _, _, _, _, _, _, _, by omega, by go_num, T, hX, hb⟩
          case measure => simp [intOf]; omega
      · have hjk : j = k := by omega
        subst hjk
        clear hX hvc hkL hTL hkv hj
        have CR := Lib.hid (lrow_own h.length (by omega) _ os wr (HQY.out _ (HW5.out _ hb)) HQS.out)
        obtain ⟨n0, n1, n2, n3, n4, n5⟩ := HS5.out _ hb
        have hS1 := T.p1.lowS.2.1
        have hS2 := T.p2.lowS.2.1
        clear hLl
        go_wp2_with fail
        refine (CR.out).mono ?_
        rintro e w7 ⟨⟨v, L, rfl, hown, hP⟩, h7x⟩
        have hX : RowX S2 vr2 w7 v L.length 1 (L.map fun i : Nat => Value.int .i64 (i : Int)) := ⟨Row.of_owns hown, fun _ _ g hg => ⟨by have := (hown.lt g hg).1; omega, fun e => by have h1 := (hown.lt g hg).1; have h2 := (T.p2.own.2 g e).2; omega⟩⟩
        have T := T.below h7x
        have hLl : L.length = h.length := by rw [hP.length_eq, List.length_range]
        have hb := hb.trans (h7x.mono hb.size)
        obtain ⟨va, vc, rfl⟩ := owns_form hown
        have hvc : L.length ≤ vc := by
          obtain ⟨⟨_, ao', cap', e, hm', _⟩, _⟩ := hX
          cases e; exact hm'.1
        have hkL : j ≤ L.length := by omega
        have hX : RowX S2 vr2 w7 (.slice va j vc) (L.take j).length 1 ((L.take j).map fun i : Nat => Value.int .i64 (i : Int)) := ⟨row_take hX.1 hkL, fun hn h1 g hg => hX.2 (by rw [List.length_take] at hn; omega) h1 g (by cases va with | none => cases hg | some x => exact hg)⟩
        have hTL : (L.take j).length = j := by rw [List.length_take]; omega
        have hkv : (j : Int) ≤ (vc : Int) := by omega
        clear hown hP h7x CR n0 n1 n2 n3 n4 n5
        generalize j = k at *
        go_wp2_with fail
        go_loopw [78] (fun iv wr => ∃ (j : Nat) (r1 r2 : List Nat) (vr1 vr2 : Value) (aF1 sF1 aF2 sF2 : Nat → Nat), j ≤ k ∧ iv = .int .i64 j ∧ Two w5 B (B + 2) h C N1 S1 r1 vb1 vr1 aF1 sF1 N2 S2 r2 vb2 vr2 aF2 sF2 wr ∧ RowX S2 vr2 wr (.slice va k vc) (L.take k).length 1 ((L.take k).map fun i : Nat => Value.int .i64 (i : Int)) ∧ Below w5.heap.size w5 wr) (fun iv _ => k - (intOf iv).toNat)
        case atStart => exact ⟨0, _, _, _, _, _, _, _, _, Nat.zero_le _, rfl, T, hX, hb⟩
        case round =>
          clear T hX hb
          obtain ⟨j, r1, r2, vr1, vr2, aF1, sF1, aF2, sF2, hj, rfl, T, hX, hb⟩ := hrel
          by_cases hlt : j < k
          · have hki : (j : Int) < (k : Int) := by omega
            have hlt2 : j < (L.take k).length := by rw [hTL]; exact hlt
            obtain ⟨g, o, hao, hcell⟩ := rowx_at (L := L.take k) (by rw [hTL] at hX ⊢; exact hX) hlt2
            cases hao
            generalize (L.take k)[j] = i at *
            cases htr : tryP h C r2 i with
            | false =>
              have CT := Lib.hid (xtry_no T.p2 HC.out HCL.out (i : Int) (by unfold tryI; rw [Int.toNat_natCast, htr]; simp))
              have HP := Lib.hid (fun wx (hx : Below wr.heap.size wr wx) => And.intro (T.below hx) (And.intro (hX.step (by omega) (PlStep.of_below (S := S2) (vr := vr2) hx)) (hb.trans (hx.mono hb.size))))
              clear htr T hX hb
              go_wp2_with fail
              refine (CT.out).mono ?_
              rintro e w6 ⟨rfl, h6⟩
              obtain ⟨T, hX, hb⟩ := HP.out _ h6
              clear hcell CT HP h6
              go_wp2_with fail
              go_roundw
              case rel => exact ⟨j + 1, _, _, _, _, _, _, _, _, by omega, by go_num, T, hX, hb⟩
              case measure => simp [intOf]; omega
            | true =>
              have CT := Lib.hid (xtry_yes T.p2 HC.out HCL.out i htr)
              have HG1 := Lib.hid (fun w' vr' (k6 : PlStep S2 vr2 vr' wr w') => T.p2.grow1 hb k6)
              clear htr
              go_wp2_with fail
              refine (CT.out).mono ?_
              rintro e w6 ⟨rfl, vr3, aF3, sF3, p, k6⟩
              have hb := HG1.out _ _ k6
              have hX := hX.step (by omega) k6
              have T := (T.symm.step HOT.out.1 HOT.out.2 p k6).symm
              clear hcell CT HG1 p k6
              go_wp2_with fail
              go_roundw
              case rel => exact ⟨j + 1, _, _, _, _, _, _, _, _, by omega, by go_num, T, hX, hb⟩
              case measure => simp [intOf]; omega
          · have hjk : j = k := by omega
            subst hjk
            have HZ : Hid (∃ (w5 : World) (B N1 S1' N2 S2' : Nat) (r1 r2 : List Nat) (vb1 vr1 vb2 vr2 : Value) (aF1 sF1 aF2 sF2 : Nat → Nat), True) := Lib.hid ⟨w5, B, N1, S1, N2, S2, r1, r2, vb1, vr1, vb2, vr2, aF1, sF1, aF2, sF2, trivial⟩
            have HTZ := Lib.hid T
            have HBZ := Lib.hid hb
            clear T hX hb hvc hkL hTL hkv hj hLl HZ
            go_wp2_with fail
            refine bodyPost_ret (v := .tuple #[.pointer (some ⟨B, 0, none⟩), .pointer (some ⟨S1, 0, none⟩), .pointer (some ⟨S2, 0, none⟩), .bool true]) ?_ rfl ⟨w5, B, N1, S1, N2, S2, r1, r2, vb1, vr1, vb2, vr2, aF1, sF1, aF2, sF2, rfl, HOT.out.1, HOT.out.2, (by rw [← HCE.out]; exact HTZ.out), HBZ.out, HB5.out⟩
            simp [results, Tryd.results8, go_sem]
end Go.Proofs.YtecpeegbfeijaaaDoor

namespace Go.Proofs.YtecpeegbfeijaaaDoor
set_option maxRecDepth 100000
open Go.RowKit

instance memDec (q : Nat × ByteArray) (M : List (Nat × ByteArray)) : Decidable (q ∈ M) := @List.instDecidableMemOfLawfulBEq _ instBEqOfDecidableEq inferInstance q M
section
variable {h : List TxnV} {C n : Nat}
theorem RowG.nil : RowG h C [] := ⟨List.nodup_nil, fun _ hk => (by cases hk), fun _ hk => (by cases hk)⟩
/-- The first order that goes on from a row, the last one first; of k that are left. -/
def firstE (h : List TxnV) (C n : Nat) : Nat → List Nat → Option (List Nat)
  | 0, r => some r
  | k + 1, r => (List.range n).findSome? fun j => if tryP h C r j = true then firstE h C n k (j :: r) else none
/-- What failed: keys of rows from which no order goes on. -/
def Bad (h : List TxnV) (C n : Nat) (M : List (Nat × ByteArray)) : Prop := ∀ q ∈ M, ∃ (r : List Nat) (k : Nat), RowG h C r ∧ r.length + k = n ∧ q = (plS r, keyB h C r) ∧ firstE h C n k r = none
theorem Bad.nil : Bad h C n [] := fun _ hq => by cases hq
/-- A search: what is found, the last one first; what has failed; how often one was tried. -/
abbrev Srch := Option (List Nat) × List (Nat × ByteArray) × Nat
section
variable {F : List Nat → List (Nat × ByteArray) → Srch} {r : List Nat} {st : Srch} {j : Nat}
end
theorem free_count {r : List Nat} (hnd : r.Nodup) (hlt : ∀ i ∈ r, i < n) : ((List.range n).filter fun j => !decide (j ∈ r)).length + r.length = n := by
  have h1 : ((List.range n).filter fun j => decide (j ∈ r)).Perm r := by
    refine (List.perm_ext_iff_of_nodup (List.nodup_range.filter _) hnd).2 fun j => ?_
    simp only [List.mem_filter, List.mem_range, decide_eq_true_eq]
    exact ⟨And.right, fun q => ⟨hlt j q, q⟩⟩
  have h2 : ((List.range n).filter fun j => decide (j ∈ r)).length + ((List.range n).filter fun j => !decide (j ∈ r)).length = (List.range n).length := by
    rw [← List.countP_eq_length_filter, ← List.countP_eq_length_filter]
    have := List.length_eq_countP_add_countP (fun j => decide (j ∈ r)) (l := List.range n)
    rw [this]
    congr 1
    refine List.countP_congr fun j _ => ?_
    cases decide (j ∈ r) <;> simp
  rw [h1.length_eq, List.length_range] at h2
  omega
end
end Go.Proofs.YtecpeegbfeijaaaDoor

namespace Go.Proofs.YtecpeegbfeijaaaDoor
set_option maxRecDepth 100000
open Go.RowKit

theorem plrow_len {r : List Nat} {n : Nat} (hnd : r.Nodup) (hlt : ∀ k ∈ r, k < n) (hn : n ≤ 64) : r.length ≤ 64 := by
  have := free_count (n := n) hnd hlt
  omega
set_option maxRecDepth 100000 in
set_option maxHeartbeats 32000000 in
theorem future15_walk (vh vb vo vn : Value) (a m : Nat) (h : List TxnV) (bs os ns : List Int) (w : World) (ht : Tab w) (hT : Txns w vh h) (hok : ∀ t ∈ h, t.ok) (hsh : Short h)
    (hB : Row w vb bs.length 1 (bs.map (Value.int .u8))) (hbs : ∀ n ∈ bs, 0 ≤ n ∧ n < 256) (hQ : Row w vo os.length 1 (os.map (Value.int .u8))) (hos : ∀ n ∈ os, 0 ≤ n ∧ n < 256) (hN : Ints w vn ns) (ha : a < 256) (hm : m < 256) :
    Calls Tryd.prog 3 #[.agg #[vh, .int .u8 a, vb, vo, .int .u8 m, vn]] w fun e w' => e = .returned (.bool true) ∧ Below w.heap.size w w' := by
  have hb0 := box_below w (.cells #[vh, .int .u8 (a : Int), vb, vo, .int .u8 (m : Int), vn] 28)
  have x0 := BoxP.made w vh a vb vo m vn
  have HT := Lib.hid (fun wx (hx : Below w.heap.size w wx) => ht.below hx ht.pos)
  have HTX := Lib.hid (fun wx (hx : Below w.heap.size w wx) => hT.below hx)
  have HBY := Lib.hid (fun wx (hx : Below w.heap.size w wx) => Row.below hB hx)
  have HQY := Lib.hid (fun wx (hx : Below w.heap.size w wx) => Row.below hQ hx)
  have HNY := Lib.hid (fun wx (hx : Below w.heap.size w wx) => hN.below hx)
  have HBS := Lib.hid hbs
  have HQS := Lib.hid hos
  have HOK := Lib.hid hok
  have HSH := Lib.hid hsh
  have CS := Lib.hid (speaks15_any _ (ht.below hb0 ht.pos))
  obtain ⟨ao, cap, rfl, hal⟩ := hT.form
  obtain ⟨no, nc, rfl, hnl⟩ := hN.form
  clear ht hT hok hsh hB hQ hbs hos hN
  go_enter Tryd.func3, Tryd.ntmps3
  go_upto_region 1 with fail
  generalize w.alloc (.cells #[.slice ao h.length cap, .int .u8 (a : Int), vb, vo, .int .u8 (m : Int), .slice no ns.length nc] 28) = w1 at *
  go_wp2_with fail
  refine CS.out.mono ?_
  rintro e w2 ⟨rfl, h2⟩
  have x2 := x0.below h2
  have hb2 := below_then hb0 h2
  have CM := Lib.hid (small_any _ h w2 (HTX.out _ hb2) HSH.out)
  clear CS x0 hb0 h2
  obtain ⟨n0, n1, n2, n3, n4, n5⟩ := x2
  go_wp2_with fail
  refine CM.out.mono ?_
  rintro e w3 ⟨rfl, h3⟩
  have x3 := BoxP.below ⟨n0, n1, n2, n3, n4, n5⟩ h3
  have hb3 := below_then hb2 h3
  clear n0 n1 n2 n3 n4 n5 hb2 h3 CM
  by_cases hs : smallI h = 0
  · rw [hs]
    go_wp2_with fail
    go_ret
    exact ⟨rfl, hb3⟩
  obtain ⟨h7, hc, h1⟩ := small_no hs
  rw [h1]
  clear hs h1
  have HX3 := Lib.hid x3
  obtain ⟨n0, n1, n2, n3, n4, n5⟩ := x3
  by_cases h60 : (60 : Int) < (ns.length : Int)
  · go_wp2_with fail
    go_ret
    exact ⟨rfl, hb3⟩
  have CST := Lib.hid (states15_any _ vb vo (.slice no ns.length nc) a m h bs os w3 (HT.out _ hb3) hc h7 (HTX.out _ hb3) HOK.out HSH.out (HBY.out _ hb3) HBS.out (HQY.out _ hb3) HQS.out ha hm)
  have HC := Lib.hid hc
  have h64 : h.length ≤ 64 := by omega
  go_wp2_with fail
  refine CST.out.mono ?_
  rintro e w6 ⟨w5, B, N1, S1, N2, S2, r1, r2, vb1, vr1, vb2, vr2, aF1, sF1, aF2, sF2, rfl, hO, hTb, T, h56, h35⟩
  have HCL : Hid (clI (a : Int) < 9223372036854775808) := Lib.hid (by have := clI_lt (a : Int); omega)
  generalize clI (a : Int) = C at *
  have HB5 := Lib.hid (below_then hb3 h35)
  have HX5 := Lib.hid (HX3.out.below h35)
  have HOT : Hid (OrdIs w5 B (B + 2) h ∧ Tab w5) := Lib.hid ⟨hO, hTb⟩
  clear n0 n1 n2 n3 n4 n5 CST hc hb3 h35 hO hTb HX3
  have CO1 := Lib.hid (fun wx (hx : Below w6.heap.size w6 wx) => mofx_any (T.p1.below hx) HC.out HCL.out)
  have CO2 := Lib.hid (fun wx (hx : Below w6.heap.size w6 wx) => mofx_any (T.p2.below hx) HC.out HCL.out)
  unfold kV at CO1 CO2
  go_wp2_with fail
  refine (CO1.out _ (Below.refl _ _)).mono ?_
  rintro e w7 ⟨rfl, h7x⟩
  go_wp2_with fail
  refine (CO2.out _ h7x).mono ?_
  rintro e w8 ⟨rfl, h8⟩
  have h8 := below_then h7x h8
  have hxa := box_below w8 (.cells #[.int .u64 ((plS r1 : Nat) : Int), .string (keyB h C r1)] 38)
  have hxb := box_below (w8.alloc (.cells #[.int .u64 ((plS r1 : Nat) : Int), .string (keyB h C r1)] 38)) (.cells #[.int .u64 ((plS r2 : Nat) : Int), .string (keyB h C r2)] 38)
  have k1 := (KyAt.lit w8 (plS r1) (keyB h C r1)).below hxb
  have k2 := KyAt.lit (w8.alloc (.cells #[.int .u64 ((plS r1 : Nat) : Int), .string (keyB h C r1)] 38)) (plS r2) (keyB h C r2)
  have h9 := below_then h8 (below_then hxa hxb)
  have hs9 : (w8.alloc (.cells #[.int .u64 ((plS r1 : Nat) : Int), .string (keyB h C r1)] 38)).heap.size = w8.heap.size + 1 := by simp
  rw [hs9] at k2
  have T := T.below h9
  have h59 := h56.trans (h9.mono h56.size)
  go_upto_region 9 with fail
  clear hxa hxb h8 h7x hs9 CO1 CO2 h9 h56
  generalize (w8.alloc (.cells #[.int .u64 ((plS r1 : Nat) : Int), .string (keyB h C r1)] 38)).alloc (.cells #[.int .u64 ((plS r2 : Nat) : Int), .string (keyB h C r2)] 38) = w9 at *
  generalize w8.heap.size + 1 = g2 at *
  generalize w8.heap.size = g1 at *
  have CP1 := Lib.hid (xplaced_any (T.p1.below (w' := w9.drew) (Below.refl w9.heap.size w9).drew))
  have CP2 := Lib.hid (xplaced_any (T.p2.below (w' := w9.drew) (Below.refl w9.heap.size w9).drew))
  have hS9 : KyAt w9.drew g1 (plS r1) (keyB h C r1) ∧ KyAt w9.drew g2 (plS r2) (keyB h C r2) := ⟨k1.block rfl, k2.block rfl⟩
  refine wp_region_held_drew (S := (fun wx => KyAt wx g1 (plS r1) (keyB h C r1) ∧ KyAt wx g2 (plS r2) (keyB h C r2))) (by kernel_rfl) hS9 (fun hS0 => ?_)
  refine takeG (some 39) (i := 0) (v := ?vfu0x1) rfl rfl (by kernel_rfl) (by kernel_rfl) (by kernel_rfl) (fun _ _ _ h => h) (Or.inl ⟨by rfl, ?hfu0x1⟩) hS0 ?rfu0x1
  case hfu0x1 => (intro w _; go_simp; try (with_reducible rfl))
  try simp only [Act.put, List.setIfInBounds_toArray, List.set_cons_zero, List.set_cons_succ]
  refine takeG (some 40) (i := 1) (v := ?vfu1x2) rfl rfl (by kernel_rfl) (by kernel_rfl) (by kernel_rfl) (fun _ _ _ h => h) (Or.inl ⟨by rfl, ?hfu1x2⟩) hS0 ?rfu1x2
  case hfu1x2 => (intro w hz; obtain ⟨⟨z0, z1, z2, z3⟩, ⟨y0, y1, y2, y3⟩⟩ := hz; go_simp; try (with_reducible rfl))
  try simp only [Act.put, List.setIfInBounds_toArray, List.set_cons_zero, List.set_cons_succ]
  refine takeG (some 41) (i := 2) (v := ?vfu2x3) rfl rfl (by kernel_rfl) (by kernel_rfl) (by kernel_rfl) (fun _ _ _ h => h) (Or.inl ⟨by rfl, ?hfu2x3⟩) hS0 ?rfu2x3
  case hfu2x3 => (intro w _; go_simp; try (with_reducible rfl))
  try simp only [Act.put, List.setIfInBounds_toArray, List.set_cons_zero, List.set_cons_succ]
  refine wpAnyH_ready (rs := [3]) (by kernel_rfl) (by simp) ?_
  refine AllReadyH.cons rfl (fun K hK => ?_) AllReadyH.nil
  go_simp
  refine (CP1.out).mono ?_
  rintro e yq ⟨rfl, rfl⟩
  show K _ _
  refine hK.out _ _ hS9 (fun _ => ?_)
  clear hK K
  refine takeG (some 43) (i := 4) (v := ?vfu4x5) rfl rfl (by kernel_rfl) (by kernel_rfl) (by kernel_rfl) (fun _ _ _ h => h) (Or.inl ⟨by rfl, ?hfu4x5⟩) hS0 ?rfu4x5
  case hfu4x5 => (intro w _; go_simp; try (with_reducible rfl))
  try simp only [Act.put, List.setIfInBounds_toArray, List.set_cons_zero, List.set_cons_succ]
  refine takeG (some 44) (i := 5) (v := ?vfu5x6) rfl rfl (by kernel_rfl) (by kernel_rfl) (by kernel_rfl) (fun _ _ _ h => h) (Or.inl ⟨by rfl, ?hfu5x6⟩) hS0 ?rfu5x6
  case hfu5x6 => (intro w _; go_simp; try (with_reducible rfl))
  try simp only [Act.put, List.setIfInBounds_toArray, List.set_cons_zero, List.set_cons_succ]
  refine takeG (some 45) (i := 6) (v := ?vfu6x7) rfl rfl (by kernel_rfl) (by kernel_rfl) (by kernel_rfl) (fun _ _ _ h => h) (Or.inl ⟨by rfl, ?hfu6x7⟩) hS0 ?rfu6x7
  case hfu6x7 => (intro w _; go_simp; try (with_reducible rfl))
  try simp only [Act.put, List.setIfInBounds_toArray, List.set_cons_zero, List.set_cons_succ]
  refine takeG (some 46) (i := 7) (v := ?vfu7x8) rfl rfl (by kernel_rfl) (by kernel_rfl) (by kernel_rfl) (fun _ _ _ h => h) (Or.inl ⟨by rfl, ?hfu7x8⟩) hS0 ?rfu7x8
  case hfu7x8 => (intro w hz; obtain ⟨⟨z0, z1, z2, z3⟩, ⟨y0, y1, y2, y3⟩⟩ := hz; go_simp; try (with_reducible rfl))
  try simp only [Act.put, List.setIfInBounds_toArray, List.set_cons_zero, List.set_cons_succ]
  refine takeG (some 47) (i := 8) (v := ?vfu8x9) rfl rfl (by kernel_rfl) (by kernel_rfl) (by kernel_rfl) (fun _ _ _ h => h) (Or.inl ⟨by rfl, ?hfu8x9⟩) hS0 ?rfu8x9
  case hfu8x9 => (intro w _; go_simp; try (with_reducible rfl))
  try simp only [Act.put, List.setIfInBounds_toArray, List.set_cons_zero, List.set_cons_succ]
  refine wpAnyH_ready (rs := [9]) (by kernel_rfl) (by simp) ?_
  refine AllReadyH.cons rfl (fun K hK => ?_) AllReadyH.nil
  go_simp
  refine (CP2.out).mono ?_
  rintro e yq ⟨rfl, rfl⟩
  show K _ _
  refine hK.out _ _ hS9 (fun _ => ?_)
  clear hK K
  refine takeG (some 49) (i := 10) (v := ?vfu10x11) rfl rfl (by kernel_rfl) (by kernel_rfl) (by kernel_rfl) (fun _ _ _ h => h) (Or.inl ⟨by rfl, ?hfu10x11⟩) hS0 ?rfu10x11
  case hfu10x11 => (intro w _; go_simp; try (with_reducible rfl))
  try simp only [Act.put, List.setIfInBounds_toArray, List.set_cons_zero, List.set_cons_succ]
  refine takeG (some 50) (i := 11) (v := ?vfu11x12) rfl rfl (by kernel_rfl) (by kernel_rfl) (by kernel_rfl) (fun _ _ _ h => h) (Or.inl ⟨by rfl, ?hfu11x12⟩) hS0 ?rfu11x12
  case hfu11x12 => (intro w _; go_simp; try (with_reducible rfl))
  try simp only [Act.put, List.setIfInBounds_toArray, List.set_cons_zero, List.set_cons_succ]
  refine wpAnyH_done (by kernel_rfl) ?_ _
  have K1 := Lib.hid (k1.block (w' := w9.drew) rfl)
  have K2 := Lib.hid (k2.block (w' := w9.drew) rfl)
  have TD := Lib.hid (T.below (Below.refl w9.heap.size w9).drew)
  have hbd := h59.drew
  clear T hS9 CP1 CP2 h59 k1 k2
  generalize w9.drew = w10 at *
  obtain ⟨k10, k11, _, _⟩ := K1.out
  obtain ⟨k20, k21, _, _⟩ := K2.out
  have hE := neqK (plS r1) (plS r2) (keyB h C r1) (keyB h C r2)
  have hG := guardK
  by_cases hkey : plS r1 = plS r2 ∧ keyB h C r1 = keyB h C r2
  rotate_left
  · rw [decide_eq_true hkey] at hE
    have hz := below_then HB5.out hbd
    clear TD hkey
    go_wp2_with fail
    go_ret
    exact ⟨rfl, hz⟩
  rw [decide_eq_false (fun q => q hkey)] at hE
  have HSM : Hid (Sim h C r1 r2) := Lib.hid (by
    have g1 := TD.out.p1.rowG HC.out
    have g2 := TD.out.p2.rowG HC.out
    have l1 : r1.length ≤ 64 := plrow_len g1.nd TD.out.p1.lt.1 h64
    have l2 : r2.length ≤ 64 := plrow_len g2.nd TD.out.p2.lt.1 h64
    exact sim_of_key g1.lt g2.lt l1 l2 g1.nd g2.nd hkey.1 hkey.2)
  have T := TD.out
  obtain ⟨n0, n1, n2, n3, n4, n5⟩ := HX5.out.below hbd
  clear hkey TD
  go_wp2_with fail
  clear k10 k11 k20 k21 K1 K2 n0 n1 n2 n3 n4 n5 hE hG
  go_loopw [57] (fun iv wr => ∃ (j : Nat) (r1 r2 : List Nat) (vr1 vr2 : Value) (aF1 sF1 aF2 sF2 : Nat → Nat), j ≤ ns.length ∧ iv = .int .i64 j ∧ Two w5 B (B + 2) h C N1 S1 r1 vb1 vr1 aF1 sF1 N2 S2 r2 vb2 vr2 aF2 sF2 wr ∧ Hid (Sim h C r1 r2) ∧ Below w5.heap.size w5 wr) (fun iv _ => ns.length - (intOf iv).toNat)
  case atStart => exact ⟨0, _, _, _, _, _, _, _, _, Nat.zero_le _, rfl, T, HSM, hbd⟩
  case round =>
    clear T HSM hbd
    obtain ⟨j, r1, r2, vr1, vr2, aF1, sF1, aF2, sF2, hj, rfl, T, HSM, hb⟩ := hrel
    by_cases hlt : j < ns.length
    · have hji : (j : Int) < (ns.length : Int) := by omega
      have hN := HNY.out _ (below_then HB5.out hb)
      obtain ⟨g, o, hao, e0⟩ := hN.at hlt
      cases hao
      generalize ns[j] = i at *
      have HTS : Hid (tryI h C r1 i = tryI h C r2 i) := Lib.hid (by
        unfold tryI
        rw [HSM.out.try HC.out (T.p1.rowG HC.out) (T.p2.rowG HC.out) i.toNat])
      clear hN
      cases htr : tryI h C r1 i with
      | false =>
        have CT1 := Lib.hid (xtry_no T.p1 HC.out HCL.out i htr)
        have htr2 : tryI h C r2 i = false := by rw [← HTS.out]; exact htr
        have CT2 := Lib.hid (fun wx (hx : Below wr.heap.size wr wx) => xtry_no (T.p2.below hx) HC.out HCL.out i htr2)
        have HP := Lib.hid (fun wx (hx : Below wr.heap.size wr wx) => And.intro (T.below hx) (hb.trans (hx.mono hb.size)))
        clear T htr htr2 hb
        go_wp2_with fail
        refine CT1.out.mono ?_
        rintro e w11 ⟨rfl, h11⟩
        go_wp2_with fail
        refine (CT2.out _ h11).mono ?_
        rintro e w12 ⟨rfl, h12⟩
        obtain ⟨T, hb⟩ := HP.out _ (below_then h11 h12)
        clear e0 CT1 CT2 HP h11 h12
        go_wp2_with fail
        go_roundw
        case rel => exact ⟨j + 1, _, _, _, _, _, _, _, _, by omega, by go_num, T, HSM, hb⟩
        case measure => simp [intOf]; omega
      | true =>
        have htr2 : tryI h C r2 i = true := by rw [← HTS.out]; exact htr
        unfold tryI at htr htr2
        rw [Bool.and_eq_true, decide_eq_true_eq] at htr htr2
        obtain ⟨n, rfl⟩ := Int.eq_ofNat_of_zero_le htr.1
        rw [Int.toNat_natCast] at htr htr2
        have CT1 := Lib.hid (xtry_yes T.p1 HC.out HCL.out n htr.2)
        have HT2 := Lib.hid htr2.2
        have HSM2 := Lib.hid (HSM.out.cons (T.p1.rowG HC.out).lt n)
        have HG1 := Lib.hid (fun w' vr' (k6 : PlStep S1 vr1 vr' wr w') => T.p1.grow1 hb k6)
        clear htr htr2 HTS
        go_wp2_with fail
        refine CT1.out.mono ?_
        rintro e w11 ⟨rfl, vr3, aF3, sF3, p, k⟩
        have hb := HG1.out _ _ k
        have T := T.step HOT.out.1 HOT.out.2 p k
        have CT2 := Lib.hid (xtry_yes T.p2 HC.out HCL.out n HT2.out)
        have HG2 := Lib.hid (fun w' vr' (k6 : PlStep S2 vr2 vr' w11 w') => T.p2.grow1 hb k6)
        clear p k CT1 HG1
        go_wp2_with fail
        refine CT2.out.mono ?_
        rintro e w12 ⟨rfl, vr4, aF4, sF4, p, k⟩
        have hb := HG2.out _ _ k
        have T := (T.symm.step HOT.out.1 HOT.out.2 p k).symm
        clear e0 p k CT2 HG2
        go_wp2_with fail
        go_roundw
        case rel => exact ⟨j + 1, _, _, _, _, _, _, _, _, by omega, by go_num, T, HSM2, hb⟩
        case measure => simp [intOf]; omega
    · have hz := below_then HB5.out hb
      clear T hb
      go_wp2_with fail
      go_ret
      exact ⟨rfl, hz⟩
end Go.Proofs.YtecpeegbfeijaaaDoor
