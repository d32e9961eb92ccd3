/- Walks and plain facts that the proof of the statement WholeNames uses, joined: RenH RenI RenJ Tx0 CanJ VecA VecB VecC VecD TblM VecE VecF. Conditions: each theorem's own. -/
import Derived.Test.YtnhkjehfmbfmmaaGreatDoorShelfS
import Derived.Maps.OwnSet
import Derived.Deep.MidRow
import Derived.ChangeKeysEq
import Derived.Test.YtnhkjehfmbfmmaaGreatDoorPWholeNames0
import Derived.Test.YtnhkjehfmbfmmaaGreatDoorPWholeNames2
import Derived.Test.YtnhkjehfmbfmmaaGreatDoorPWholeNames3
import Derived.Test.YtnhkjehfmbfmmaaGreatDoorPWholeNames6
import Derived.Test.YtnhkjehfmbfmmaaGreatDoorPWholeNames7
import Derived.Test.YtnhkjehfmbfmmaaGreatDoorPWholeNames8
import Derived.Test.YtnhkjehfmbfmmaaGreatDoorPWholeNames9
namespace Go.Proofs.YtnhkjehfmbfmmaaGreatDoor
set_option maxHeartbeats 32000000
set_option maxRecDepth 100000
set_option linter.unusedSimpArgs false
set_option linter.unusedVariables false
open Lib (hid)
section
open Go.RowKit
set_option linter.unusedSimpArgs false in
theorem rrenamed_any (ts tb tc : Int) (vo : Value) (l : List OpV) (vK vS vV vT vO : Value) (FK FS FV FT : Int → Option Int) (w : World) (hN : NmA w vK vS vV vT FK FS FV FT) (hQ : ∃ a n c, vO = .slice a n c) (ho : Ops w vo l) (hl : l.length ≤ 1024)
  (is : InI ts) (ib : InI tb) (ic : InI tc) (il : ∀ o ∈ l, InI o.key ∧ InI o.val) :
  Calls Tryz.prog 93 #[.agg #[.int .i64 ts, .int .i64 tb, .int .i64 tc, vo], .agg #[vK, vS, vV, vT, vO]] w fun e w' => (∃ u, e = .returned (.agg #[.int .i64 (nmF FS ts), .int .i64 (nmF FT tb), .int .i64 (nmF FT tc), u]) ∧ Own w' w.heap.size u (l.map (renO (nmF FK) (nmF FV)))) ∧ Below w.heap.size w w' := by
 obtain ⟨i1, hj, hy0, hy1, hy2⟩ := info_parts infoOp
 have HN := hid (fun wx (hx : Below w.heap.size w wx) => hN.below hx)
 have HO := hid (fun wx (hx : Below w.heap.size w wx) => ho.below hx)
 have CN1 := hid (fun wx (hx : Below w.heap.size w wx) => rname_any vS FS ts wx (hN.s.below hx) is)
 have CN2 := hid (fun wx (hx : Below w.heap.size w wx) => rname_any vT FT tb wx (hN.t.below hx) ib)
 have CN3 := hid (fun wx (hx : Below w.heap.size w wx) => rname_any vT FT tc wx (hN.t.below hx) ic)
 have CK := hid (fun x wx (hx : Below w.heap.size w wx) (i : InI x) => rname_any vK FK x wx (hN.k.below hx) i)
 have CV := hid (fun x wx (hx : Below w.heap.size w wx) (i : InI x) => rname_any vV FV x wx (hN.v.below hx) i)
 obtain ⟨mK, rfl⟩ := hN.k.form
 obtain ⟨mS, rfl⟩ := hN.s.form
 obtain ⟨mV, rfl⟩ := hN.v.form
 obtain ⟨mT, rfl⟩ := hN.t.form
 obtain ⟨qa, qn, qc, rfl⟩ := hQ
 obtain ⟨oo, oc, rfl, _⟩ := ho.form
 have HIL := hid il
 obtain ⟨fs, hfs⟩ : ∃ z, nmF FS ts = z := ⟨_, rfl⟩
 obtain ⟨fb, hfb⟩ : ∃ z, nmF FT tb = z := ⟨_, rfl⟩
 obtain ⟨fc, hfc⟩ : ∃ z, nmF FT tc = z := ⟨_, rfl⟩
 rw [hfs] at CN1 ⊢
 rw [hfb] at CN2 ⊢
 rw [hfc] at CN3 ⊢
 clear hN ho is ib ic il hfs hfb hfc HN
 obtain ⟨p3, hp3⟩ : ∃ p, w.heap.size + 1 = p := ⟨_, rfl⟩
 obtain ⟨p4, hp4⟩ : ∃ p, w.heap.size + 1 + 1 = p := ⟨_, rfl⟩
 have hs2 : (w.alloc (.cells #[.int .i64 ts, .int .i64 tb, .int .i64 tc, .slice oo l.length oc] 83)).heap.size = w.heap.size + 1 := by simp
 have hs3 : ((w.alloc (.cells #[.int .i64 ts, .int .i64 tb, .int .i64 tc, .slice oo l.length oc] 83)).alloc (.cells #[.map mK, .map mS, .map mV, .map mT, .slice qa qn qc] 34)).heap.size = w.heap.size + 1 + 1 := by simp
 have hs4 : (((w.alloc (.cells #[.int .i64 ts, .int .i64 tb, .int .i64 tc, .slice oo l.length oc] 83)).alloc (.cells #[.map mK, .map mS, .map mV, .map mT, .slice qa qn qc] 34)).alloc (.cells #[.int .i64 0, .int .i64 0, .int .i64 0, .slice none 0 0] 83)).heap.size = w.heap.size + 1 + 1 + 1 := by simp
 have hB2 : BoxN (((w.alloc (.cells #[.int .i64 ts, .int .i64 tb, .int .i64 tc, .slice oo l.length oc] 83)).alloc (.cells #[.map mK, .map mS, .map mV, .map mT, .slice qa qn qc] 34)).alloc (.cells #[.int .i64 0, .int .i64 0, .int .i64 0, .slice none 0 0] 83)) w.heap.size 83 #[.int .i64 ts, .int .i64 tb, .int .i64 tc, .slice oo l.length oc] := by
  have q := ((BoxN.new w 83 #[.int .i64 ts, .int .i64 tb, .int .i64 tc, .slice oo l.length oc]).below (box_below _ (.cells #[.map mK, .map mS, .map mV, .map mT, .slice qa qn qc] 34))).below (box_below _ (.cells #[.int .i64 0, .int .i64 0, .int .i64 0, .slice none 0 0] 83)); exact q
 have hB3 : BoxN (((w.alloc (.cells #[.int .i64 ts, .int .i64 tb, .int .i64 tc, .slice oo l.length oc] 83)).alloc (.cells #[.map mK, .map mS, .map mV, .map mT, .slice qa qn qc] 34)).alloc (.cells #[.int .i64 0, .int .i64 0, .int .i64 0, .slice none 0 0] 83)) p3 34 #[.map mK, .map mS, .map mV, .map mT, .slice qa qn qc] := by
  have q := (BoxN.new (w.alloc (.cells #[.int .i64 ts, .int .i64 tb, .int .i64 tc, .slice oo l.length oc] 83)) 34 #[.map mK, .map mS, .map mV, .map mT, .slice qa qn qc]).below (box_below _ (.cells #[.int .i64 0, .int .i64 0, .int .i64 0, .slice none 0 0] 83)); rwa [hs2, hp3] at q
 have hB4 : BoxN (((w.alloc (.cells #[.int .i64 ts, .int .i64 tb, .int .i64 tc, .slice oo l.length oc] 83)).alloc (.cells #[.map mK, .map mS, .map mV, .map mT, .slice qa qn qc] 34)).alloc (.cells #[.int .i64 0, .int .i64 0, .int .i64 0, .slice none 0 0] 83)) p4 83 #[.int .i64 0, .int .i64 0, .int .i64 0, .slice none 0 0] := by
  have q := BoxN.new ((w.alloc (.cells #[.int .i64 ts, .int .i64 tb, .int .i64 tc, .slice oo l.length oc] 83)).alloc (.cells #[.map mK, .map mS, .map mV, .map mT, .slice qa qn qc] 34)) 83 #[.int .i64 0, .int .i64 0, .int .i64 0, .slice none 0 0]; rwa [hs3, hp4] at q
 have hb1 := (((Below.refl w.heap.size w).alloc (Nat.le_refl _) (.cells #[.int .i64 ts, .int .i64 tb, .int .i64 tc, .slice oo l.length oc] 83)).alloc (by simp) (.cells #[.map mK, .map mS, .map mV, .map mT, .slice qa qn qc] 34)).alloc (by simp; omega) (.cells #[.int .i64 0, .int .i64 0, .int .i64 0, .slice none 0 0] 83)
 have HP3 := hid hp3
 have HP4 := hid hp4
 have hq3 : w.heap.size < p3 := by omega
 have hq4 : p3 < p4 := by omega
 have hq5 : p4 < (((w.alloc (.cells #[.int .i64 ts, .int .i64 tb, .int .i64 tc, .slice oo l.length oc] 83)).alloc (.cells #[.map mK, .map mS, .map mV, .map mT, .slice qa qn qc] 34)).alloc (.cells #[.int .i64 0, .int .i64 0, .int .i64 0, .slice none 0 0] 83)).heap.size := by omega
 clear hs2 hs3 hs4 hp3 hp4
 go_enter Tryz.func93, Tryz.ntmps93
 go_upto_region 1 with fail
 generalize ((w.alloc (.cells #[.int .i64 ts, .int .i64 tb, .int .i64 tc, .slice oo l.length oc] 83)).alloc (.cells #[.map mK, .map mS, .map mV, .map mT, .slice qa qn qc] 34)).alloc (.cells #[.int .i64 0, .int .i64 0, .int .i64 0, .slice none 0 0] 83) = w1 at *
 rw [HP4.out, HP3.out]
 have CN1 := hid (fun wx (hx : Below w1.heap.size w1 wx) => CN1.out wx (below_then hb1 hx))
 have CN2 := hid (fun wx (hx : Below w1.heap.size w1 wx) => CN2.out wx (below_then hb1 hx))
 have CN3 := hid (fun wx (hx : Below w1.heap.size w1 wx) => CN3.out wx (below_then hb1 hx))
 have HB1 := hid hb1
 have HB4 := hid hB4
 clear hb1 hB4
 go_cut [5] from 5 to 23 (fun u5 wx => ∃ p : Nat, u5 = .pointer (some ⟨p, 0, none⟩) ∧ Hid (w1.heap.size ≤ p) ∧ Hid (BoxN wx p 83 #[.int .i64 fs, .int .i64 fb, .int .i64 fc, .slice none 0 0]) ∧ Hid (Below w1.heap.size w1 wx))
 case first =>
  have kd := (Below.refl w1.heap.size w1).drew
  have hwd : w1.drew.heap.size = w1.heap.size := rfl
  have hB2 := hB2.below kd
  have hB3 := hB3.below kd
  refine wp_region_held_drew (S := fun wx => BoxN wx w.heap.size 83 #[.int .i64 ts, .int .i64 tb, .int .i64 tc, .slice oo l.length oc] ∧ BoxN wx p3 34 #[.map mK, .map mS, .map mV, .map mT, .slice qa qn qc]) (by kernel_rfl) ⟨hB2, hB3⟩ (fun hS0 => ?_)
  generalize w1.drew = wd at *
  refine tG (some 8) 0 ?vha0x1 rfl rfl (Or.inl ⟨by rfl, ?hha0x1⟩) hS0 ?rha0x1
  case hha0x1 => (intro w hw; obtain ⟨m1, m2⟩ := hw; have x0 := m1.cell (i := 0) rfl; have x1 := m1.cell (i := 1) rfl; have x2 := m1.cell (i := 2) rfl; have y0 := m2.cell (i := 0) rfl; have y1 := m2.cell (i := 1) rfl; have y2 := m2.cell (i := 2) rfl; have y3 := m2.cell (i := 3) rfl; go_simp; try (with_reducible rfl))
  try simp only [Act.put, zA, zB, zC]
  refine tG (some 9) 1 ?vha1x2 rfl rfl (Or.inl ⟨by rfl, ?hha1x2⟩) hS0 ?rha1x2
  case hha1x2 => (intro w hw; obtain ⟨m1, m2⟩ := hw; have x0 := m1.cell (i := 0) rfl; have x1 := m1.cell (i := 1) rfl; have x2 := m1.cell (i := 2) rfl; have y0 := m2.cell (i := 0) rfl; have y1 := m2.cell (i := 1) rfl; have y2 := m2.cell (i := 2) rfl; have y3 := m2.cell (i := 3) rfl; go_simp; try (with_reducible rfl))
  try simp only [Act.put, zA, zB, zC]
  refine tG (some 10) 2 ?vha2x3 rfl rfl (Or.inl ⟨by rfl, ?hha2x3⟩) hS0 ?rha2x3
  case hha2x3 => (intro w hw; obtain ⟨m1, m2⟩ := hw; have x0 := m1.cell (i := 0) rfl; have x1 := m1.cell (i := 1) rfl; have x2 := m1.cell (i := 2) rfl; have y0 := m2.cell (i := 0) rfl; have y1 := m2.cell (i := 1) rfl; have y2 := m2.cell (i := 2) rfl; have y3 := m2.cell (i := 3) rfl; go_simp; try (with_reducible rfl))
  try simp only [Act.put, zA, zB, zC]
  refine tG (some 11) 3 ?vha3x4 rfl rfl (Or.inl ⟨by rfl, ?hha3x4⟩) hS0 ?rha3x4
  case hha3x4 => (intro w hw; obtain ⟨m1, m2⟩ := hw; have x0 := m1.cell (i := 0) rfl; have x1 := m1.cell (i := 1) rfl; have x2 := m1.cell (i := 2) rfl; have y0 := m2.cell (i := 0) rfl; have y1 := m2.cell (i := 1) rfl; have y2 := m2.cell (i := 2) rfl; have y3 := m2.cell (i := 3) rfl; go_simp; try (with_reducible rfl))
  try simp only [Act.put, zA, zB, zC]
  refine tG (some 13) 5 ?vha5x5 rfl rfl (Or.inl ⟨by rfl, ?hha5x5⟩) hS0 ?rha5x5
  case hha5x5 => (intro w hw; obtain ⟨m1, m2⟩ := hw; have x0 := m1.cell (i := 0) rfl; have x1 := m1.cell (i := 1) rfl; have x2 := m1.cell (i := 2) rfl; have y0 := m2.cell (i := 0) rfl; have y1 := m2.cell (i := 1) rfl; have y2 := m2.cell (i := 2) rfl; have y3 := m2.cell (i := 3) rfl; go_simp; try (with_reducible rfl))
  try simp only [Act.put, zA, zB, zC]
  refine tG (some 14) 6 ?vha6x6 rfl rfl (Or.inl ⟨by rfl, ?hha6x6⟩) hS0 ?rha6x6
  case hha6x6 => (intro w hw; obtain ⟨m1, m2⟩ := hw; have x0 := m1.cell (i := 0) rfl; have x1 := m1.cell (i := 1) rfl; have x2 := m1.cell (i := 2) rfl; have y0 := m2.cell (i := 0) rfl; have y1 := m2.cell (i := 1) rfl; have y2 := m2.cell (i := 2) rfl; have y3 := m2.cell (i := 3) rfl; go_simp; try (with_reducible rfl))
  try simp only [Act.put, zA, zB, zC]
  refine tG (some 15) 7 ?vha7x7 rfl rfl (Or.inl ⟨by rfl, ?hha7x7⟩) hS0 ?rha7x7
  case hha7x7 => (intro w hw; obtain ⟨m1, m2⟩ := hw; have x0 := m1.cell (i := 0) rfl; have x1 := m1.cell (i := 1) rfl; have x2 := m1.cell (i := 2) rfl; have y0 := m2.cell (i := 0) rfl; have y1 := m2.cell (i := 1) rfl; have y2 := m2.cell (i := 2) rfl; have y3 := m2.cell (i := 3) rfl; go_simp; try (with_reducible rfl))
  try simp only [Act.put, zA, zB, zC]
  refine tG (some 16) 8 ?vha8x8 rfl rfl (Or.inl ⟨by rfl, ?hha8x8⟩) hS0 ?rha8x8
  case hha8x8 => (intro w hw; obtain ⟨m1, m2⟩ := hw; have x0 := m1.cell (i := 0) rfl; have x1 := m1.cell (i := 1) rfl; have x2 := m1.cell (i := 2) rfl; have y0 := m2.cell (i := 0) rfl; have y1 := m2.cell (i := 1) rfl; have y2 := m2.cell (i := 2) rfl; have y3 := m2.cell (i := 3) rfl; go_simp; try (with_reducible rfl))
  try simp only [Act.put, zA, zB, zC]
  refine tG (some 18) 10 ?vha10x9 rfl rfl (Or.inl ⟨by rfl, ?hha10x9⟩) hS0 ?rha10x9
  case hha10x9 => (intro w hw; obtain ⟨m1, m2⟩ := hw; have x0 := m1.cell (i := 0) rfl; have x1 := m1.cell (i := 1) rfl; have x2 := m1.cell (i := 2) rfl; have y0 := m2.cell (i := 0) rfl; have y1 := m2.cell (i := 1) rfl; have y2 := m2.cell (i := 2) rfl; have y3 := m2.cell (i := 3) rfl; go_simp; try (with_reducible rfl))
  try simp only [Act.put, zA, zB, zC]
  refine tG (some 19) 11 ?vha11x10 rfl rfl (Or.inl ⟨by rfl, ?hha11x10⟩) hS0 ?rha11x10
  case hha11x10 => (intro w hw; obtain ⟨m1, m2⟩ := hw; have x0 := m1.cell (i := 0) rfl; have x1 := m1.cell (i := 1) rfl; have x2 := m1.cell (i := 2) rfl; have y0 := m2.cell (i := 0) rfl; have y1 := m2.cell (i := 1) rfl; have y2 := m2.cell (i := 2) rfl; have y3 := m2.cell (i := 3) rfl; go_simp; try (with_reducible rfl))
  try simp only [Act.put, zA, zB, zC]
  refine tG (some 20) 12 ?vha12x11 rfl rfl (Or.inl ⟨by rfl, ?hha12x11⟩) hS0 ?rha12x11
  case hha12x11 => (intro w hw; obtain ⟨m1, m2⟩ := hw; have x0 := m1.cell (i := 0) rfl; have x1 := m1.cell (i := 1) rfl; have x2 := m1.cell (i := 2) rfl; have y0 := m2.cell (i := 0) rfl; have y1 := m2.cell (i := 1) rfl; have y2 := m2.cell (i := 2) rfl; have y3 := m2.cell (i := 3) rfl; go_simp; try (with_reducible rfl))
  try simp only [Act.put, zA, zB, zC]
  refine tG (some 21) 13 ?vha13x12 rfl rfl (Or.inl ⟨by rfl, ?hha13x12⟩) hS0 ?rha13x12
  case hha13x12 => (intro w hw; obtain ⟨m1, m2⟩ := hw; have x0 := m1.cell (i := 0) rfl; have x1 := m1.cell (i := 1) rfl; have x2 := m1.cell (i := 2) rfl; have y0 := m2.cell (i := 0) rfl; have y1 := m2.cell (i := 1) rfl; have y2 := m2.cell (i := 2) rfl; have y3 := m2.cell (i := 3) rfl; go_simp; try (with_reducible rfl))
  try simp only [Act.put, zA, zB, zC]
  refine wpAnyH_ready (rs := [4, 16]) (by kernel_rfl) (by simp) ?_
  refine AllReadyH.cons rfl (fun K hK => ?_) (AllReadyH.cons rfl (fun K hK => ?_) AllReadyH.nil)
  ·
   go_simp
   refine (CN1.out _ kd).mono ?_
   rintro e wq ⟨rfl, rfl⟩
   show K _ _
   refine hK.out _ _ hS0 (fun _ => ?_)
   clear hK K
   refine wpAnyH_ready (rs := [9, 16]) (by kernel_rfl) (by simp) ?_
   refine AllReadyH.cons rfl (fun K hK => ?_) (AllReadyH.cons rfl (fun K hK => ?_) AllReadyH.nil)
   ·
    go_simp
    refine (CN2.out _ kd).mono ?_
    rintro e wq ⟨rfl, rfl⟩
    show K _ _
    refine hK.out _ _ hS0 (fun _ => ?_)
    clear hK K
    refine wpAnyH_ready (rs := [14, 16]) (by kernel_rfl) (by simp) ?_
    refine AllReadyH.cons rfl (fun K hK => ?_) (AllReadyH.cons rfl (fun K hK => ?_) AllReadyH.nil)
    ·
     go_simp
     refine (CN3.out _ kd).mono ?_
     rintro e wq ⟨rfl, rfl⟩
     show K _ _
     refine hK.out _ _ hS0 (fun _ => ?_)
     clear hK K
     refine tG (some 23) 15 ?vha15x16 rfl rfl (Or.inl ⟨by rfl, ?hha15x16⟩) hS0 ?rha15x16
     case hha15x16 => (intro w hw; obtain ⟨m1, m2⟩ := hw; have x0 := m1.cell (i := 0) rfl; have x1 := m1.cell (i := 1) rfl; have x2 := m1.cell (i := 2) rfl; have y0 := m2.cell (i := 0) rfl; have y1 := m2.cell (i := 1) rfl; have y2 := m2.cell (i := 2) rfl; have y3 := m2.cell (i := 3) rfl; go_simp; try (with_reducible rfl))
     try simp only [Act.put, zA, zB, zC]
     refine rD 16 rfl (fun K hK => ?_)
     go_simp
     have kA := kd.alloc kd.size (.cells #[.int .i64 0, .int .i64 0, .int .i64 0, .slice none 0 0] 83)
     have zA : BoxN (wd.alloc (.cells #[.int .i64 0, .int .i64 0, .int .i64 0, .slice none 0 0] 83)) w1.heap.size 83 #[.int .i64 0, .int .i64 0, .int .i64 0, .slice none 0 0] := by have q := BoxN.new wd 83 #[.int .i64 0, .int .i64 0, .int .i64 0, .slice none 0 0]; rwa [hwd] at q
     have sA := And.intro (hS0.1.below (box_below wd (.cells #[.int .i64 0, .int .i64 0, .int .i64 0, .slice none 0 0] 83))) (hS0.2.below (box_below wd (.cells #[.int .i64 0, .int .i64 0, .int .i64 0, .slice none 0 0] 83)))
     show K _ _
     refine hK.out _ _ sA (fun _ => ?_)
     clear hK K
     refine rD 17 rfl (fun K hK => ?_)
     rw [if_pos (by rfl)]
     refine wp_store_row 83 _ _ rfl w1.heap.size #[.int .i64 fs, .int .i64 fb, .int .i64 fc, .slice none 0 0] rfl rfl _ _ zA infoTxnA rfl (by simp [Value.oneCell']) ?_
     have sB := And.intro ((setRow_other (wd.alloc (.cells #[.int .i64 0, .int .i64 0, .int .i64 0, .slice none 0 0] 83)) w1.heap.size w.heap.size #[.int .i64 fs, .int .i64 fb, .int .i64 fc, .slice none 0 0] (by omega)).trans sA.1) ((setRow_other (wd.alloc (.cells #[.int .i64 0, .int .i64 0, .int .i64 0, .slice none 0 0] 83)) w1.heap.size p3 #[.int .i64 fs, .int .i64 fb, .int .i64 fc, .slice none 0 0] (by omega)).trans sA.2)
     refine hK.out _ _ sB (fun _ => ?_)
     clear hK K
     refine wpAnyH_done (by kernel_rfl) ?_ _
     try simp only [Act.put]
     go_wp2_with fail
     go_meet
     exact ⟨w1.heap.size, rfl, hid (Nat.le_refl _), hid (setRow_heap _ _ _ _ _ _ zA), hid (below_setRow kA (Nat.le_refl _) #[.int .i64 fs, .int .i64 fb, .int .i64 fc, .slice none 0 0])⟩
    ·
     go_simp
     have kA := kd.alloc kd.size (.cells #[.int .i64 0, .int .i64 0, .int .i64 0, .slice none 0 0] 83)
     have zA : BoxN (wd.alloc (.cells #[.int .i64 0, .int .i64 0, .int .i64 0, .slice none 0 0] 83)) w1.heap.size 83 #[.int .i64 0, .int .i64 0, .int .i64 0, .slice none 0 0] := by have q := BoxN.new wd 83 #[.int .i64 0, .int .i64 0, .int .i64 0, .slice none 0 0]; rwa [hwd] at q
     have sA := And.intro (hS0.1.below (box_below wd (.cells #[.int .i64 0, .int .i64 0, .int .i64 0, .slice none 0 0] 83))) (hS0.2.below (box_below wd (.cells #[.int .i64 0, .int .i64 0, .int .i64 0, .slice none 0 0] 83)))
     show K _ _
     refine hK.out _ _ sA (fun _ => ?_)
     clear hK K
     refine rD 14 rfl (fun K hK => ?_)
     go_simp
     refine (CN3.out _ kA).mono ?_
     rintro e wq ⟨rfl, rfl⟩
     show K _ _
     refine hK.out _ _ sA (fun _ => ?_)
     clear hK K
     refine tG (some 23) 15 ?vha15x21 rfl rfl (Or.inl ⟨by rfl, ?hha15x21⟩) sA ?rha15x21
     case hha15x21 => (intro w hw; obtain ⟨m1, m2⟩ := hw; have x0 := m1.cell (i := 0) rfl; have x1 := m1.cell (i := 1) rfl; have x2 := m1.cell (i := 2) rfl; have y0 := m2.cell (i := 0) rfl; have y1 := m2.cell (i := 1) rfl; have y2 := m2.cell (i := 2) rfl; have y3 := m2.cell (i := 3) rfl; go_simp; try (with_reducible rfl))
     try simp only [Act.put, zA, zB, zC]
     refine rD 17 rfl (fun K hK => ?_)
     rw [if_pos (by rfl)]
     refine wp_store_row 83 _ _ rfl w1.heap.size #[.int .i64 fs, .int .i64 fb, .int .i64 fc, .slice none 0 0] rfl rfl _ _ zA infoTxnA rfl (by simp [Value.oneCell']) ?_
     have sB := And.intro ((setRow_other (wd.alloc (.cells #[.int .i64 0, .int .i64 0, .int .i64 0, .slice none 0 0] 83)) w1.heap.size w.heap.size #[.int .i64 fs, .int .i64 fb, .int .i64 fc, .slice none 0 0] (by omega)).trans sA.1) ((setRow_other (wd.alloc (.cells #[.int .i64 0, .int .i64 0, .int .i64 0, .slice none 0 0] 83)) w1.heap.size p3 #[.int .i64 fs, .int .i64 fb, .int .i64 fc, .slice none 0 0] (by omega)).trans sA.2)
     refine hK.out _ _ sB (fun _ => ?_)
     clear hK K
     refine wpAnyH_done (by kernel_rfl) ?_ _
     try simp only [Act.put]
     go_wp2_with fail
     go_meet
     exact ⟨w1.heap.size, rfl, hid (Nat.le_refl _), hid (setRow_heap _ _ _ _ _ _ zA), hid (below_setRow kA (Nat.le_refl _) #[.int .i64 fs, .int .i64 fb, .int .i64 fc, .slice none 0 0])⟩
   ·
    go_simp
    have kA := kd.alloc kd.size (.cells #[.int .i64 0, .int .i64 0, .int .i64 0, .slice none 0 0] 83)
    have zA : BoxN (wd.alloc (.cells #[.int .i64 0, .int .i64 0, .int .i64 0, .slice none 0 0] 83)) w1.heap.size 83 #[.int .i64 0, .int .i64 0, .int .i64 0, .slice none 0 0] := by have q := BoxN.new wd 83 #[.int .i64 0, .int .i64 0, .int .i64 0, .slice none 0 0]; rwa [hwd] at q
    have sA := And.intro (hS0.1.below (box_below wd (.cells #[.int .i64 0, .int .i64 0, .int .i64 0, .slice none 0 0] 83))) (hS0.2.below (box_below wd (.cells #[.int .i64 0, .int .i64 0, .int .i64 0, .slice none 0 0] 83)))
    show K _ _
    refine hK.out _ _ sA (fun _ => ?_)
    clear hK K
    refine rD 9 rfl (fun K hK => ?_)
    go_simp
    refine (CN2.out _ kA).mono ?_
    rintro e wq ⟨rfl, rfl⟩
    show K _ _
    refine hK.out _ _ sA (fun _ => ?_)
    clear hK K
    refine rD 14 rfl (fun K hK => ?_)
    go_simp
    refine (CN3.out _ kA).mono ?_
    rintro e wq ⟨rfl, rfl⟩
    show K _ _
    refine hK.out _ _ sA (fun _ => ?_)
    clear hK K
    refine tG (some 23) 15 ?vha15x26 rfl rfl (Or.inl ⟨by rfl, ?hha15x26⟩) sA ?rha15x26
    case hha15x26 => (intro w hw; obtain ⟨m1, m2⟩ := hw; have x0 := m1.cell (i := 0) rfl; have x1 := m1.cell (i := 1) rfl; have x2 := m1.cell (i := 2) rfl; have y0 := m2.cell (i := 0) rfl; have y1 := m2.cell (i := 1) rfl; have y2 := m2.cell (i := 2) rfl; have y3 := m2.cell (i := 3) rfl; go_simp; try (with_reducible rfl))
    try simp only [Act.put, zA, zB, zC]
    refine rD 17 rfl (fun K hK => ?_)
    rw [if_pos (by rfl)]
    refine wp_store_row 83 _ _ rfl w1.heap.size #[.int .i64 fs, .int .i64 fb, .int .i64 fc, .slice none 0 0] rfl rfl _ _ zA infoTxnA rfl (by simp [Value.oneCell']) ?_
    have sB := And.intro ((setRow_other (wd.alloc (.cells #[.int .i64 0, .int .i64 0, .int .i64 0, .slice none 0 0] 83)) w1.heap.size w.heap.size #[.int .i64 fs, .int .i64 fb, .int .i64 fc, .slice none 0 0] (by omega)).trans sA.1) ((setRow_other (wd.alloc (.cells #[.int .i64 0, .int .i64 0, .int .i64 0, .slice none 0 0] 83)) w1.heap.size p3 #[.int .i64 fs, .int .i64 fb, .int .i64 fc, .slice none 0 0] (by omega)).trans sA.2)
    refine hK.out _ _ sB (fun _ => ?_)
    clear hK K
    refine wpAnyH_done (by kernel_rfl) ?_ _
    try simp only [Act.put]
    go_wp2_with fail
    go_meet
    exact ⟨w1.heap.size, rfl, hid (Nat.le_refl _), hid (setRow_heap _ _ _ _ _ _ zA), hid (below_setRow kA (Nat.le_refl _) #[.int .i64 fs, .int .i64 fb, .int .i64 fc, .slice none 0 0])⟩
  ·
   go_simp
   have kA := kd.alloc kd.size (.cells #[.int .i64 0, .int .i64 0, .int .i64 0, .slice none 0 0] 83)
   have zA : BoxN (wd.alloc (.cells #[.int .i64 0, .int .i64 0, .int .i64 0, .slice none 0 0] 83)) w1.heap.size 83 #[.int .i64 0, .int .i64 0, .int .i64 0, .slice none 0 0] := by have q := BoxN.new wd 83 #[.int .i64 0, .int .i64 0, .int .i64 0, .slice none 0 0]; rwa [hwd] at q
   have sA := And.intro (hS0.1.below (box_below wd (.cells #[.int .i64 0, .int .i64 0, .int .i64 0, .slice none 0 0] 83))) (hS0.2.below (box_below wd (.cells #[.int .i64 0, .int .i64 0, .int .i64 0, .slice none 0 0] 83)))
   show K _ _
   refine hK.out _ _ sA (fun _ => ?_)
   clear hK K
   refine rD 4 rfl (fun K hK => ?_)
   go_simp
   refine (CN1.out _ kA).mono ?_
   rintro e wq ⟨rfl, rfl⟩
   show K _ _
   refine hK.out _ _ sA (fun _ => ?_)
   clear hK K
   refine rD 9 rfl (fun K hK => ?_)
   go_simp
   refine (CN2.out _ kA).mono ?_
   rintro e wq ⟨rfl, rfl⟩
   show K _ _
   refine hK.out _ _ sA (fun _ => ?_)
   clear hK K
   refine rD 14 rfl (fun K hK => ?_)
   go_simp
   refine (CN3.out _ kA).mono ?_
   rintro e wq ⟨rfl, rfl⟩
   show K _ _
   refine hK.out _ _ sA (fun _ => ?_)
   clear hK K
   refine tG (some 23) 15 ?vha15x32 rfl rfl (Or.inl ⟨by rfl, ?hha15x32⟩) sA ?rha15x32
   case hha15x32 => (intro w hw; obtain ⟨m1, m2⟩ := hw; have x0 := m1.cell (i := 0) rfl; have x1 := m1.cell (i := 1) rfl; have x2 := m1.cell (i := 2) rfl; have y0 := m2.cell (i := 0) rfl; have y1 := m2.cell (i := 1) rfl; have y2 := m2.cell (i := 2) rfl; have y3 := m2.cell (i := 3) rfl; go_simp; try (with_reducible rfl))
   try simp only [Act.put, zA, zB, zC]
   refine rD 17 rfl (fun K hK => ?_)
   rw [if_pos (by rfl)]
   refine wp_store_row 83 _ _ rfl w1.heap.size #[.int .i64 fs, .int .i64 fb, .int .i64 fc, .slice none 0 0] rfl rfl _ _ zA infoTxnA rfl (by simp [Value.oneCell']) ?_
   have sB := And.intro ((setRow_other (wd.alloc (.cells #[.int .i64 0, .int .i64 0, .int .i64 0, .slice none 0 0] 83)) w1.heap.size w.heap.size #[.int .i64 fs, .int .i64 fb, .int .i64 fc, .slice none 0 0] (by omega)).trans sA.1) ((setRow_other (wd.alloc (.cells #[.int .i64 0, .int .i64 0, .int .i64 0, .slice none 0 0] 83)) w1.heap.size p3 #[.int .i64 fs, .int .i64 fb, .int .i64 fc, .slice none 0 0] (by omega)).trans sA.2)
   refine hK.out _ _ sB (fun _ => ?_)
   clear hK K
   refine wpAnyH_done (by kernel_rfl) ?_ _
   try simp only [Act.put]
   go_wp2_with fail
   go_meet
   exact ⟨w1.heap.size, rfl, hid (Nat.le_refl _), hid (setRow_heap _ _ _ _ _ _ zA), hid (below_setRow kA (Nat.le_refl _) #[.int .i64 fs, .int .i64 fb, .int .i64 fc, .slice none 0 0])⟩
 case rest =>
  obtain ⟨p5, rfl, HP5, HX5, HC⟩ := hcut
  have HX2 := hid (hB2.below HC.out)
  have HX3 := hid (hB3.below HC.out)
  have HX4 := hid (HB4.out.below HC.out)
  have HBD := hid (below_then HB1.out HC.out)
  have g3 := HX2.out.cell (i := 3) rfl
  have hq55 := HP5.out
  clear hB2 hB3 HB4 CN1 CN2 CN3 HC HB1
  go_wp2_with fail
  clear g3
  go_loopw [27] (fun i wr => ∃ (j : Nat) (u : Value), j ≤ l.length ∧ i = .int .i64 (j : Int) ∧ Hid (BoxN wr p5 83 #[.int .i64 fs, .int .i64 fb, .int .i64 fc, u]) ∧ Hid (Own wr w.heap.size u ((l.take j).map (renO (nmF FK) (nmF FV)))) ∧ Hid (BoxN wr w.heap.size 83 #[.int .i64 ts, .int .i64 tb, .int .i64 tc, .slice oo l.length oc]) ∧ Hid (BoxN wr p3 34 #[.map mK, .map mS, .map mV, .map mT, .slice qa qn qc]) ∧ Hid (BoxN wr p4 83 #[.int .i64 0, .int .i64 0, .int .i64 0, .slice none 0 0]) ∧ Hid (Below w.heap.size w wr)) (fun i _ => l.length - (intOf i).toNat)
  case atStart => exact ⟨0, _, by omega, rfl, HX5, hid (Own.nil _ _), HX2, HX3, HX4, HBD⟩
  case round =>
   obtain ⟨j, u, hjl, rfl, HX5, HU, HX2, HX3, HX4, HBD⟩ := hrel
   by_cases hlt : j < l.length
   ·have hji : (j : Int) < (l.length : Int) := by omega
    obtain ⟨g2, o2, hg2, e0, e1, e2⟩ := (HO.out _ HBD.out).at hlt
    cases hg2
    have hx := HIL.out _ (List.getElem_mem hlt)
    have HTK : Hid ((l.take (j + 1)).map (renO (nmF FK) (nmF FV)) = (l.take j).map (renO (nmF FK) (nmF FV)) ++ [renO (nmF FK) (nmF FV) l[j]]) := hid (by rw [List.take_succ_eq_append_getElem hlt, List.map_append]; rfl)
    have HLJ : Hid (((l.take j).map (renO (nmF FK) (nmF FV))).length = j) := hid (by rw [List.length_map, List.length_take]; omega)
    generalize l[j] = x at *
    obtain ⟨xw, xk, xv⟩ := x
    simp only at e0 e1 e2 hx
    have HLT7 : Hid (∀ b, u.ownBlock = some b → b < wr.heap.size) := hid (fun b e => (World.ownsRow.lt HU.out b e).2)
    have hbb := box_below wr (.cells #[.bool xw, .int .i64 xk, .int .i64 xv] 79)
    have HX7 := BoxN.new wr 79 #[.bool xw, .int .i64 xk, .int .i64 xv]
    have hp57 : p5 < wr.heap.size := HX5.out.lt
    have HX5 := HX5.out.below hbb
    have HU := HU.out.below hbb
    have HX2 := HX2.out.below hbb
    have HX3 := HX3.out.below hbb
    have HX4 := HX4.out.below hbb
    have HBD := HBD.out.alloc HBD.out.size (.cells #[.bool xw, .int .i64 xk, .int .i64 xv] 79)
    go_upto_region 5 with fail
    clear e0 e1 e2 hbb
    generalize wr.alloc (.cells #[.bool xw, .int .i64 xk, .int .i64 xv] 79) = w7 at *
    generalize wr.heap.size = p7 at *
    have CN1 := hid (fun wx (hx' : Below w7.heap.size w7 wx) => CK.out xk wx (below_then HBD hx') hx.1)
    have CN2 := hid (fun wx (hx' : Below w7.heap.size w7 wx) => CV.out xv wx (below_then HBD hx') hx.2)
    have HTK : Hid ((l.take (j + 1)).map (renO (nmF FK) (nmF FV)) = (l.take j).map (renO (nmF FK) (nmF FV)) ++ [⟨xw, nmF FK xk, nmF FV xv⟩]) := HTK
    obtain ⟨yk, hyk⟩ : ∃ z, nmF FK xk = z := ⟨_, rfl⟩
    obtain ⟨yv, hyv⟩ : ∃ z, nmF FV xv = z := ⟨_, rfl⟩
    rw [hyk] at CN1 HTK
    rw [hyv] at CN2 HTK
    clear hx hyk hyv
    have kd := (Below.refl w7.heap.size w7).drew
    have hwd : w7.drew.heap.size = w7.heap.size := rfl
    have HN3 : Hid (some p3 ≠ u.ownBlock) := hid (fun e => (owns_no_box HU HX3 (by decide)).elim (fun q => by rw [q] at e; cases e) (fun q => q e.symm))
    have HN2 : Hid (some w.heap.size ≠ u.ownBlock) := hid (fun e => (owns_no_box HU HX2 (by decide)).elim (fun q => by rw [q] at e; cases e) (fun q => q e.symm))
    have HN4 : Hid (some p4 ≠ u.ownBlock) := hid (fun e => (owns_no_box HU HX4 (by decide)).elim (fun q => by rw [q] at e; cases e) (fun q => q e.symm))
    have HN5 : Hid (some p5 ≠ u.ownBlock) := hid (fun e => (owns_no_box HU HX5 (by decide)).elim (fun q => by rw [q] at e; cases e) (fun q => q e.symm))
    have HN7 : Hid (some p7 ≠ u.ownBlock) := hid (fun e => by have := HLT7.out _ e.symm; omega)
    have HUC : Hid (w7.drew.cell? ⟨p5, 3, none⟩ = some u) := hid ((HX5.below kd).cell (i := 3) rfl)
    have hown : w7.drew.ownsRow w.heap.size 79 3 u j (opV ((l.take j).map (renO (nmF FK) (nmF FV)))) := by
     have q := HU.below kd
     unfold Own at q
     rwa [HLJ.out] at q
    have HX7 := hid (HX7.below kd)
    have HX5 := hid (HX5.below kd)
    have HX2 := hid (HX2.below kd)
    have HX3 := hid (HX3.below kd)
    have HX4 := hid (HX4.below kd)
    have HBD := hid HBD.drew
    have hszd := HBD.out.size
    clear HU
    refine wp_region_held_drew (S := fun wx => BoxN wx p3 34 #[.map mK, .map mS, .map mV, .map mT, .slice qa qn qc] ∧ BoxN wx p7 79 #[.bool xw, .int .i64 xk, .int .i64 xv]) (by kernel_rfl) ⟨HX3.out, HX7.out⟩ (fun hS0 => ?_)
    generalize w7.drew = wd at *
    refine tG (some 31) 0 ?vhb0x1 rfl rfl (Or.inl ⟨by rfl, ?hhb0x1⟩) hS0 ?rhb0x1
    case hhb0x1 => (intro w hw; obtain ⟨m1, m2⟩ := hw; have x0 := m1.cell (i := 0) rfl; have x1 := m1.cell (i := 1) rfl; have x2 := m1.cell (i := 2) rfl; have x3 := m1.cell (i := 3) rfl; have y0 := m2.cell (i := 0) rfl; have y1 := m2.cell (i := 1) rfl; have y2 := m2.cell (i := 2) rfl; go_simp; try (with_reducible rfl))
    try simp only [Act.put, zA, zB, zC]
    refine tG (some 33) 2 ?vhb2x2 rfl rfl (Or.inl ⟨by rfl, ?hhb2x2⟩) hS0 ?rhb2x2
    case hhb2x2 => (intro w hw; obtain ⟨m1, m2⟩ := hw; have x0 := m1.cell (i := 0) rfl; have x1 := m1.cell (i := 1) rfl; have x2 := m1.cell (i := 2) rfl; have x3 := m1.cell (i := 3) rfl; have y0 := m2.cell (i := 0) rfl; have y1 := m2.cell (i := 1) rfl; have y2 := m2.cell (i := 2) rfl; go_simp; try (with_reducible rfl))
    try simp only [Act.put, zA, zB, zC]
    refine tG (some 34) 3 ?vhb3x3 rfl rfl (Or.inl ⟨by rfl, ?hhb3x3⟩) hS0 ?rhb3x3
    case hhb3x3 => (intro w hw; obtain ⟨m1, m2⟩ := hw; have x0 := m1.cell (i := 0) rfl; have x1 := m1.cell (i := 1) rfl; have x2 := m1.cell (i := 2) rfl; have x3 := m1.cell (i := 3) rfl; have y0 := m2.cell (i := 0) rfl; have y1 := m2.cell (i := 1) rfl; have y2 := m2.cell (i := 2) rfl; go_simp; try (with_reducible rfl))
    try simp only [Act.put, zA, zB, zC]
    refine tG (some 35) 4 ?vhb4x4 rfl rfl (Or.inl ⟨by rfl, ?hhb4x4⟩) hS0 ?rhb4x4
    case hhb4x4 => (intro w hw; obtain ⟨m1, m2⟩ := hw; have x0 := m1.cell (i := 0) rfl; have x1 := m1.cell (i := 1) rfl; have x2 := m1.cell (i := 2) rfl; have x3 := m1.cell (i := 3) rfl; have y0 := m2.cell (i := 0) rfl; have y1 := m2.cell (i := 1) rfl; have y2 := m2.cell (i := 2) rfl; go_simp; try (with_reducible rfl))
    try simp only [Act.put, zA, zB, zC]
    refine tG (some 36) 5 ?vhb5x5 rfl rfl (Or.inl ⟨by rfl, ?hhb5x5⟩) hS0 ?rhb5x5
    case hhb5x5 => (intro w hw; obtain ⟨m1, m2⟩ := hw; have x0 := m1.cell (i := 0) rfl; have x1 := m1.cell (i := 1) rfl; have x2 := m1.cell (i := 2) rfl; have x3 := m1.cell (i := 3) rfl; have y0 := m2.cell (i := 0) rfl; have y1 := m2.cell (i := 1) rfl; have y2 := m2.cell (i := 2) rfl; go_simp; try (with_reducible rfl))
    try simp only [Act.put, zA, zB, zC]
    refine tG (some 37) 6 ?vhb6x6 rfl rfl (Or.inl ⟨by rfl, ?hhb6x6⟩) hS0 ?rhb6x6
    case hhb6x6 => (intro w hw; obtain ⟨m1, m2⟩ := hw; have x0 := m1.cell (i := 0) rfl; have x1 := m1.cell (i := 1) rfl; have x2 := m1.cell (i := 2) rfl; have x3 := m1.cell (i := 3) rfl; have y0 := m2.cell (i := 0) rfl; have y1 := m2.cell (i := 1) rfl; have y2 := m2.cell (i := 2) rfl; go_simp; try (with_reducible rfl))
    try simp only [Act.put, zA, zB, zC]
    refine tG (some 38) 7 ?vhb7x7 rfl rfl (Or.inl ⟨by rfl, ?hhb7x7⟩) hS0 ?rhb7x7
    case hhb7x7 => (intro w hw; obtain ⟨m1, m2⟩ := hw; have x0 := m1.cell (i := 0) rfl; have x1 := m1.cell (i := 1) rfl; have x2 := m1.cell (i := 2) rfl; have x3 := m1.cell (i := 3) rfl; have y0 := m2.cell (i := 0) rfl; have y1 := m2.cell (i := 1) rfl; have y2 := m2.cell (i := 2) rfl; go_simp; try (with_reducible rfl))
    try simp only [Act.put, zA, zB, zC]
    refine tG (some 40) 9 ?vhb9x8 rfl rfl (Or.inl ⟨by rfl, ?hhb9x8⟩) hS0 ?rhb9x8
    case hhb9x8 => (intro w hw; obtain ⟨m1, m2⟩ := hw; have x0 := m1.cell (i := 0) rfl; have x1 := m1.cell (i := 1) rfl; have x2 := m1.cell (i := 2) rfl; have x3 := m1.cell (i := 3) rfl; have y0 := m2.cell (i := 0) rfl; have y1 := m2.cell (i := 1) rfl; have y2 := m2.cell (i := 2) rfl; go_simp; try (with_reducible rfl))
    try simp only [Act.put, zA, zB, zC]
    refine tG (some 41) 10 ?vhb10x9 rfl rfl (Or.inl ⟨by rfl, ?hhb10x9⟩) hS0 ?rhb10x9
    case hhb10x9 => (intro w hw; obtain ⟨m1, m2⟩ := hw; have x0 := m1.cell (i := 0) rfl; have x1 := m1.cell (i := 1) rfl; have x2 := m1.cell (i := 2) rfl; have x3 := m1.cell (i := 3) rfl; have y0 := m2.cell (i := 0) rfl; have y1 := m2.cell (i := 1) rfl; have y2 := m2.cell (i := 2) rfl; go_simp; try (with_reducible rfl))
    try simp only [Act.put, zA, zB, zC]
    refine tG (some 42) 11 ?vhb11x10 rfl rfl (Or.inl ⟨by rfl, ?hhb11x10⟩) hS0 ?rhb11x10
    case hhb11x10 => (intro w hw; obtain ⟨m1, m2⟩ := hw; have x0 := m1.cell (i := 0) rfl; have x1 := m1.cell (i := 1) rfl; have x2 := m1.cell (i := 2) rfl; have x3 := m1.cell (i := 3) rfl; have y0 := m2.cell (i := 0) rfl; have y1 := m2.cell (i := 1) rfl; have y2 := m2.cell (i := 2) rfl; go_simp; try (with_reducible rfl))
    try simp only [Act.put, zA, zB, zC]
    refine tG (some 43) 12 ?vhb12x11 rfl rfl (Or.inl ⟨by rfl, ?hhb12x11⟩) hS0 ?rhb12x11
    case hhb12x11 => (intro w hw; obtain ⟨m1, m2⟩ := hw; have x0 := m1.cell (i := 0) rfl; have x1 := m1.cell (i := 1) rfl; have x2 := m1.cell (i := 2) rfl; have x3 := m1.cell (i := 3) rfl; have y0 := m2.cell (i := 0) rfl; have y1 := m2.cell (i := 1) rfl; have y2 := m2.cell (i := 2) rfl; go_simp; try (with_reducible rfl))
    try simp only [Act.put, zA, zB, zC]
    refine wpAnyH_ready (rs := [1, 8]) (by kernel_rfl) (by simp) ?_
    refine AllReadyH.cons rfl (fun K hK => ?_) (AllReadyH.cons rfl (fun K hK => ?_) AllReadyH.nil)
    ·
     have zu := HUC.out
     go_simp
     show K _ _
     refine hK.out _ _ hS0 (fun _ => ?_)
     clear hK K
     refine rD 8 rfl (fun K hK => ?_)
     go_simp
     refine (CN1.out _ kd).mono ?_
     rintro e wq ⟨rfl, rfl⟩
     show K _ _
     refine hK.out _ _ hS0 (fun _ => ?_)
     clear hK K
     refine rD 13 rfl (fun K hK => ?_)
     go_simp
     refine (CN2.out _ kd).mono ?_
     rintro e wq ⟨rfl, rfl⟩
     show K _ _
     refine hK.out _ _ hS0 (fun _ => ?_)
     clear hK K
     refine tG (some 45) 14 ?vhb14x15 rfl rfl (Or.inl ⟨by rfl, ?hhb14x15⟩) hS0 ?rhb14x15
     case hhb14x15 => (intro w hw; obtain ⟨m1, m2⟩ := hw; have x0 := m1.cell (i := 0) rfl; have x1 := m1.cell (i := 1) rfl; have x2 := m1.cell (i := 2) rfl; have x3 := m1.cell (i := 3) rfl; have y0 := m2.cell (i := 0) rfl; have y1 := m2.cell (i := 1) rfl; have y2 := m2.cell (i := 2) rfl; go_simp; try (with_reducible rfl))
     try simp only [Act.put, zA, zB, zC]
     refine rD 15 rfl (fun K hK => ?_)
     rw [if_pos (by rfl)]
     go_simp
     have sA := And.intro (hS0.1.below (box_below wd (.cells #[.bool xw, .int .i64 yk, .int .i64 yv] 79))) (hS0.2.below (box_below wd (.cells #[.bool xw, .int .i64 yk, .int .i64 yv] 79)))
     have HUB := ((box_below wd (.cells #[.bool xw, .int .i64 yk, .int .i64 yv] 79)).cell (p := ⟨p5, 3, none⟩) (block_lt HUC.out)).trans HUC.out
     show K _ _
     refine hK.out _ _ sA (fun _ => ?_)
     clear hK K
     refine rD 16 rfl (fun K hK => ?_)
     refine step_app _ rfl (.tmp 32) (.tmp 46) 81 rfl w.heap.size 79 i1 (.agg #[.bool false, .int .i64 0, .int .i64 0]) 3 24 Tryz.underlying81 hj hy0 hy1 hy2 rfl (by decide) _ _ _ (by simp [Act.eval]) (hown.alloc (.cells #[.bool xw, .int .i64 yk, .int .i64 yv] 79)) ⟨w7.heap.size, 0, none⟩ 1 1 [.bool xw, .int .i64 yk, .int .i64 yv] (by simp [Act.eval]) rfl (by rw [← hwd]; exact lit_new wd _ _ _ _) (by simp [Value.oneCell']) (by unfold maxLen; omega) (by omega) (by simp; omega) ?_
     intro v6 w6 hown6 hg6
     have sC := And.intro (sA.1.kept hg6 HN3.out) (sA.2.kept hg6 HN7.out)
     refine hK.out _ _ sC (fun _ => ?_)
     clear hK K
     refine tG (some 48) 17 ?vhb17x18 rfl rfl (Or.inl ⟨by rfl, ?hhb17x18⟩) sC ?rhb17x18
     case hhb17x18 => (intro w hw; obtain ⟨m1, m2⟩ := hw; have x0 := m1.cell (i := 0) rfl; have x1 := m1.cell (i := 1) rfl; have x2 := m1.cell (i := 2) rfl; have x3 := m1.cell (i := 3) rfl; have y0 := m2.cell (i := 0) rfl; have y1 := m2.cell (i := 1) rfl; have y2 := m2.cell (i := 2) rfl; go_simp; try (with_reducible rfl))
     try simp only [Act.put, zA, zB, zC]
     refine rD 18 rfl (fun K hK => ?_)
     obtain ⟨g6, c6, rfl, hq6, _⟩ := hown6.form (by omega)
     have hX6 := (HX5.out.below (box_below wd (.cells #[.bool xw, .int .i64 yk, .int .i64 yv] 79))).kept hg6 HN5.out
     have hcx := hX6.cell (i := 3) rfl
     have hfx := hX6.free 3
     rw [if_pos (by rfl)]
     go_simp
     have sD := And.intro (sC.1.far (a := ⟨p5, 3, none⟩) (by show p3 ≠ p5; omega) (.slice (some ⟨g6, 0, none⟩) (j + 1) c6)) (sC.2.far (a := ⟨p5, 3, none⟩) (by show p7 ≠ p5; omega) (.slice (some ⟨g6, 0, none⟩) (j + 1) c6))
     show K _ _
     refine hK.out _ _ sD (fun _ => ?_)
     clear hK K
     refine wpAnyH_done (by kernel_rfl) ?_ _
     try simp only [Act.put]
     have hgs := grown_set w6 ⟨p5, 3, none⟩ (.slice (some ⟨g6, 0, none⟩) (j + 1) c6)
     have hO6 : Own w6 w.heap.size (.slice (some ⟨g6, 0, none⟩) (j + 1) c6) ((l.take (j + 1)).map (renO (nmF FK) (nmF FV))) := by
      rw [HTK.out]
      unfold Own
      rw [opV_app, List.length_append, HLJ.out]
      exact hown6
     have hbe := (HBD.out.alloc HBD.out.size (.cells #[.bool xw, .int .i64 yk, .int .i64 yv] 79)).grown hg6 (by have := HBD.out.size; simp; omega) (fun q e => (World.ownsRow.lt hown q e).1)
     have RX5 := hid (hX6.set 3 (.slice (some ⟨g6, 0, none⟩) (j + 1) c6))
     have RU := hid (Own.keep hO6 hgs (owns_no_box hO6 hX6 (by decide)))
     have RX2 := hid (((HX2.out.below (box_below wd (.cells #[.bool xw, .int .i64 yk, .int .i64 yv] 79))).kept hg6 HN2.out).far (a := ⟨p5, 3, none⟩) (by show w.heap.size ≠ p5; omega) (.slice (some ⟨g6, 0, none⟩) (j + 1) c6))
     have RX3 := hid (sC.1.far (a := ⟨p5, 3, none⟩) (by show p3 ≠ p5; omega) (.slice (some ⟨g6, 0, none⟩) (j + 1) c6))
     have RX4 := hid (((HX4.out.below (box_below wd (.cells #[.bool xw, .int .i64 yk, .int .i64 yv] 79))).kept hg6 HN4.out).far (a := ⟨p5, 3, none⟩) (by show p4 ≠ p5; omega) (.slice (some ⟨g6, 0, none⟩) (j + 1) c6))
     have RBD := hid (hbe.setCell (p := ⟨p5, 3, none⟩) (by show w.heap.size ≤ p5; omega) (.slice (some ⟨g6, 0, none⟩) (j + 1) c6))
     clear hgs hO6 hbe hX6 hcx hfx sA sC sD hown6 hg6
     go_wp2_with fail
     go_roundw
     case rel => exact ⟨j + 1, _, by omega, by go_num, RX5, RU, RX2, RX3, RX4, RBD⟩
     case measure => simp [intOf]; omega
    ·
     go_simp
     refine (CN1.out _ kd).mono ?_
     rintro e wq ⟨rfl, rfl⟩
     show K _ _
     refine hK.out _ _ hS0 (fun _ => ?_)
     clear hK K
     refine wpAnyH_ready (rs := [1, 13]) (by kernel_rfl) (by simp) ?_
     refine AllReadyH.cons rfl (fun K hK => ?_) (AllReadyH.cons rfl (fun K hK => ?_) AllReadyH.nil)
     ·
      have zu := HUC.out
      go_simp
      show K _ _
      refine hK.out _ _ hS0 (fun _ => ?_)
      clear hK K
      refine rD 13 rfl (fun K hK => ?_)
      go_simp
      refine (CN2.out _ kd).mono ?_
      rintro e wq ⟨rfl, rfl⟩
      show K _ _
      refine hK.out _ _ hS0 (fun _ => ?_)
      clear hK K
      refine tG (some 45) 14 ?vhb14x23 rfl rfl (Or.inl ⟨by rfl, ?hhb14x23⟩) hS0 ?rhb14x23
      case hhb14x23 => (intro w hw; obtain ⟨m1, m2⟩ := hw; have x0 := m1.cell (i := 0) rfl; have x1 := m1.cell (i := 1) rfl; have x2 := m1.cell (i := 2) rfl; have x3 := m1.cell (i := 3) rfl; have y0 := m2.cell (i := 0) rfl; have y1 := m2.cell (i := 1) rfl; have y2 := m2.cell (i := 2) rfl; go_simp; try (with_reducible rfl))
      try simp only [Act.put, zA, zB, zC]
      refine rD 15 rfl (fun K hK => ?_)
      rw [if_pos (by rfl)]
      go_simp
      have sA := And.intro (hS0.1.below (box_below wd (.cells #[.bool xw, .int .i64 yk, .int .i64 yv] 79))) (hS0.2.below (box_below wd (.cells #[.bool xw, .int .i64 yk, .int .i64 yv] 79)))
      have HUB := ((box_below wd (.cells #[.bool xw, .int .i64 yk, .int .i64 yv] 79)).cell (p := ⟨p5, 3, none⟩) (block_lt HUC.out)).trans HUC.out
      show K _ _
      refine hK.out _ _ sA (fun _ => ?_)
      clear hK K
      refine rD 16 rfl (fun K hK => ?_)
      refine step_app _ rfl (.tmp 32) (.tmp 46) 81 rfl w.heap.size 79 i1 (.agg #[.bool false, .int .i64 0, .int .i64 0]) 3 24 Tryz.underlying81 hj hy0 hy1 hy2 rfl (by decide) _ _ _ (by simp [Act.eval]) (hown.alloc (.cells #[.bool xw, .int .i64 yk, .int .i64 yv] 79)) ⟨w7.heap.size, 0, none⟩ 1 1 [.bool xw, .int .i64 yk, .int .i64 yv] (by simp [Act.eval]) rfl (by rw [← hwd]; exact lit_new wd _ _ _ _) (by simp [Value.oneCell']) (by unfold maxLen; omega) (by omega) (by simp; omega) ?_
      intro v6 w6 hown6 hg6
      have sC := And.intro (sA.1.kept hg6 HN3.out) (sA.2.kept hg6 HN7.out)
      refine hK.out _ _ sC (fun _ => ?_)
      clear hK K
      refine tG (some 48) 17 ?vhb17x26 rfl rfl (Or.inl ⟨by rfl, ?hhb17x26⟩) sC ?rhb17x26
      case hhb17x26 => (intro w hw; obtain ⟨m1, m2⟩ := hw; have x0 := m1.cell (i := 0) rfl; have x1 := m1.cell (i := 1) rfl; have x2 := m1.cell (i := 2) rfl; have x3 := m1.cell (i := 3) rfl; have y0 := m2.cell (i := 0) rfl; have y1 := m2.cell (i := 1) rfl; have y2 := m2.cell (i := 2) rfl; go_simp; try (with_reducible rfl))
      try simp only [Act.put, zA, zB, zC]
      refine rD 18 rfl (fun K hK => ?_)
      obtain ⟨g6, c6, rfl, hq6, _⟩ := hown6.form (by omega)
      have hX6 := (HX5.out.below (box_below wd (.cells #[.bool xw, .int .i64 yk, .int .i64 yv] 79))).kept hg6 HN5.out
      have hcx := hX6.cell (i := 3) rfl
      have hfx := hX6.free 3
      rw [if_pos (by rfl)]
      go_simp
      have sD := And.intro (sC.1.far (a := ⟨p5, 3, none⟩) (by show p3 ≠ p5; omega) (.slice (some ⟨g6, 0, none⟩) (j + 1) c6)) (sC.2.far (a := ⟨p5, 3, none⟩) (by show p7 ≠ p5; omega) (.slice (some ⟨g6, 0, none⟩) (j + 1) c6))
      show K _ _
      refine hK.out _ _ sD (fun _ => ?_)
      clear hK K
      refine wpAnyH_done (by kernel_rfl) ?_ _
      try simp only [Act.put]
      have hgs := grown_set w6 ⟨p5, 3, none⟩ (.slice (some ⟨g6, 0, none⟩) (j + 1) c6)
      have hO6 : Own w6 w.heap.size (.slice (some ⟨g6, 0, none⟩) (j + 1) c6) ((l.take (j + 1)).map (renO (nmF FK) (nmF FV))) := by
       rw [HTK.out]
       unfold Own
       rw [opV_app, List.length_append, HLJ.out]
       exact hown6
      have hbe := (HBD.out.alloc HBD.out.size (.cells #[.bool xw, .int .i64 yk, .int .i64 yv] 79)).grown hg6 (by have := HBD.out.size; simp; omega) (fun q e => (World.ownsRow.lt hown q e).1)
      have RX5 := hid (hX6.set 3 (.slice (some ⟨g6, 0, none⟩) (j + 1) c6))
      have RU := hid (Own.keep hO6 hgs (owns_no_box hO6 hX6 (by decide)))
      have RX2 := hid (((HX2.out.below (box_below wd (.cells #[.bool xw, .int .i64 yk, .int .i64 yv] 79))).kept hg6 HN2.out).far (a := ⟨p5, 3, none⟩) (by show w.heap.size ≠ p5; omega) (.slice (some ⟨g6, 0, none⟩) (j + 1) c6))
      have RX3 := hid (sC.1.far (a := ⟨p5, 3, none⟩) (by show p3 ≠ p5; omega) (.slice (some ⟨g6, 0, none⟩) (j + 1) c6))
      have RX4 := hid (((HX4.out.below (box_below wd (.cells #[.bool xw, .int .i64 yk, .int .i64 yv] 79))).kept hg6 HN4.out).far (a := ⟨p5, 3, none⟩) (by show p4 ≠ p5; omega) (.slice (some ⟨g6, 0, none⟩) (j + 1) c6))
      have RBD := hid (hbe.setCell (p := ⟨p5, 3, none⟩) (by show w.heap.size ≤ p5; omega) (.slice (some ⟨g6, 0, none⟩) (j + 1) c6))
      clear hgs hO6 hbe hX6 hcx hfx sA sC sD hown6 hg6
      go_wp2_with fail
      go_roundw
      case rel => exact ⟨j + 1, _, by omega, by go_num, RX5, RU, RX2, RX3, RX4, RBD⟩
      case measure => simp [intOf]; omega
     ·
      go_simp
      refine (CN2.out _ kd).mono ?_
      rintro e wq ⟨rfl, rfl⟩
      show K _ _
      refine hK.out _ _ hS0 (fun _ => ?_)
      clear hK K
      refine tG (some 45) 14 ?vhb14x29 rfl rfl (Or.inl ⟨by rfl, ?hhb14x29⟩) hS0 ?rhb14x29
      case hhb14x29 => (intro w hw; obtain ⟨m1, m2⟩ := hw; have x0 := m1.cell (i := 0) rfl; have x1 := m1.cell (i := 1) rfl; have x2 := m1.cell (i := 2) rfl; have x3 := m1.cell (i := 3) rfl; have y0 := m2.cell (i := 0) rfl; have y1 := m2.cell (i := 1) rfl; have y2 := m2.cell (i := 2) rfl; go_simp; try (with_reducible rfl))
      try simp only [Act.put, zA, zB, zC]
      refine wpAnyH_ready (rs := [1, 15]) (by kernel_rfl) (by simp) ?_
      refine AllReadyH.cons rfl (fun K hK => ?_) (AllReadyH.cons rfl (fun K hK => ?_) AllReadyH.nil)
      ·
       have zu := HUC.out
       go_simp
       show K _ _
       refine hK.out _ _ hS0 (fun _ => ?_)
       clear hK K
       refine rD 15 rfl (fun K hK => ?_)
       rw [if_pos (by rfl)]
       go_simp
       have sA := And.intro (hS0.1.below (box_below wd (.cells #[.bool xw, .int .i64 yk, .int .i64 yv] 79))) (hS0.2.below (box_below wd (.cells #[.bool xw, .int .i64 yk, .int .i64 yv] 79)))
       have HUB := ((box_below wd (.cells #[.bool xw, .int .i64 yk, .int .i64 yv] 79)).cell (p := ⟨p5, 3, none⟩) (block_lt HUC.out)).trans HUC.out
       show K _ _
       refine hK.out _ _ sA (fun _ => ?_)
       clear hK K
       refine rD 16 rfl (fun K hK => ?_)
       refine step_app _ rfl (.tmp 32) (.tmp 46) 81 rfl w.heap.size 79 i1 (.agg #[.bool false, .int .i64 0, .int .i64 0]) 3 24 Tryz.underlying81 hj hy0 hy1 hy2 rfl (by decide) _ _ _ (by simp [Act.eval]) (hown.alloc (.cells #[.bool xw, .int .i64 yk, .int .i64 yv] 79)) ⟨w7.heap.size, 0, none⟩ 1 1 [.bool xw, .int .i64 yk, .int .i64 yv] (by simp [Act.eval]) rfl (by rw [← hwd]; exact lit_new wd _ _ _ _) (by simp [Value.oneCell']) (by unfold maxLen; omega) (by omega) (by simp; omega) ?_
       intro v6 w6 hown6 hg6
       have sC := And.intro (sA.1.kept hg6 HN3.out) (sA.2.kept hg6 HN7.out)
       refine hK.out _ _ sC (fun _ => ?_)
       clear hK K
       refine tG (some 48) 17 ?vhb17x33 rfl rfl (Or.inl ⟨by rfl, ?hhb17x33⟩) sC ?rhb17x33
       case hhb17x33 => (intro w hw; obtain ⟨m1, m2⟩ := hw; have x0 := m1.cell (i := 0) rfl; have x1 := m1.cell (i := 1) rfl; have x2 := m1.cell (i := 2) rfl; have x3 := m1.cell (i := 3) rfl; have y0 := m2.cell (i := 0) rfl; have y1 := m2.cell (i := 1) rfl; have y2 := m2.cell (i := 2) rfl; go_simp; try (with_reducible rfl))
       try simp only [Act.put, zA, zB, zC]
       refine rD 18 rfl (fun K hK => ?_)
       obtain ⟨g6, c6, rfl, hq6, _⟩ := hown6.form (by omega)
       have hX6 := (HX5.out.below (box_below wd (.cells #[.bool xw, .int .i64 yk, .int .i64 yv] 79))).kept hg6 HN5.out
       have hcx := hX6.cell (i := 3) rfl
       have hfx := hX6.free 3
       rw [if_pos (by rfl)]
       go_simp
       have sD := And.intro (sC.1.far (a := ⟨p5, 3, none⟩) (by show p3 ≠ p5; omega) (.slice (some ⟨g6, 0, none⟩) (j + 1) c6)) (sC.2.far (a := ⟨p5, 3, none⟩) (by show p7 ≠ p5; omega) (.slice (some ⟨g6, 0, none⟩) (j + 1) c6))
       show K _ _
       refine hK.out _ _ sD (fun _ => ?_)
       clear hK K
       refine wpAnyH_done (by kernel_rfl) ?_ _
       try simp only [Act.put]
       have hgs := grown_set w6 ⟨p5, 3, none⟩ (.slice (some ⟨g6, 0, none⟩) (j + 1) c6)
       have hO6 : Own w6 w.heap.size (.slice (some ⟨g6, 0, none⟩) (j + 1) c6) ((l.take (j + 1)).map (renO (nmF FK) (nmF FV))) := by
        rw [HTK.out]
        unfold Own
        rw [opV_app, List.length_append, HLJ.out]
        exact hown6
       have hbe := (HBD.out.alloc HBD.out.size (.cells #[.bool xw, .int .i64 yk, .int .i64 yv] 79)).grown hg6 (by have := HBD.out.size; simp; omega) (fun q e => (World.ownsRow.lt hown q e).1)
       have RX5 := hid (hX6.set 3 (.slice (some ⟨g6, 0, none⟩) (j + 1) c6))
       have RU := hid (Own.keep hO6 hgs (owns_no_box hO6 hX6 (by decide)))
       have RX2 := hid (((HX2.out.below (box_below wd (.cells #[.bool xw, .int .i64 yk, .int .i64 yv] 79))).kept hg6 HN2.out).far (a := ⟨p5, 3, none⟩) (by show w.heap.size ≠ p5; omega) (.slice (some ⟨g6, 0, none⟩) (j + 1) c6))
       have RX3 := hid (sC.1.far (a := ⟨p5, 3, none⟩) (by show p3 ≠ p5; omega) (.slice (some ⟨g6, 0, none⟩) (j + 1) c6))
       have RX4 := hid (((HX4.out.below (box_below wd (.cells #[.bool xw, .int .i64 yk, .int .i64 yv] 79))).kept hg6 HN4.out).far (a := ⟨p5, 3, none⟩) (by show p4 ≠ p5; omega) (.slice (some ⟨g6, 0, none⟩) (j + 1) c6))
       have RBD := hid (hbe.setCell (p := ⟨p5, 3, none⟩) (by show w.heap.size ≤ p5; omega) (.slice (some ⟨g6, 0, none⟩) (j + 1) c6))
       clear hgs hO6 hbe hX6 hcx hfx sA sC sD hown6 hg6
       go_wp2_with fail
       go_roundw
       case rel => exact ⟨j + 1, _, by omega, by go_num, RX5, RU, RX2, RX3, RX4, RBD⟩
       case measure => simp [intOf]; omega
      ·
       rw [if_pos (by rfl)]
       go_simp
       have sA := And.intro (hS0.1.below (box_below wd (.cells #[.bool xw, .int .i64 yk, .int .i64 yv] 79))) (hS0.2.below (box_below wd (.cells #[.bool xw, .int .i64 yk, .int .i64 yv] 79)))
       have HUB := ((box_below wd (.cells #[.bool xw, .int .i64 yk, .int .i64 yv] 79)).cell (p := ⟨p5, 3, none⟩) (block_lt HUC.out)).trans HUC.out
       show K _ _
       refine hK.out _ _ sA (fun _ => ?_)
       clear hK K
       refine rD 1 rfl (fun K hK => ?_)
       have zu := HUB
       go_simp
       show K _ _
       refine hK.out _ _ sA (fun _ => ?_)
       clear hK K
       refine rD 16 rfl (fun K hK => ?_)
       refine step_app _ rfl (.tmp 32) (.tmp 46) 81 rfl w.heap.size 79 i1 (.agg #[.bool false, .int .i64 0, .int .i64 0]) 3 24 Tryz.underlying81 hj hy0 hy1 hy2 rfl (by decide) _ _ _ (by simp [Act.eval]) (hown.alloc (.cells #[.bool xw, .int .i64 yk, .int .i64 yv] 79)) ⟨w7.heap.size, 0, none⟩ 1 1 [.bool xw, .int .i64 yk, .int .i64 yv] (by simp [Act.eval]) rfl (by rw [← hwd]; exact lit_new wd _ _ _ _) (by simp [Value.oneCell']) (by unfold maxLen; omega) (by omega) (by simp; omega) ?_
       intro v6 w6 hown6 hg6
       have sC := And.intro (sA.1.kept hg6 HN3.out) (sA.2.kept hg6 HN7.out)
       refine hK.out _ _ sC (fun _ => ?_)
       clear hK K
       refine tG (some 48) 17 ?vhb17x38 rfl rfl (Or.inl ⟨by rfl, ?hhb17x38⟩) sC ?rhb17x38
       case hhb17x38 => (intro w hw; obtain ⟨m1, m2⟩ := hw; have x0 := m1.cell (i := 0) rfl; have x1 := m1.cell (i := 1) rfl; have x2 := m1.cell (i := 2) rfl; have x3 := m1.cell (i := 3) rfl; have y0 := m2.cell (i := 0) rfl; have y1 := m2.cell (i := 1) rfl; have y2 := m2.cell (i := 2) rfl; go_simp; try (with_reducible rfl))
       try simp only [Act.put, zA, zB, zC]
       refine rD 18 rfl (fun K hK => ?_)
       obtain ⟨g6, c6, rfl, hq6, _⟩ := hown6.form (by omega)
       have hX6 := (HX5.out.below (box_below wd (.cells #[.bool xw, .int .i64 yk, .int .i64 yv] 79))).kept hg6 HN5.out
       have hcx := hX6.cell (i := 3) rfl
       have hfx := hX6.free 3
       rw [if_pos (by rfl)]
       go_simp
       have sD := And.intro (sC.1.far (a := ⟨p5, 3, none⟩) (by show p3 ≠ p5; omega) (.slice (some ⟨g6, 0, none⟩) (j + 1) c6)) (sC.2.far (a := ⟨p5, 3, none⟩) (by show p7 ≠ p5; omega) (.slice (some ⟨g6, 0, none⟩) (j + 1) c6))
       show K _ _
       refine hK.out _ _ sD (fun _ => ?_)
       clear hK K
       refine wpAnyH_done (by kernel_rfl) ?_ _
       try simp only [Act.put]
       have hgs := grown_set w6 ⟨p5, 3, none⟩ (.slice (some ⟨g6, 0, none⟩) (j + 1) c6)
       have hO6 : Own w6 w.heap.size (.slice (some ⟨g6, 0, none⟩) (j + 1) c6) ((l.take (j + 1)).map (renO (nmF FK) (nmF FV))) := by
        rw [HTK.out]
        unfold Own
        rw [opV_app, List.length_append, HLJ.out]
        exact hown6
       have hbe := (HBD.out.alloc HBD.out.size (.cells #[.bool xw, .int .i64 yk, .int .i64 yv] 79)).grown hg6 (by have := HBD.out.size; simp; omega) (fun q e => (World.ownsRow.lt hown q e).1)
       have RX5 := hid (hX6.set 3 (.slice (some ⟨g6, 0, none⟩) (j + 1) c6))
       have RU := hid (Own.keep hO6 hgs (owns_no_box hO6 hX6 (by decide)))
       have RX2 := hid (((HX2.out.below (box_below wd (.cells #[.bool xw, .int .i64 yk, .int .i64 yv] 79))).kept hg6 HN2.out).far (a := ⟨p5, 3, none⟩) (by show w.heap.size ≠ p5; omega) (.slice (some ⟨g6, 0, none⟩) (j + 1) c6))
       have RX3 := hid (sC.1.far (a := ⟨p5, 3, none⟩) (by show p3 ≠ p5; omega) (.slice (some ⟨g6, 0, none⟩) (j + 1) c6))
       have RX4 := hid (((HX4.out.below (box_below wd (.cells #[.bool xw, .int .i64 yk, .int .i64 yv] 79))).kept hg6 HN4.out).far (a := ⟨p5, 3, none⟩) (by show p4 ≠ p5; omega) (.slice (some ⟨g6, 0, none⟩) (j + 1) c6))
       have RBD := hid (hbe.setCell (p := ⟨p5, 3, none⟩) (by show w.heap.size ≤ p5; omega) (.slice (some ⟨g6, 0, none⟩) (j + 1) c6))
       clear hgs hO6 hbe hX6 hcx hfx sA sC sD hown6 hg6
       go_wp2_with fail
       go_roundw
       case rel => exact ⟨j + 1, _, by omega, by go_num, RX5, RU, RX2, RX3, RX4, RBD⟩
       case measure => simp [intOf]; omega
   ·obtain rfl : j = l.length := by omega
    have hji : ¬ (l.length : Int) < (l.length : Int) := by omega
    rw [List.take_length] at HU
    obtain ⟨ua, uc, rfl, _⟩ := (Own.ops HU.out).form
    have hP4h : wr.heap[p4]? = some (.cells #[.int .i64 0, .int .i64 0, .int .i64 0, .slice none 0 0] 83 (0, 0)) := HX4.out
    have HPB := hid HX4.out
    have f0 : wr.cell? ⟨p5, 0, none⟩ = some (.int .i64 fs) := HX5.out.cell (i := 0) rfl
    have f1 : wr.cell? ⟨p5, 1, none⟩ = some (.int .i64 fb) := HX5.out.cell (i := 1) rfl
    have f2 : wr.cell? ⟨p5, 2, none⟩ = some (.int .i64 fc) := HX5.out.cell (i := 2) rfl
    have f3 : wr.cell? ⟨p5, 3, none⟩ = some (.slice ua l.length uc) := by have q := HX5.out.cell (i := 3) rfl; simpa using q
    have hP4 : BoxN wr p4 83 #[.int .i64 0, .int .i64 0, .int .i64 0, .slice none 0 0] := HX4.out
    have hq44 : w.heap.size ≤ p4 := by omega
    have hbP := hid (below_setRow HBD.out hq44 #[.int .i64 fs, .int .i64 fb, .int .i64 fc, .slice ua l.length uc])
    have hUU := hid (Own.keep (w' := wr.setRow p4 #[.int .i64 fs, .int .i64 fb, .int .i64 fc, .slice ua l.length uc]) (row := some p4) (by simpa using HU.out) (grown_setRow wr p4 #[.int .i64 fs, .int .i64 fb, .int .i64 fc, .slice ua l.length uc]) (owns_no_box (by simpa [Own] using HU.out) hP4 (by decide)))
    have hinf : (Tryz.prog.info? 83).map (·.size) = some (#[.int .i64 fs, .int .i64 fb, .int .i64 fc, .slice ua l.length uc] : Array Value).size := infoTxnA
    have hone : (#[.int .i64 fs, .int .i64 fb, .int .i64 fc, .slice ua l.length uc] : Array Value).all (·.oneCell') = true := by simp [Value.oneCell']
    clear HX2 HX3 HX4 HBD HX5 HU hP4
    go_wp2_with (with_reducible refine wpList_store_rowT 83 hP4h rfl _ _ rfl rfl rfl hinf rfl hone ?_)
    try simp only [Act.put]
    refine bodyPost_ret (v := .agg #[.int .i64 fs, .int .i64 fb, .int .i64 fc, .slice ua l.length uc]) (results_cell_row rfl _ _ p4 _ #[.int .i64 fs, .int .i64 fb, .int .i64 fc, .slice ua l.length uc] _ _ rfl (setRow_heap _ _ _ _ _ _ HPB.out) Tryz.underlying83 rfl hinf) rfl ?_
    exact ⟨⟨_, rfl, hUU.out⟩, hbP.out⟩
end

section
open Go.RowKit
def OrdO (L : List Int) (n : Nat) : Prop := L = [] ∨ (L.length = n ∧ ∀ k (hk : k < L.length), ∃ i : Nat, L[k] = (i : Int) ∧ i < n)
def ixO (L : List Int) (k : Nat) : Nat := if L = [] then k else (L.getD k 0).toNat
theorem ordO_at {L : List Int} {n k : Nat} (h : OrdO L n) (hk : k < n) : ixO L k < n ∧ ((L = [] ∧ ixO L k = k) ∨ ∃ hl : k < L.length, L[k] = (ixO L k : Int)) := by
 rcases h with rfl | ⟨h1, h2⟩
 ·exact ⟨by simpa [ixO] using hk, .inl ⟨rfl, by simp [ixO]⟩⟩
 ·have hl : k < L.length := by omega
  obtain ⟨i, e, hi⟩ := h2 k hl
  have hne : L ≠ [] := fun q => by subst q; simp at hl
  have e2 : ixO L k = i := by
   unfold ixO
   rw [if_neg hne, List.getD_eq_getElem?_getD, List.getElem?_eq_getElem hl, e]
   simp
  rw [e2]
  exact ⟨hi, .inr ⟨hl, e⟩⟩
def namL (f τ κ ν : Int → Int) (L : List Int) (h : List TxnV) : List ETx := (List.range h.length).map fun k => renE f τ κ ν ((h.map txE).getD (ixO L k) (0, 0, 0, []))
theorem namL_len (f τ κ ν : Int → Int) (L : List Int) (h : List TxnV) : (namL f τ κ ν L h).length = h.length := by simp [namL]
theorem namL_next {f τ κ ν : Int → Int} {L : List Int} {h : List TxnV} {j i : Nat} (hj : j < h.length) (hi : i < h.length) (e : ixO L j = i) : (namL f τ κ ν L h).take (j + 1) = (namL f τ κ ν L h).take j ++ [renE f τ κ ν (txE h[i])] := by
 rw [List.take_succ_eq_append_getElem (by rw [namL_len]; exact hj)]
 congr 2
 unfold namL
 rw [List.getElem_map, List.getElem_range, e, List.getD_eq_getElem?_getD, List.getElem?_map, List.getElem?_eq_getElem hi]
 rfl
set_option linter.unusedSimpArgs false in
theorem rnamed_any (hv vK vS vV vT vO : Value) (FK FS FV FT : Int → Option Int) (L : List Int) (h : List TxnV) (w : World) (hN : NmA w vK vS vV vT FK FS FV FT) (hO : Ints w vO L) (hT : Txns w hv h) (hL : OrdO L h.length) (hh : h.length ≤ 100000)
  (hI : ∀ t ∈ h, InI t.s ∧ InI t.b ∧ InI t.c ∧ t.l.length ≤ 1024 ∧ ∀ o ∈ t.l, InI o.key ∧ InI o.val) :
  Calls Tryz.prog 44 #[hv, .agg #[vK, vS, vV, vT, vO]] w fun e w' => ∃ v c, e = .returned v ∧ OwnH w' w.heap.size v c ∧ c.map txE = namL (nmF FS) (nmF FT) (nmF FK) (nmF FV) L h ∧ Below w.heap.size w w' := by
 obtain ⟨i1, hj, hy0, hy1, hy2⟩ := info_parts infoTxn
 have HT := hid (fun wx (hx : Below w.heap.size w wx) => hT.below hx)
 have HO := hid (fun wx (hx : Below w.heap.size w wx) => hO.below hx)
 have HN := hid (fun wx (hx : Below w.heap.size w wx) => hN.below hx)
 have HL := hid hL
 have HI := hid hI
 obtain ⟨mK, rfl⟩ := hN.k.form
 obtain ⟨mS, rfl⟩ := hN.s.form
 obtain ⟨mV, rfl⟩ := hN.v.form
 obtain ⟨mT, rfl⟩ := hN.t.form
 obtain ⟨qa, qc, rfl, _⟩ := hO.form
 obtain ⟨ao, cap, rfl, _⟩ := hT.form
 have hbx := BoxN.new w 34 #[.map mK, .map mS, .map mV, .map mT, .slice qa L.length qc]
 have hb1 := box_below w (.cells #[.map mK, .map mS, .map mV, .map mT, .slice qa L.length qc] 34)
 clear hN hO hT hL hI
 go_enter Tryz.func44, Tryz.ntmps44
 go_upto_region 1 with fail
 generalize w.alloc (.cells #[.map mK, .map mS, .map mV, .map mT, .slice qa L.length qc] 34) = w1 at *
 have HX1 := hid hbx
 have HB1 := hid hb1
 clear hbx hb1
 go_wp2_with fail
 go_loopw [5, 10] (fun v i wr => ∃ (j : Nat) (c : List TxnV), j ≤ h.length ∧ i = .int .i64 (j : Int) ∧ Hid (c.map txE = (namL (nmF FS) (nmF FT) (nmF FK) (nmF FV) L h).take j) ∧ OwnH wr w.heap.size v c ∧ Hid (BoxN wr w.heap.size 34 #[.map mK, .map mS, .map mV, .map mT, .slice qa L.length qc]) ∧ Hid (Below w.heap.size w wr)) (fun _ i _ => h.length - (intOf i).toNat)
 case atStart => exact ⟨0, [], by omega, rfl, hid rfl, OwnH.nil _ _, HX1, HB1⟩
 case round =>
  obtain ⟨j, c, hjl, rfl, HCM, hM, HX, HB⟩ := hrel
  by_cases hlt : j < h.length
  ·have hji : (j : Int) < (h.length : Int) := by omega
   obtain ⟨i, hix⟩ : ∃ i, ixO L j = i := ⟨_, rfl⟩
   have HOA := hid (ordO_at HL.out hlt)
   rw [hix] at HOA
   have hi := HOA.out.1
   have HM := hid hM
   clear hM
   have y4 := HX.out.cell (i := 4) rfl
   go_upto_if 17 with fail
   have HZY : Hid (decide (0 < L.length) = true → ∃ hl : j < L.length, L[j] = (i : Int)) := hid (fun e => HOA.out.2.elim (fun q => by rw [q.1] at e; simp at e) (fun q => q))
   have HZN : Hid (decide (0 < L.length) = false → j = i) := hid (fun e => HOA.out.2.elim (fun q => q.2.symm) (fun q => by obtain ⟨hl, _⟩ := q; have := of_decide_eq_false e; omega))
   generalize decide (0 < L.length) = z2 at *
   go_cut [7] from 18 to 22 (fun v wx => v = .int .i64 (i : Int) ∧ wx = wr)
   case first =>
    cases z2 with
    | false =>
     have HE := hid (HZN.out rfl)
     clear HZY HZN
     go_wp2_with fail
     go_meet
     case rel => exact ⟨by rw [HE.out], rfl⟩
    | true =>
     obtain ⟨hl0, hLi⟩ := HZY.out rfl
     clear HZY HZN
     obtain ⟨gq, oq, eq, y5⟩ := (HO.out _ HB.out).at hl0
     cases eq
     rw [hLi] at y5
     have hl2 : (j : Int) < (L.length : Int) := by omega
     clear hLi
     go_wp2_with fail
     go_meet
     case rel => exact ⟨rfl, rfl⟩
   case rest =>
    obtain ⟨rfl, rfl⟩ := hcut
    clear HZY HZN
    go_upto_region 8 with fail
    have hii : (i : Int) < (h.length : Int) := by omega
    obtain ⟨tg, tf, hao, _⟩ := (HT.out _ HB.out).at hi
    cases hao
    have HCL : Hid (∀ wx, Below w.heap.size w wx → wx.cell? ⟨tg, tf + i * 4, none⟩ = some (.int .i64 h[i].s) ∧ wx.cell? ⟨tg, tf + i * 4 + 1, none⟩ = some (.int .i64 h[i].b) ∧ wx.cell? ⟨tg, tf + i * 4 + 2, none⟩ = some (.int .i64 h[i].c) ∧ wx.cell? ⟨tg, tf + i * 4 + 3, none⟩ = some h[i].v) := hid (fun wx hx => by
     obtain ⟨b, o, e, q⟩ := (HT.out wx hx).at hi
     cases e
     exact q)
    have HOPS := hid (fun wx (hx : Below w.heap.size w wx) => (HT.out wx hx).ops hi)
    have hx := HI.out _ (List.getElem_mem hi)
    have HSN : Hid (∀ (c : List TxnV) (u : Value), c.map txE = (namL (nmF FS) (nmF FT) (nmF FK) (nmF FV) L h).take j → (c ++ [(⟨nmF FS h[i].s, nmF FT h[i].b, nmF FT h[i].c, u, h[i].l.map (renO (nmF FK) (nmF FV))⟩ : TxnV)]).map txE = (namL (nmF FS) (nmF FT) (nmF FK) (nmF FV) L h).take (j + 1)) := hid (fun c u hc => by
     rw [namL_next hlt hi hix, List.map_append, hc]; rfl)
    have hcl : c.length ≤ 100000 := by have q := congrArg List.length HCM.out; rw [List.length_map, List.length_take, namL_len] at q; omega
    generalize h[i] = t at *
    obtain ⟨ts, tb, tc, tv, tl⟩ := t
    simp only at HCL HOPS hx HSN
    obtain ⟨oo, oc, rfl, _⟩ := (HOPS.out _ HB.out).form
    have CN := hid (fun wx (hx' : Below w.heap.size w wx) => rrenamed_any ts tb tc (.slice oo tl.length oc) tl (.map mK) (.map mS) (.map mV) (.map mT) (.slice qa L.length qc) FK FS FV FT wx (HN.out wx hx') ⟨qa, _, qc, rfl⟩ (HOPS.out wx hx') hx.2.2.2.1 hx.1 hx.2.1 hx.2.2.1 hx.2.2.2.2)
    obtain ⟨fs, hfs⟩ : ∃ z, nmF FS ts = z := ⟨_, rfl⟩
    obtain ⟨fb, hfb⟩ : ∃ z, nmF FT tb = z := ⟨_, rfl⟩
    obtain ⟨fc, hfc⟩ : ∃ z, nmF FT tc = z := ⟨_, rfl⟩
    rw [hfs, hfb, hfc] at CN
    rw [hfs, hfb, hfc] at HSN
    clear hx hfs hfb hfc HOPS hix HOA y4
    have kd := (Below.refl wc.heap.size wc).drew
    have HBD := hid HB.out.drew
    have HXD := hid (HX.out.below kd)
    have hMd := HM.out.below kd
    have HLT := hid hMd.lt
    have HNX : Hid (some w.heap.size ≠ u5.ownBlock) := hid (fun e => (owns_no_box hMd.1 HXD.out (by decide)).elim (fun q => by rw [q] at e; cases e) (fun q => q e.symm))
    clear kd HM
    refine wp_region_held_drew (S := fun wx => Below w.heap.size w wx ∧ BoxN wx w.heap.size 34 #[.map mK, .map mS, .map mV, .map mT, .slice qa L.length qc]) (by kernel_rfl) ⟨HBD.out, HXD.out⟩ (fun hS0 => ?_)
    generalize wc.drew = wd at *
    refine tG (some 23) 0 ?vhb0x1 rfl rfl (Or.inl ⟨by rfl, ?hhb0x1⟩) hS0 ?rhb0x1
    case hhb0x1 => (intro w hw; obtain ⟨m1, m2⟩ := hw; obtain ⟨x0, x1, x2, x3⟩ := HCL.out _ m1; have y0 := m2.cell (i := 0) rfl; have y1 := m2.cell (i := 1) rfl; have y2 := m2.cell (i := 2) rfl; have y3 := m2.cell (i := 3) rfl; have y4 := m2.cell (i := 4) rfl; go_simp; try (with_reducible rfl))
    try simp only [Act.put, zA, zB, zC]
    refine tG (some 24) 1 ?vhb1x2 rfl rfl (Or.inl ⟨by rfl, ?hhb1x2⟩) hS0 ?rhb1x2
    case hhb1x2 => (intro w hw; obtain ⟨m1, m2⟩ := hw; obtain ⟨x0, x1, x2, x3⟩ := HCL.out _ m1; have y0 := m2.cell (i := 0) rfl; have y1 := m2.cell (i := 1) rfl; have y2 := m2.cell (i := 2) rfl; have y3 := m2.cell (i := 3) rfl; have y4 := m2.cell (i := 4) rfl; go_simp; try (with_reducible rfl))
    try simp only [Act.put, zA, zB, zC]
    refine tG (some 25) 2 ?vhb2x3 rfl rfl (Or.inl ⟨by rfl, ?hhb2x3⟩) hS0 ?rhb2x3
    case hhb2x3 => (intro w hw; obtain ⟨m1, m2⟩ := hw; obtain ⟨x0, x1, x2, x3⟩ := HCL.out _ m1; have y0 := m2.cell (i := 0) rfl; have y1 := m2.cell (i := 1) rfl; have y2 := m2.cell (i := 2) rfl; have y3 := m2.cell (i := 3) rfl; have y4 := m2.cell (i := 4) rfl; go_simp; try (with_reducible rfl))
    try simp only [Act.put, zA, zB, zC]
    refine tG (some 26) 3 ?vhb3x4 rfl rfl (Or.inl ⟨by rfl, ?hhb3x4⟩) hS0 ?rhb3x4
    case hhb3x4 => (intro w hw; obtain ⟨m1, m2⟩ := hw; obtain ⟨x0, x1, x2, x3⟩ := HCL.out _ m1; have y0 := m2.cell (i := 0) rfl; have y1 := m2.cell (i := 1) rfl; have y2 := m2.cell (i := 2) rfl; have y3 := m2.cell (i := 3) rfl; have y4 := m2.cell (i := 4) rfl; go_simp; try (with_reducible rfl))
    try simp only [Act.put, zA, zB, zC]
    refine tG (some 27) 4 ?vhb4x5 rfl rfl (Or.inl ⟨by rfl, ?hhb4x5⟩) hS0 ?rhb4x5
    case hhb4x5 => (intro w hw; obtain ⟨m1, m2⟩ := hw; obtain ⟨x0, x1, x2, x3⟩ := HCL.out _ m1; have y0 := m2.cell (i := 0) rfl; have y1 := m2.cell (i := 1) rfl; have y2 := m2.cell (i := 2) rfl; have y3 := m2.cell (i := 3) rfl; have y4 := m2.cell (i := 4) rfl; go_simp; try (with_reducible rfl))
    try simp only [Act.put, zA, zB, zC]
    refine tG (some 28) 5 ?vhb5x6 rfl rfl (Or.inl ⟨by rfl, ?hhb5x6⟩) hS0 ?rhb5x6
    case hhb5x6 => (intro w hw; obtain ⟨m1, m2⟩ := hw; obtain ⟨x0, x1, x2, x3⟩ := HCL.out _ m1; have y0 := m2.cell (i := 0) rfl; have y1 := m2.cell (i := 1) rfl; have y2 := m2.cell (i := 2) rfl; have y3 := m2.cell (i := 3) rfl; have y4 := m2.cell (i := 4) rfl; go_simp; try (with_reducible rfl))
    try simp only [Act.put, zA, zB, zC]
    refine rD 6 rfl (fun K hK => ?_)
    go_simp
    refine (CN.out _ hS0.1).mono ?_
    rintro e w8 ⟨⟨u8, rfl, hu8⟩, h8⟩
    obtain ⟨ua, uc, hua, _⟩ := (Own.ops hu8).form
    rw [List.length_map] at hua
    subst hua
    have s8 := And.intro (below_then hS0.1 h8) (hS0.2.below h8)
    have hM8 := hMd.below h8
    show K _ _
    refine hK.out _ _ s8 (fun _ => ?_)
    clear hK K
    refine rD 7 rfl (fun K hK => ?_)
    rw [if_pos (by rfl)]
    go_simp
    have sA := And.intro (s8.1.alloc s8.1.size (.cells #[.int .i64 fs, .int .i64 fb, .int .i64 fc, .slice ua tl.length uc] 83)) (s8.2.below (box_below w8 (.cells #[.int .i64 fs, .int .i64 fb, .int .i64 fc, .slice ua tl.length uc] 83)))
    have hMA := hM8.below (box_below w8 (.cells #[.int .i64 fs, .int .i64 fb, .int .i64 fc, .slice ua tl.length uc] 83))
    have huA := hu8.below (box_below w8 (.cells #[.int .i64 fs, .int .i64 fb, .int .i64 fc, .slice ua tl.length uc] 83))
    show K _ _
    refine hK.out _ _ sA (fun _ => ?_)
    clear hK K
    refine rD 8 rfl (fun K hK => ?_)
    refine step_app _ rfl (.tmp 23) (.tmp 30) 22 rfl w.heap.size 83 i1 (.agg #[.int .i64 0, .int .i64 0, .int .i64 0, .slice none 0 0]) 4 48 Tryz.underlying22 hj hy0 hy1 hy2 rfl (by decide) _ _ _ (by simp [Act.eval]) hMA.1 ⟨w8.heap.size, 0, none⟩ 1 1 [.int .i64 fs, .int .i64 fb, .int .i64 fc, .slice ua tl.length uc] (by simp [Act.eval]) rfl (row4_newR w8 _ _ _ _ _) (by simp [Value.oneCell']) (by unfold maxLen; omega) (by omega) (by have := sA.1.size; omega) ?_
    intro v9 w9 hown9 hg9
    have hO9 : OwnT w9 w.heap.size v9 (c ++ [⟨fs, fb, fc, .slice ua tl.length uc, tl.map (renO (nmF FK) (nmF FV))⟩]) := by
     unfold OwnT
     rw [List.length_append, txV_app]
     exact hown9
    have hM9 := OwnH.add hMA huA (fun t ht g hg => HLT.out t ht g hg) (by have := HBD.out.size; omega) hO9 hg9
    have sC := And.intro (sA.1.grown hg9 (by have := sA.1.size; omega) (fun q e => (World.ownsRow.lt hMA.1 q e).1)) (sA.2.kept hg9 HNX.out)
    show K _ _
    refine hK.out _ _ sC (fun _ => ?_)
    clear hK K
    refine tG (some 5) 9 ?vhb9x10 rfl rfl (Or.inl ⟨by rfl, ?hhb9x10⟩) sC ?rhb9x10
    case hhb9x10 => (intro w hw; obtain ⟨m1, m2⟩ := hw; obtain ⟨x0, x1, x2, x3⟩ := HCL.out _ m1; have y0 := m2.cell (i := 0) rfl; have y1 := m2.cell (i := 1) rfl; have y2 := m2.cell (i := 2) rfl; have y3 := m2.cell (i := 3) rfl; have y4 := m2.cell (i := 4) rfl; go_simp; try (with_reducible rfl))
    try simp only [Act.put, zA, zB, zC]
    refine wpAnyH_done (by kernel_rfl) ?_ _
    try simp only [Act.put]
    have RM := hM9
    have RX := hid sC.2
    have RB := hid sC.1
    have RC := hid (HSN.out c (.slice ua tl.length uc) HCM.out)
    clear hO9 hown9 hg9 hMA huA hM8 hu8 h8 hMd s8 sA sC
    go_wp2_with fail
    go_roundw
    case rel => exact ⟨j + 1, _, by omega, by go_num, RC, RM, RX, RB⟩
    case measure => simp [intOf]; omega
  ·obtain rfl : j = h.length := by omega
   have hji : ¬ (h.length : Int) < (h.length : Int) := by omega
   have HCE : Hid (c.map txE = namL (nmF FS) (nmF FT) (nmF FK) (nmF FV) L h) := hid (by rw [HCM.out, List.take_of_length_le (by rw [namL_len]; omega)])
   clear HCM
   go_wp2_with fail
   go_ret
   exact ⟨_, rfl, c, hM, HCE.out, HB.out⟩
end

section
open Go.RowKit
def delF {α : Type} (f : Int → Option α) (key : Int) : Int → Option α := fun y => if y = key then none else f y
theorem MapI.del {α : Type} {e : α → Value} {P : Program} {k t el : TypeId} {w : World} {b n c : Nat} {f : Int → Option α} (h : MapI e P k w b n f c) (hk : P.underlying k = some (.int .i64)) (ht : P.underlying t = some (.map k el)) {key : Int} (hkey : InI key) (ty : TypeId) :
  ∃ w' c', (Builtin.delete_ #[t, k] ty #[.map (some b), .int .i64 key]).run P w = .ok (.tuple #[]) w' ∧ MapI e P k w' b n (delF f key) c' ∧ w.grownBy w' (some b) := by
 obtain ⟨D, hD, hs, ht2⟩ := h
 obtain ⟨w', hrun, r1, r2⟩ := hD.drop (Maps.int_keyed hk) ht (keyOf_I hk hkey) ty
 refine ⟨w', _, hrun, ⟨_, r1, rfl, fun y hy => ?_⟩, r2.grown⟩
 by_cases he : y = key
 ·subst he
  refine ⟨?_, fun a ha => ?_⟩
  ·rw [Maps.has_del_same]; simp [delF]
  ·simp [delF] at ha
 ·have hne : Lit.int .i64 y ≠ .int .i64 key := fun h => he (by cases h; rfl)
  have e1 : delF f key y = f y := by simp [delF, he]
  rw [e1]
  exact ⟨(Maps.has_del_other hne).trans (ht2 y hy).1, fun u hu z => (Maps.atKey_del_other hne _).trans ((ht2 y hy).2 u hu z)⟩
section
variable {P : Program} (w : World) {ops : Array Oper} {rest : List Oper} {o : Oper} {a : Act} {Q : Exit → Act → World → Prop}
theorem wpList_delI {α : Type} {e : α → Value} (hg : o.guard = none) (m x : Operand) (t k : TypeId) (hop : o.op = Op.call { callee := Callee.builtin Builtin.delete, args := #[m, x], argTypes := #[t, k] }) (el : TypeId) (hk : P.underlying k = some (.int .i64)) (ht : P.underlying t = some (.map k el))
  (b n c : Nat) (f : Int → Option α) (hm : a.eval m = .map (some b)) (hown : MapI e P k w b n f c) (key : Int) (hx : a.eval x = .int .i64 key) (hkey : InI key)
  (hK : ∀ w' c', MapI e P k w' b n (delF f key) c' → w.grownBy w' (some b) → wpList P ops Q rest (a.put o.dst (.tuple #[])) w') : wpList P ops Q (o :: rest) a w := by
 refine wpList_plain hg fun K' hK' => ?_
 obtain ⟨w', c', hrun, r1, r2⟩ := hown.del hk ht hkey o.type
 unfold Oper.wp
 simp [execOp, hop, resolve, invoke, builtin, hm, hx, hrun, Result.andThen]
 exact hK' _ _ (hK w' c' r1 r2)
theorem wpList_delN (hg : o.guard = none) (m x : Operand) (t k : TypeId) (hop : o.op = Op.call { callee := Callee.builtin Builtin.delete, args := #[m, x], argTypes := #[t, k] }) (el : TypeId) (hk : P.underlying k = some (.int .i64)) (ht : P.underlying t = some (.map k el))
  (hm : a.eval m = .map none) (key : Int) (hx : a.eval x = .int .i64 key) (hkey : InI key)
  (hK : wpList P ops Q rest (a.put o.dst (.tuple #[])) w) : wpList P ops Q (o :: rest) a w := by
 refine wpList_plain hg fun K' hK' => ?_
 have hrun := Maps.drop_nil (w := w) (Maps.int_keyed hk) ht (keyOf_I hk hkey) o.type
 unfold Oper.wp
 simp [execOp, hop, resolve, invoke, builtin, hm, hx, hrun, Result.andThen]
 exact hK' _ _ hK
end
theorem mclone_any (v : Value) (F : Int → Option Int) (w : World) (hN : NmI w v F) :
  Calls Tryz.prog 41 #[v] w fun e w' => ((e = .returned (.map none) ∧ F = fun _ => none) ∨ ∃ n c, e = .returned (.map (some w.heap.size)) ∧ MapI eI Tryz.prog 3 w' w.heap.size n F c) ∧ Below w.heap.size w w' := by
 rcases hN with ⟨rfl, rfl⟩ | ⟨b, n, c, rfl, D, hM, hs, ht⟩
 ·refine Calls.mono (AnyW.maps_Clone_nil Tryz.mclone w) ?_
  rintro e w' ⟨rfl, rfl⟩
  exact ⟨.inl ⟨rfl, rfl⟩, Below.refl _ _⟩
 ·refine Calls.mono (AnyW.maps_Clone_owns Tryz.mclone 3 (rdE eI) b n D w hM) ?_
  rintro e w' ⟨rfl, h1, _, h2⟩
  exact ⟨.inr ⟨n, c, rfl, D, h1, hs, ht⟩, h2⟩
end

section
open Go.RowKit
def tx0 (e : ETx) : TxnV := ⟨e.1, e.2.1, e.2.2.1, .slice none 0 0, e.2.2.2⟩
theorem tx0_txE (E : List ETx) : (E.map tx0).map txE = E := by
 rw [List.map_map]
 conv => rhs; rw [← List.map_id E]
 rfl
theorem val_written {h : List TxnV} (hc : checkI h = 0) {v : Int} (hv : ∃ t ∈ h, ∃ o ∈ t.l, o.val = v) (h0 : v ≠ 0) : ∃ t ∈ h, ∃ o ∈ t.l, o.wr = true ∧ o.val = v := by
 obtain ⟨t, ht, o, ho, rfl⟩ := hv
 by_cases hw : o.wr = true
 ·exact ⟨t, ht, o, ho, hw, rfl⟩
 ·have hval := (check_rightB hc).2.1
  unfold valuesB at hval
  rw [Bool.and_eq_true, List.all_eq_true] at hval
  have hr := hval.2 t ht
  unfold rowOk at hr
  rw [List.all_eq_true] at hr
  have hr := hr o ho
  unfold rdOk at hr
  have hs : (wrTo h h.length o.val).isSome = true := by
   cases e : wrTo h h.length o.val with
   | none => rw [e] at hr; simp [hw, h0] at hr
   | some u => rfl
  rw [dom_wr h h.length (Nat.le_refl _), List.take_length] at hs
  have hm := of_decide_eq_true hs
  unfold wvH wv at hm
  obtain ⟨u, hu, hm⟩ := List.mem_flatMap.1 hm
  obtain ⟨p, hp, e⟩ := List.mem_map.1 hm
  rw [List.mem_filter] at hp
  exact ⟨u, hu, p, hp.1, hp.2, e⟩
end

section
open Go.RowKit
theorem canof_ok (va : Value) (h : List TxnV) (w : World) (hT : Txns w va h) (hok : ∀ t ∈ h, t.ok) (hsh : Short h) (hc : checkI h = 0) :
  Calls Tryz.prog 35 #[va] w fun e w' => (∃ v c s, e = .returned v ∧ CopyOf w' w.heap.size v c ∧ IsSrt h s ∧ c.map txE = canE (s.map txE)) ∧ Below w.heap.size w w' := by
 have CC := hid (hcheck_any va h w hT hok hsh)
 rw [hc] at CC
 have CN := hid (fun wx (hx : Below w.heap.size w wx) => cnamed_any va h wx (hT.below hx) hok hc)
 clear hT hok hsh hc
 go_enter Tryz.func35, Tryz.ntmps35
 go_wp2_with fail
 refine CC.out.mono ?_
 rintro e w1 ⟨rfl, h1⟩
 have CN1 := hid (CN.out _ h1)
 clear CN CC
 go_wp2_with fail
 refine CN1.out.mono ?_
 rintro e w2 ⟨⟨v, c, s, rfl, hC, hs, hce⟩, h2⟩
 have HR := hid (show ∃ b2, (w.heap.size ≤ b2 ∧ b2 ≤ w2.heap.size) ∧ OwnT w2 w.heap.size v c ∧ (∀ b, v.ownBlock = some b → b < b2) ∧ (∀ t ∈ c, Own w2 b2 t.v t.l) ∧ c.Pairwise ApartT from by
  obtain ⟨b2, x1, x2, x3, x4, x5⟩ := hC
  exact ⟨b2, ⟨Nat.le_trans h1.size x1.1, x1.2⟩, own_base' x2 h1.size, x3, x4, x5⟩)
 have HS := hid (And.intro hs hce)
 have hb := below_then h1 h2
 clear hC hs hce h1 h2 CN1
 go_wp2_with fail
 go_ret
 first | exact ⟨⟨_, rfl, c, HR.out, s, HS.out.1, HS.out.2⟩, hb⟩ | exact ⟨⟨_, c, s, rfl, HR.out, HS.out.1, HS.out.2⟩, hb⟩ | exact ⟨⟨c, HR.out, s, HS.out.1, HS.out.2⟩, hb⟩
theorem canis_ok (va : Value) (h s : List TxnV) (w : World) (hT : Txns w va h) (hok : ∀ t ∈ h, t.ok) (hsh : Short h) (hc : checkI h = 0) (hs : IsSrt h s) :
  Calls Tryz.prog 34 #[va] w fun e w' => e = .returned (.bool (decide (canE (s.map txE) = h.map txE))) ∧ Below w.heap.size w w' := by
 have CC := hid (hcheck_any va h w hT hok hsh)
 rw [hc] at CC
 have CN := hid (fun wx (hx : Below w.heap.size w wx) => cnamed_any va h wx (hT.below hx) hok hc)
 have HT := hid (fun wx (hx : Below w.heap.size w wx) => hT.below hx)
 have HS := hid hs
 clear hT hok hsh hc hs
 go_enter Tryz.func34, Tryz.ntmps34
 go_wp2_with fail
 refine CC.out.mono ?_
 rintro e w1 ⟨rfl, h1⟩
 have CN1 := hid (CN.out _ h1)
 clear CN CC
 go_wp2_with fail
 refine CN1.out.mono ?_
 rintro e w2 ⟨⟨v, c, s2, rfl, hC, hs2, hce⟩, h2⟩
 have hb := below_then h1 h2
 have CS := hid (sameH_any v va c h w2 hC.txns (HT.out _ hb))
 rw [show sameH c h = decide (canE (s.map txE) = h.map txE) from by rw [HS.out |> fun q => srt_eq q hs2, ← hce]; rfl] at CS
 obtain ⟨q, hq⟩ : ∃ q, decide (canE (s.map txE) = h.map txE) = q := ⟨_, rfl⟩
 rw [hq] at CS
 have HQ := hid hq
 clear hq
 clear hC hs2 hce h1 h2 CN1
 go_wp2_with fail
 refine CS.out.mono ?_
 rintro e w3 ⟨rfl, h3⟩
 have hb := below_then hb h3
 go_wp2_with fail
 go_ret
 exact ⟨ret_b HQ.out.symm, hb⟩
theorem cansame_ok (va vb : Value) (h g s u : List TxnV) (w : World) (hT : Txns w va h) (hok : ∀ t ∈ h, t.ok) (hsh : Short h) (hc : checkI h = 0) (hs : IsSrt h s) (hT2 : Txns w vb g) (hok2 : ∀ t ∈ g, t.ok) (hsh2 : Short g) (hc2 : checkI g = 0) (hs2 : IsSrt g u) :
  Calls Tryz.prog 36 #[va, vb] w fun e w' => e = .returned (.bool (decide (canE (s.map txE) = canE (u.map txE)))) ∧ Below w.heap.size w w' := by
 have CC := hid (hcheck_any va h w hT hok hsh)
 rw [hc] at CC
 have CC2 := hid (fun wx (hx : Below w.heap.size w wx) => hcheck_any vb g wx (hT2.below hx) hok2 hsh2)
 rw [hc2] at CC2
 have CN := hid (fun wx (hx : Below w.heap.size w wx) => cnamed_any va h wx (hT.below hx) hok hc)
 have CN2 := hid (fun wx (hx : Below w.heap.size w wx) => cnamed_any vb g wx (hT2.below hx) hok2 hc2)
 have HS := hid (And.intro hs hs2)
 clear hT hok hsh hc hs hT2 hok2 hsh2 hc2 hs2
 go_enter Tryz.func36, Tryz.ntmps36
 go_wp2_with fail
 refine CC.out.mono ?_
 rintro e w1 ⟨rfl, h1⟩
 have CC3 := hid (CC2.out _ h1)
 clear CC CC2
 go_wp2_with fail
 refine CC3.out.mono ?_
 rintro e w2 ⟨rfl, h2⟩
 have hb2 := below_then h1 h2
 have CN1 := hid (CN.out _ hb2)
 clear CN CC3 h1 h2
 go_wp2_with fail
 refine CN1.out.mono ?_
 rintro e w3 ⟨⟨v, c, s2, rfl, hC, hs2, hce⟩, h3⟩
 have hb3 := below_then hb2 h3
 have CN3 := hid (CN2.out _ hb3)
 have HC := hid hC
 have HE := hid (And.intro hs2 hce)
 clear CN1 CN2 h3 hb2 hC hs2 hce
 go_wp2_with fail
 refine CN3.out.mono ?_
 rintro e w4 ⟨⟨v2, c2, s3, rfl, hC2, hs3, hce3⟩, h4⟩
 have hb4 := below_then hb3 h4
 have CS := hid (sameH_any v v2 c c2 w4 (HC.out.txns.below h4) hC2.txns)
 rw [show sameH c c2 = decide (canE (s.map txE) = canE (u.map txE)) from by rw [srt_eq HS.out.1 HE.out.1, srt_eq HS.out.2 hs3, ← HE.out.2, ← hce3]; rfl] at CS
 obtain ⟨q, hq⟩ : ∃ q, decide (canE (s.map txE) = canE (u.map txE)) = q := ⟨_, rfl⟩
 rw [hq] at CS
 have HQ := hid hq
 clear hq
 clear CN3 hb3 hC2 hs3 hce3 h4
 go_wp2_with fail
 refine CS.out.mono ?_
 rintro e w5 ⟨rfl, h5⟩
 have hb := below_then hb4 h5
 go_wp2_with fail
 go_ret
 exact ⟨ret_b HQ.out.symm, hb⟩
end

section
open Go.RowKit
def opnTo (r : Nat → Bool) (l : Nat) (k : Nat) : Bool := (List.range k).all fun b => r b || !impB (l : Int) (b : Int)
def opn (r : Nat → Bool) (l : Nat) : Bool := opnTo r l l
theorem opnTo_succ (r : Nat → Bool) (l k : Nat) : opnTo r l (k + 1) = (opnTo r l k && (r k || !impB (l : Int) (k : Int))) := by
 unfold opnTo; rw [List.range_succ, List.all_append]; simp
theorem opn_miss {r : Nat → Bool} {l k : Nat} (hk : k < l) (h : (r k || !impB (l : Int) (k : Int)) = false) : opn r l = false := by
 unfold opn opnTo
 rw [List.all_eq_false]
 exact ⟨k, List.mem_range.2 hk, by rw [h]; simp⟩
theorem ret_v {a b : Bool} (h : a = b) : Ending.returned (Value.bool a) = Ending.returned (Value.bool b) := by rw [h]
theorem vopen_any (r : Nat → Bool) (l : Nat) (w : World) (hl : l ≤ 12) (hK : Kinds w) : Calls Tryz.prog 95 #[.agg (rowB r), .int .i64 (l : Int)] w fun e w' => e = .returned (.bool (opn r l)) ∧ Below w.heap.size w w' := by
 have HK := hid (fun wx (hb : Below w.heap.size w wx) => hK.below hb)
 clear hK
 go_enter Tryz.func95, Tryz.ntmps95
 go_wp2_with fail
 go_loopw [7] (fun i wr => ∃ k : Nat, k ≤ l ∧ i = .int .i64 k ∧ opnTo r l k = true ∧ BRow wr w.heap.size r ∧ Below w.heap.size w wr) (fun i _ => l - (intOf i).toNat)
 case atStart => exact ⟨0, by omega, rfl, rfl, BRow.made w r rfl rfl, (Below.refl w.heap.size w).alloc (Nat.le_refl _) _⟩
 case round =>
  obtain ⟨k, hk, rfl, hno, h0, hb⟩ := hrel
  have HNO := hid hno
  clear hno
  by_cases hlt : k < l
  ·have hki : (k : Int) < (l : Int) := by omega
   have hk12 : (k : Int) < 12 := by omega
   have hc := h0.cell (show k < 12 by omega)
   have HS := hid (opnTo_succ r l k)
   have HH := hid (fun h => opn_miss (r := r) (l := l) hlt h)
   have CI := hid (limp_any (l : Int) (k : Int) wr (HK.out _ hb))
   rw [HNO.out] at HS
   cases hr : r k
   ·rw [hr] at hc HS HH
    clear hr
    cases hm : impB (l : Int) (k : Int)
    ·rw [hm] at CI HS
     have HM : Hid (opnTo r l (k + 1) = true) := hid (by rw [HS.out]; rfl)
     clear hm HH
     go_wp2_with fail
     refine CI.out.mono ?_
     rintro e wq ⟨rfl, rfl⟩
     go_wp2_with fail
     go_roundw
     case rel => exact ⟨k + 1, by omega, by go_num, HM.out, h0, hb⟩
     case measure => simp [intOf]; omega
    ·rw [hm] at CI HH
     have HM : Hid (opn r l = false) := hid (HH.out rfl)
     clear hm HS HH
     go_wp2_with fail
     refine CI.out.mono ?_
     rintro e wq ⟨rfl, rfl⟩
     go_wp2_with fail
     go_ret
     exact ⟨ret_v HM.out.symm, hb⟩
   ·rw [hr] at hc HS
    clear hr HH CI
    have HM : Hid (opnTo r l (k + 1) = true) := hid (by rw [HS.out]; rfl)
    go_wp2_with fail
    go_roundw
    case rel => exact ⟨k + 1, by omega, by go_num, HM.out, h0, hb⟩
    case measure => simp [intOf]; omega
  ·obtain rfl : k = l := by omega
   have hki : ¬ (k : Int) < (k : Int) := by omega
   have HM : Hid (opn r k = true) := HNO
   go_wp2_with fail
   go_ret
   exact ⟨ret_v HM.out.symm, hb⟩
end

section
open Go.RowKit
def vecStep (h : List TxnV) (s : (Nat → Bool) × Nat) (l : Nat) : (Nat → Bool) × Nat := if opn s.1 l = true then (rSet s.1 l (decW h (l : Int)).2.2, s.2 + (decN h (l : Int)).2.2) else s
def vecTo (h : List TxnV) (j : Nat) : (Nat → Bool) × Nat := (List.range j).foldl (vecStep h) (noB, 0)
theorem vecTo_zero (h : List TxnV) : vecTo h 0 = (noB, 0) := rfl
theorem vecTo_succ (h : List TxnV) (j : Nat) : vecTo h (j + 1) = vecStep h (vecTo h j) j := by unfold vecTo; rw [List.range_succ, List.foldl_append]; rfl
theorem vecTo_open {h : List TxnV} {j : Nat} (ho : opn (vecTo h j).1 j = true) : vecTo h (j + 1) = (rSet (vecTo h j).1 j (decW h (j : Int)).2.2, (vecTo h j).2 + (decN h (j : Int)).2.2) := by rw [vecTo_succ]; unfold vecStep; rw [if_pos ho]
theorem vecTo_shut {h : List TxnV} {j : Nat} (ho : opn (vecTo h j).1 j = false) : vecTo h (j + 1) = vecTo h j := by rw [vecTo_succ]; unfold vecStep; rw [if_neg (by rw [ho]; simp)]
theorem vecTo_cost (h : List TxnV) {i : Nat} : ∀ {j}, i ≤ j → (vecTo h i).2 ≤ (vecTo h j).2
 | 0, hj => by have e : i = 0 := (by omega); subst e; exact Nat.le_refl _
 | j + 1, hj => by
  by_cases e : i = j + 1
  ·rw [e]; exact Nat.le_refl _
  ·have ih := vecTo_cost h (i := i) (j := j) (by omega)
   cases ho : opn (vecTo h j).1 j with
   | true => rw [vecTo_open ho]; exact Nat.le_trans ih (Nat.le_add_right _ _)
   | false => rw [vecTo_shut ho]; exact ih
end

section
open Go.RowKit
theorem least_ex (h : List TxnV) (x : Nat) (L : List Int) : ∃ X : Mat, LeastIs h x L X := by
 classical
 exact ⟨fun i j => decide (Must (startM h (x : Int) (chainR L)) (chainR L) (trB x) (pfB x) i j), fun i j _ _ => by rw [decide_eq_true_eq]⟩
section
variable {h : List TxnV}
theorem kept_implied (hc : checkI h = 0) {a b : Int} (hi : impB a b = true) {L : List Nat} (hp : L.Perm (List.range h.length)) (hk : keptL h a L = true) : keptL h b L = true := by
 obtain ⟨X, hX⟩ := least_ex h (askN a) (L.map Int.ofNat)
 obtain ⟨Y, hY⟩ := least_ex h (askN b) (L.map Int.ofNat)
 rw [← kept_holds hc a hp hX] at hk
 have hnd : (L.map Int.ofNat).Nodup := nodup_ofNat (hp.nodup_iff.2 List.nodup_range)
 have h2 := least_holds (check_zero hc).1 (implied_holds hc hnd hk hi) hY
 rwa [kept_holds hc b hp hY] at h2
theorem dec_implied (hc : checkI h = 0) {a b : Int} (hi : impB a b = true) (hk : (decW h a).2.2 = true) : (decW h b).2.2 = true := by
 rw [decW_some hc] at hk ⊢
 rw [List.find?_isSome] at hk ⊢
 obtain ⟨L, hL, hk⟩ := hk
 exact ⟨L, hL, kept_implied hc hi (orders_perm hL) hk⟩
theorem opn_no {r : Nat → Bool} {l : Nat} (ho : opn r l = false) : ∃ k, k < l ∧ r k = false ∧ impB (l : Int) (k : Int) = true := by
 unfold opn opnTo at ho
 rw [List.all_eq_false] at ho
 obtain ⟨k, hk, hn⟩ := ho
 refine ⟨k, List.mem_range.1 hk, ?_⟩
 simpa using hn
theorem shut_no (hc : checkI h = 0) {r : Nat → Bool} {l : Nat} (hr : ∀ i, i < l → r i = (decW h (i : Int)).2.2) (ho : opn r l = false) : (decW h (l : Int)).2.2 = false := by
 obtain ⟨k, hk, h1, h2⟩ := opn_no ho
 cases e : (decW h (l : Int)).2.2 with
 | false => rfl
 | true =>
  have := dec_implied hc h2 e
  rw [← hr k hk, h1] at this
  cases this
theorem vec_row (hc : checkI h = 0) : ∀ j i, (vecTo h j).1 i = (decide (i < j) && (decW h (i : Int)).2.2)
 | 0, i => by simp [vecTo_zero, noB]
 | j + 1, i => by
  have ih := vec_row hc j
  cases ho : opn (vecTo h j).1 j with
  | true =>
   rw [vecTo_open ho]
   show rSet (vecTo h j).1 j _ i = _
   unfold rSet
   by_cases e : i = j
   ·subst e; simp
   ·rw [if_neg e, ih]
    congr 1
    rw [Bool.eq_iff_iff, decide_eq_true_eq, decide_eq_true_eq]; omega
  | false =>
   rw [vecTo_shut ho, ih]
   have hn := shut_no hc (r := (vecTo h j).1) (l := j) (fun i hi => by rw [ih, decide_eq_true hi, Bool.true_and]) ho
   by_cases e : i = j
   ·subst e; rw [hn]; simp
   ·congr 1
    rw [Bool.eq_iff_iff, decide_eq_true_eq, decide_eq_true_eq]; omega
theorem vec_bound (M : Nat) (hM : ∀ l : Nat, l < 12 → (decN h (l : Int)).2.2 ≤ M) : ∀ j, j ≤ 12 → (vecTo h j).2 ≤ j * M
 | 0, _ => by rw [vecTo_zero]; exact Nat.zero_le _
 | j + 1, hj => by
  have ih := vec_bound M hM j (by omega)
  have := hM j (by omega)
  rw [Nat.succ_mul]
  cases ho : opn (vecTo h j).1 j with
  | true => rw [vecTo_open ho]; show (vecTo h j).2 + _ ≤ _; omega
  | false => rw [vecTo_shut ho]; omega
end
def accV (h : List TxnV) (i : Nat) : Bool := (decW h (i : Int)).2.2
def vecF (r : Nat → Bool) (ws : Nat → Value × Value) (i : Nat) : Value := if i < 12 then .bool (r i) else if i % 2 = 0 then (ws ((i - 12) / 2)).1 else (ws ((i - 12) / 2)).2
def vecL (r : Nat → Bool) (ws : Nat → Value × Value) : List Value := (List.range 36).map (vecF r ws)
def wZ0 : Nat → Value × Value := fun _ => (.slice none 0 0, .slice none 0 0)
def updW (ws : Nat → Value × Value) (k : Nat) (u : Value × Value) : Nat → Value × Value := fun i => if i = k then u else ws i
theorem vecL_len (r : Nat → Bool) (ws : Nat → Value × Value) : (vecL r ws).length = 36 := by unfold vecL; simp
theorem vecL_at (r : Nat → Bool) (ws : Nat → Value × Value) {i : Nat} (hi : i < 36) : (vecL r ws)[i]? = some (vecF r ws i) := by unfold vecL; simp [hi]
theorem vecL_congr {r s : Nat → Bool} {ws : Nat → Value × Value} (h : ∀ i, i < 12 → r i = s i) : vecL r ws = vecL s ws := by
 unfold vecL
 refine List.map_congr_left fun i _ => ?_
 unfold vecF
 split
 ·rename_i e; rw [h i e]
 ·rfl
theorem vecL_one {r : Nat → Bool} {ws : Nat → Value × Value} (h : ∀ i, i < 12 → (ws i).1.oneCell' = true ∧ (ws i).2.oneCell' = true) : (vecL r ws).toArray.all (·.oneCell') = true := by
 refine all_oneCell_toArray fun v hv => ?_
 unfold vecL at hv
 obtain ⟨i, hi, rfl⟩ := List.mem_map.1 hv
 have hi := List.mem_range.1 hi
 unfold vecF
 split
 ·rfl
 ·split
  ·exact (h _ (by omega)).1
  ·exact (h _ (by omega)).2
def VecAt (w : World) (g : Nat) (r : Nat → Bool) (ws : Nat → Value × Value) : Prop := ∀ i, i < 36 → w.cell? ⟨g, i, none⟩ = some (vecF r ws i) ∧ w.frozen? ⟨g, i, none⟩ = false
section
variable {w w' : World} {g : Nat} {r : Nat → Bool} {ws : Nat → Value × Value}
theorem VecAt.lt (h : VecAt w g r ws) : g < w.heap.size := block_lt (h 0 (by omega)).1
theorem VecAt.below {B : Nat} (h : VecAt w g r ws) (hb : Below B w w') (hB : g < B) : VecAt w' g r ws := fun i hi => by
 rw [hb.cell (p := ⟨g, i, none⟩) hB, hb.frozen (p := ⟨g, i, none⟩) hB]; exact h i hi
theorem VecAt.grown {row : Option Nat} (h : VecAt w g r ws) (hg : w.grownBy w' row) (hne : some g ≠ row) : VecAt w' g r ws := fun i hi => by
 obtain ⟨h1, h2⟩ := h i hi
 have hb : w'.heap[g]? = w.heap[g]? := hg.block g h.lt hne
 refine ⟨by unfold World.cell? at *; rw [hb]; exact h1, by unfold World.frozen? at *; rw [hb]; exact h2⟩
theorem VecAt.made (w : World) (t : TypeId) (r : Nat → Bool) (ws : Nat → Value × Value) : VecAt (w.alloc (.cells (vecL r ws).toArray t)) w.heap.size r ws := fun i hi => by
 have hn := heap_alloc_new w (.cells (vecL r ws).toArray t)
 refine ⟨?_, frozen_of_row _ _ _ _ _ hn⟩
 rw [cell_of_row _ _ _ _ _ _ hn]
 simpa using vecL_at r ws hi
theorem VecAt.setR (h : VecAt w g r ws) {k : Nat} (hk : k < 12) (v : Bool) : VecAt (w.setCell ⟨g, k, none⟩ (.bool v)) g (rSet r k v) ws := fun i hi => by
 rw [World.frozen?_setCell]
 refine ⟨?_, (h i hi).2⟩
 by_cases e : i = k
 ·subst e
  rw [World.cell?_setCell_same _ _ _ (h i hi).1]
  unfold vecF rSet; rw [if_pos hk, if_pos rfl]
 ·rw [World.cell?_setCell_other _ _ _ _ (fun q => by injection q with q1 q2; exact e q2.symm), (h i hi).1]
  unfold vecF rSet
  split
  ·rfl
  ·rfl
theorem VecAt.setW (h : VecAt w g r ws) {k : Nat} (hk : k < 12) (x y : Value) : VecAt (w.setCells g (12 + 2 * k) [x, y]) g r (updW ws k (x, y)) := fun i hi => by
 have e : w.setCells g (12 + 2 * k) [x, y] = (w.setCell ⟨g, 12 + 2 * k, none⟩ x).setCell ⟨g, 12 + 2 * k + 1, none⟩ y := rfl
 rw [e, World.frozen?_setCell, World.frozen?_setCell]
 refine ⟨?_, (h i hi).2⟩
 by_cases e0 : i = 12 + 2 * k
 ·subst e0
  rw [World.cell?_setCell_other _ _ _ _ (fun q => by injection q with q1 q2; omega), World.cell?_setCell_same _ _ _ (h _ hi).1]
  unfold vecF updW
  rw [if_neg (by omega), if_pos (by omega), if_pos (by omega)]
 ·by_cases e1 : i = 12 + 2 * k + 1
  ·subst e1
   have hc : (w.setCell ⟨g, 12 + 2 * k, none⟩ x).cell? ⟨g, 12 + 2 * k + 1, none⟩ = some (vecF r ws (12 + 2 * k + 1)) := by
    rw [World.cell?_setCell_other _ _ _ _ (fun q => by injection q with q1 q2; omega)]; exact (h _ hi).1
   rw [World.cell?_setCell_same _ _ _ hc]
   unfold vecF updW
   rw [if_neg (by omega), if_neg (by omega), if_pos (by omega)]
  ·rw [World.cell?_setCell_other _ _ _ _ (fun q => by injection q with q1 q2; omega), World.cell?_setCell_other _ _ _ _ (fun q => by injection q with q1 q2; omega), (h i hi).1]
   unfold vecF updW
   split
   ·rfl
   ·rw [if_neg (show ¬ (i - 12) / 2 = k by omega)]
theorem VecAt.row (h : VecAt w g r ws) : w.rangeAt g 0 (rowB r).toList := fun j v hv => by
 have hj : j < 12 := by
  have := (List.getElem?_eq_some_iff.1 hv).1
  simpa [rowB] using this
 rw [Nat.zero_add, (h j (by omega)).1, ← hv]
 unfold vecF
 rw [if_pos hj]
 simp [rowB, hj]
theorem VecAt.all (h : VecAt w g r ws) : w.rangeAt g 0 (vecL r ws) := fun j v hv => by
 have hj : j < 36 := by
  have := (List.getElem?_eq_some_iff.1 hv).1
  rwa [vecL_len] at this
 rw [Nat.zero_add, (h j hj).1, ← hv, vecL_at r ws hj]
theorem VecAt.there (h : VecAt w g r ws) {o n : Nat} (ho : o + n ≤ 36) : w.there g o n := fun j hj => by
 obtain ⟨h1, h2⟩ := h (o + j) (by omega)
 exact ⟨by rw [h1]; rfl, h2⟩
theorem VecAt.put (h : VecAt w g r ws) (s : Nat → Bool) (us : Nat → Value × Value) : VecAt (w.setCells g 0 (vecL s us)) g s us := fun i hi => by
 rw [World.frozen?_setCells]
 refine ⟨?_, (h i hi).2⟩
 have := World.cell?_setCells_in g (vecL s us) 0 w (fun j hj => by rw [vecL_len] at hj; rw [Nat.zero_add, (h j hj).1]; rfl) i (by rw [vecL_len]; exact hi)
 rw [Nat.zero_add] at this
 rw [this]
 unfold vecL; simp
end
section
variable {w w' : World} {b0 : Nat} {vo vs : Value} {l : List Int} {LL : List (List Int)}
theorem OwnW.nil (w : World) (b0 : Nat) : OwnW w b0 (.slice none 0 0) (.slice none 0 0) [] [] := ⟨World.ownsRow_nil _ _ _ _, [], OwnK.nil _ _, rfl⟩
theorem OwnW.below (h : OwnW w b0 vo vs l LL) (hb : Below w.heap.size w w') : OwnW w' b0 vo vs l LL := by
 obtain ⟨h1, KL, h2, h3⟩ := h
 exact ⟨owns_below h1 hb, KL, h2.below hb, h3⟩
theorem OwnW.base {b1 : Nat} (h : OwnW w b0 vo vs l LL) (hb : b1 ≤ b0) : OwnW w b1 vo vs l LL := by
 obtain ⟨h1, KL, h2, h3⟩ := h
 exact ⟨own_base' h1 hb, KL, h2.base hb, h3⟩
theorem own_row_ne {e : TypeId} {s n T : Nat} {v : Value} {xs : List Value} (h : w.ownsRow b0 e s v n xs) (hT : T < b0) : v.ownBlock = none ∨ v.ownBlock ≠ some T := by
 rcases h.2 with ⟨rfl, _⟩ | ⟨g, cap, cur, rfl, _, _, _⟩
 ·exact .inl rfl
 ·right
  intro e
  have := (h.lt _ e).1
  omega
theorem OwnW.kept {T : Nat} (h : OwnW w b0 vo vs l LL) (hg : w.grownBy w' (some T)) (hT : T < b0) : OwnW w' b0 vo vs l LL := by
 obtain ⟨h1, KL, h2, h3⟩ := h
 exact ⟨World.ownsRow.kept h1 hg (own_row_ne h1 hT), KL, ⟨World.ownsRow.kept h2.kr hg (own_row_ne h2.kr hT), fun p hp => World.ownsRow.kept (h2.ke p hp) hg (own_row_ne (h2.ke p hp) hT)⟩, h3⟩
theorem OwnW.far (h : OwnW w b0 vo vs l LL) {p : Addr} (hp : p.block < b0) (u : Value) : OwnW (w.setCell p u) b0 vo vs l LL := by
 obtain ⟨h1, KL, h2, h3⟩ := h
 exact ⟨pl_far h1 hp u, KL, h2.far hp u, h3⟩
theorem OwnW.cells (h : OwnW w b0 vo vs l LL) {g : Nat} (hg : g < b0) (o : Nat) (xs : List Value) : OwnW (w.setCells g o xs) b0 vo vs l LL := by
 obtain ⟨h1, KL, h2, h3⟩ := h
 exact ⟨owns_cells hg xs o w h1, KL, ⟨owns_cells hg xs o w h2.kr, fun p hp => owns_cells hg xs o w (h2.ke p hp)⟩, h3⟩
theorem OwnW.form (h : OwnW w b0 vo vs l LL) : ∃ oo n oc so m sc, vo = .slice oo n oc ∧ vs = .slice so m sc := by
 obtain ⟨h1, KL, h2, _⟩ := h
 obtain ⟨oo, oc, e1⟩ := own_form h1
 obtain ⟨so, sc, e2⟩ := own_form h2.kr
 exact ⟨oo, _, oc, so, _, sc, e1, e2⟩
end
section
variable {w0 w : World} {B b : Nat} {h : List TxnV}
theorem sdecide_own (lv : Int) (T F U : Nat) (hO : OrdIs w0 B b h) (ht : Tab w0) (hK : Kinds w0) (hc : checkI h = 0) (hb : Below w0.heap.size w0 w) (hT : w0.heap.size ≤ T) (hm : MtAt w T F U)
  (hM : (decN h lv).2.2 + 2 ≤ 1099511627776) (hU : F = 4611686018427387904 → U + (decN h lv).2.2 ≤ 4611686018427387904) (hl : Lasts F U (decN h lv).2.2) :
  Calls Tryz.prog 96 #[.pointer (some ⟨B, 0, none⟩), .int .i64 lv, .pointer (some ⟨T, 0, none⟩)] w fun e w' =>
   ∃ vo vs, e = .returned (.tuple #[.agg #[vo, vs], .bool (decW h lv).2.2, .int .i64 0]) ∧ OwnW w' w.heap.size vo vs (decW h lv).1 (decW h lv).2.1 ∧ MtAt w' T F (U + (decN h lv).2.2) ∧ w.grownBy w' (some T) := by
 refine (sdecide_any lv T F U hO ht hK hc hb hT hm hM hU).mono ?_
 rintro e w' ⟨hg, hr⟩
 rcases hr with ⟨_, hm', hr⟩ | ⟨hn, _⟩
 ·rcases hr with ⟨hd, rfl⟩ | ⟨r, vo, vs, hd, _, _, rfl, _, _, hW⟩
  ·refine ⟨_, _, by rw [decW_yes, hd]; rfl, ?_, hm', hg⟩
   unfold decW; rw [hd]; exact OwnW.nil _ _
  ·refine ⟨vo, vs, by rw [decW_yes, hd]; rfl, ?_, hm', hg⟩
   unfold decW; rw [hd]; exact hW
 ·exact (hn hl).elim
end
theorem results_vec {fn : Func} {p u : Tmp} (h : fn.results = #[.cell p 44, .tmp u]) (tmps : Array Value) (w : World) (g : Nat) (r : Nat → Bool) (ws : Nat → Value × Value)
  (hp : tmps.getD p undef = .pointer (some ⟨g, 0, none⟩)) (hg : VecAt w g r ws) : (results fn tmps).run Tryz.prog w = .ok (.tuple #[.agg (vecL r ws).toArray, tmps.getD u undef]) w := by
 have hp' : tmps[p]?.getD undef = .pointer (some ⟨g, 0, none⟩) := by simpa using hp
 simp [results, h, hp', asAddr, run_loadVar_mid w g 0 44 (vecL r ws) _ hg.all Tryz.underlying44 rfl (by kernel_rfl)]
end

section
open Go.RowKit
theorem vec_zero : #[.bool false, .bool false, .bool false, .bool false, .bool false, .bool false, .bool false, .bool false, .bool false, .bool false, .bool false, .bool false, .slice none 0 0, .slice none 0 0, .slice none 0 0, .slice none 0 0, .slice none 0 0, .slice none 0 0, .slice none 0 0, .slice none 0 0, .slice none 0 0, .slice none 0 0, .slice none 0 0, .slice none 0 0, .slice none 0 0, .slice none 0 0, .slice none 0 0, .slice none 0 0, .slice none 0 0, .slice none 0 0, .slice none 0 0, .slice none 0 0, .slice none 0 0, .slice none 0 0, .slice none 0 0, .slice none 0 0] = (vecL noB wZ0).toArray := by kernel_rfl
theorem VecAt.zero (w : World) : VecAt (w.alloc (.cells #[.bool false, .bool false, .bool false, .bool false, .bool false, .bool false, .bool false, .bool false, .bool false, .bool false, .bool false, .bool false, .slice none 0 0, .slice none 0 0, .slice none 0 0, .slice none 0 0, .slice none 0 0, .slice none 0 0, .slice none 0 0, .slice none 0 0, .slice none 0 0, .slice none 0 0, .slice none 0 0, .slice none 0 0, .slice none 0 0, .slice none 0 0, .slice none 0 0, .slice none 0 0, .slice none 0 0, .slice none 0 0, .slice none 0 0, .slice none 0 0, .slice none 0 0, .slice none 0 0, .slice none 0 0, .slice none 0 0] 44)) w.heap.size noB wZ0 := by rw [vec_zero]; exact VecAt.made w _ noB wZ0
def VofRes (h : List TxnV) (F : Nat) (w : World) (e : Ending) (w' : World) : Prop :=
 Below w.heap.size w w' ∧ ((Lasts F 0 (vecTo h 12).2 ∧ ∃ ws, e = .returned (.tuple #[.agg (vecL (accV h) ws).toArray, .int .i64 0]) ∧ ∀ i, i < 12 → OwnW w' w.heap.size (ws i).1 (ws i).2 (decW h (i : Int)).1 (decW h (i : Int)).2.1) ∨
  (¬ Lasts F 0 (vecTo h 12).2 ∧ e = .returned (.tuple #[.agg (vecL noB wZ0).toArray, .int .i64 4])))
structure VecOn (h : List TxnV) (w : World) (g b0 k : Nat) (ws : Nat → Value × Value) (W : World) : Prop where
 at_ : VecAt W g (vecTo h k).1 ws
 own : ∀ i, i < 12 → OwnW W b0 (ws i).1 (ws i).2 (if i < k then (decW h (i : Int)).1 else []) (if i < k then (decW h (i : Int)).2.1 else [])
 bel : Below w.heap.size w W
section
variable {h : List TxnV} {w W W' : World} {g b0 k : Nat} {ws : Nat → Value × Value}
theorem VecOn.grown {T : Nat} (q : VecOn h w g b0 k ws W) (hg : W.grownBy W' (some T)) (hT : T < b0) (hgT : g ≠ T) (hw : w.heap.size ≤ T) : VecOn h w g b0 k ws W' :=
 ⟨q.at_.grown hg (fun e => hgT (Option.some.inj e)), fun i hi => (q.own i hi).kept hg hT, q.bel.grown hg q.bel.size (fun j hj => by cases hj; exact hw)⟩
theorem VecOn.below (q : VecOn h w g b0 k ws W) (hb : Below W.heap.size W W') : VecOn h w g b0 k ws W' := ⟨q.at_.below hb q.at_.lt, fun i hi => (q.own i hi).below hb, below_then q.bel hb⟩
theorem heap_three (w : World) (g k o : Nat) (a x y : Value) {j : Nat} (hj : j ≠ g) : ((w.setCell ⟨g, k, none⟩ a).setCells g o [x, y]).heap[j]? = w.heap[j]? := by
 have e : (w.setCell ⟨g, k, none⟩ a).setCells g o [x, y] = ((w.setCell ⟨g, k, none⟩ a).setCell ⟨g, o, none⟩ x).setCell ⟨g, o + 1, none⟩ y := rfl
 rw [e, Below.heap_setCell _ _ _ _ hj, Below.heap_setCell _ _ _ _ hj, Below.heap_setCell _ _ _ _ hj]
theorem VecAt.apart {r : Nat → Bool} (h : VecAt w g r ws) {g' : Nat} (hne : g ≠ g') (i o : Nat) (a x y : Value) : VecAt ((w.setCell ⟨g', i, none⟩ a).setCells g' o [x, y]) g r ws := fun j hj => by
 obtain ⟨h1, h2⟩ := h j hj
 have hb := heap_three w g' i o a x y hne
 exact ⟨by unfold World.cell? at *; rw [hb]; exact h1, by unfold World.frozen? at *; rw [hb]; exact h2⟩
theorem MtAt.apart {T F U : Nat} (h : MtAt w T F U) {g' : Nat} (hne : T ≠ g') (i o : Nat) (a x y : Value) : MtAt ((w.setCell ⟨g', i, none⟩ a).setCells g' o [x, y]) T F U := h.block (heap_three w g' i o a x y hne)
theorem VecOn.shut (q : VecOn h w g b0 k ws W) (hc : checkI h = 0) (ho : opn (vecTo h k).1 k = false) : VecOn h w g b0 (k + 1) ws W := by
 refine ⟨by rw [vecTo_shut ho]; exact q.at_, fun i hi => ?_, q.bel⟩
 have h1 := q.own i hi
 by_cases e : i < k
 ·rw [if_pos e] at h1; rw [if_pos e] at h1; rw [if_pos (show i < k + 1 by omega), if_pos (show i < k + 1 by omega)]; exact h1
 ·rw [if_neg e] at h1; rw [if_neg e] at h1
  by_cases e2 : i = k
  ·subst e2
   have hn := shut_no hc (r := (vecTo h i).1) (l := i) (fun j hj => by rw [vec_row hc, decide_eq_true hj, Bool.true_and]) ho
   obtain ⟨e3, e4⟩ := decW_none h (i : Int) hn
   rw [if_pos (show i < i + 1 by omega), if_pos (show i < i + 1 by omega), e3, e4]; exact h1
  ·rw [if_neg (show ¬ i < k + 1 by omega), if_neg (show ¬ i < k + 1 by omega)]; exact h1
theorem VecOn.more (q : VecOn h w g b0 k ws W) (hk : k < 12) (ho : opn (vecTo h k).1 k = true) (hgb : g < b0) (hgw : w.heap.size ≤ g) {vo vs : Value} (hW : OwnW W b0 vo vs (decW h (k : Int)).1 (decW h (k : Int)).2.1) :
  VecOn h w g b0 (k + 1) (updW ws k (vo, vs)) ((W.setCell ⟨g, k, none⟩ (.bool (decW h (k : Int)).2.2)).setCells g (12 + 2 * k) [vo, vs]) := by
 have hs : ∀ x y : Value, (W.setCells g (12 + 2 * k) [x, y]) = (W.setCell ⟨g, 12 + 2 * k, none⟩ x).setCell ⟨g, 12 + 2 * k + 1, none⟩ y := fun _ _ => rfl
 have ha := (q.at_.setR hk (decW h (k : Int)).2.2).setW hk vo vs
 have hf : ∀ {vo' vs' : Value} {l : List Int} {LL : List (List Int)}, OwnW W b0 vo' vs' l LL → OwnW ((W.setCell ⟨g, k, none⟩ (.bool (decW h (k : Int)).2.2)).setCells g (12 + 2 * k) [vo, vs]) b0 vo' vs' l LL := fun hq =>
  ((hq.far (p := ⟨g, k, none⟩) hgb _).far (p := ⟨g, 12 + 2 * k, none⟩) hgb vo).far (p := ⟨g, 12 + 2 * k + 1, none⟩) hgb vs
 refine ⟨by rw [vecTo_open ho]; exact ha, fun i hi => ?_, ?_⟩
 ·have h1 := q.own i hi
  unfold updW
  by_cases e2 : i = k
  ·subst e2
   rw [if_pos rfl, if_pos (show i < i + 1 by omega), if_pos (show i < i + 1 by omega)]
   exact hf hW
  ·rw [if_neg e2]
   by_cases e : i < k
   ·rw [if_pos e] at h1; rw [if_pos e] at h1; rw [if_pos (show i < k + 1 by omega), if_pos (show i < k + 1 by omega)]; exact hf h1
   ·rw [if_neg e] at h1; rw [if_neg e] at h1; rw [if_neg (show ¬ i < k + 1 by omega), if_neg (show ¬ i < k + 1 by omega)]; exact hf h1
 ·exact ((q.bel.setCell (p := ⟨g, k, none⟩) hgw _).setCell (p := ⟨g, 12 + 2 * k, none⟩) hgw vo).setCell (p := ⟨g, 12 + 2 * k + 1, none⟩) hgw vs
end
theorem vof_any {w0 w : World} {B b : Nat} {h : List TxnV} (much : Int) (F : Nat) (hF : fuelN much = F) (hO : OrdIs w0 B b h) (ht : Tab w0) (hK : Kinds w0) (hc : checkI h = 0) (hb : Below w0.heap.size w0 w) (hM : ∀ l : Nat, l < 12 → (decN h (l : Int)).2.2 + 2 ≤ 1099511627776) :
  Calls Tryz.prog 46 #[.pointer (some ⟨B, 0, none⟩), .int .i64 much] w fun e w' => VofRes h F w e w' := by
 have CN := hid (fun wx => fnew_any much wx)
 rw [hF] at CN
 have hw0 := hb.size
 have HB0 : Hid (∀ wx, Below w.heap.size w wx → Below w0.heap.size w0 wx) := hid (fun wx hx => hb.trans (hx.mono hb.size))
 have CO := hid (fun (r : Nat → Bool) (l : Nat) wx (hl : l ≤ 12) (hx : Below w.heap.size w wx) => vopen_any r l wx hl (hK.below (hb.trans (hx.mono hb.size))))
 have hbd : ∀ j, j ≤ 12 → (vecTo h j).2 ≤ j * 1099511627776 := vec_bound 1099511627776 (fun (l : Nat) hl => by have := hM l hl; omega)
 have CD := hid (fun (l : Nat) (T F : Nat) wx (hl : l < 12) (hx : Below w.heap.size w wx) (hT : w.heap.size ≤ T) hm (hla : Lasts F (vecTo h l).2 (decN h (l : Int)).2.2) => sdecide_own (w := wx) (l : Int) T F (vecTo h l).2 hO ht hK hc (hb.trans (hx.mono hb.size)) (Nat.le_trans hw0 hT) hm (hM l hl) (fun _ => by have h1 := hM l hl; have h2 := hbd l (by omega); have h3 : l * 1099511627776 ≤ 12 * 1099511627776 := Nat.mul_le_mul_right _ (by omega); omega) hla)
 have CZ := hid (fun (l : Nat) (T F : Nat) wx (hl : l < 12) (hx : Below w.heap.size w wx) (hT : w.heap.size ≤ T) hm (hla : ¬ Lasts F (vecTo h l).2 (decN h (l : Int)).2.2) => sdecide_no (w := wx) (l : Int) T F (vecTo h l).2 hO ht hK hc (hb.trans (hx.mono hb.size)) (Nat.le_trans hw0 hT) hm (hM l hl) hla)
 have HC := hid hc
 clear hO ht hK hc hb hM hbd hw0 hF
 go_enter Tryz.func46, Tryz.ntmps46
 go_upto_region 2 with fail
 have V1 := VecAt.zero w
 have V2 := VecAt.zero (w.alloc (.cells #[.bool false, .bool false, .bool false, .bool false, .bool false, .bool false, .bool false, .bool false, .bool false, .bool false, .bool false, .bool false, .slice none 0 0, .slice none 0 0, .slice none 0 0, .slice none 0 0, .slice none 0 0, .slice none 0 0, .slice none 0 0, .slice none 0 0, .slice none 0 0, .slice none 0 0, .slice none 0 0, .slice none 0 0, .slice none 0 0, .slice none 0 0, .slice none 0 0, .slice none 0 0, .slice none 0 0, .slice none 0 0, .slice none 0 0, .slice none 0 0, .slice none 0 0, .slice none 0 0, .slice none 0 0, .slice none 0 0] 44))
 have hs1 : (w.alloc (.cells #[.bool false, .bool false, .bool false, .bool false, .bool false, .bool false, .bool false, .bool false, .bool false, .bool false, .bool false, .bool false, .slice none 0 0, .slice none 0 0, .slice none 0 0, .slice none 0 0, .slice none 0 0, .slice none 0 0, .slice none 0 0, .slice none 0 0, .slice none 0 0, .slice none 0 0, .slice none 0 0, .slice none 0 0, .slice none 0 0, .slice none 0 0, .slice none 0 0, .slice none 0 0, .slice none 0 0, .slice none 0 0, .slice none 0 0, .slice none 0 0, .slice none 0 0, .slice none 0 0, .slice none 0 0, .slice none 0 0] 44)).heap.size = w.heap.size + 1 := by simp
 have hs2 : ((w.alloc (.cells #[.bool false, .bool false, .bool false, .bool false, .bool false, .bool false, .bool false, .bool false, .bool false, .bool false, .bool false, .bool false, .slice none 0 0, .slice none 0 0, .slice none 0 0, .slice none 0 0, .slice none 0 0, .slice none 0 0, .slice none 0 0, .slice none 0 0, .slice none 0 0, .slice none 0 0, .slice none 0 0, .slice none 0 0, .slice none 0 0, .slice none 0 0, .slice none 0 0, .slice none 0 0, .slice none 0 0, .slice none 0 0, .slice none 0 0, .slice none 0 0, .slice none 0 0, .slice none 0 0, .slice none 0 0, .slice none 0 0] 44)).alloc (.cells #[.bool false, .bool false, .bool false, .bool false, .bool false, .bool false, .bool false, .bool false, .bool false, .bool false, .bool false, .bool false, .slice none 0 0, .slice none 0 0, .slice none 0 0, .slice none 0 0, .slice none 0 0, .slice none 0 0, .slice none 0 0, .slice none 0 0, .slice none 0 0, .slice none 0 0, .slice none 0 0, .slice none 0 0, .slice none 0 0, .slice none 0 0, .slice none 0 0, .slice none 0 0, .slice none 0 0, .slice none 0 0, .slice none 0 0, .slice none 0 0, .slice none 0 0, .slice none 0 0, .slice none 0 0, .slice none 0 0] 44)).heap.size = w.heap.size + 1 + 1 := by simp
 rw [hs1] at V2
 have V1 := V1.below (box_below _ (.cells #[.bool false, .bool false, .bool false, .bool false, .bool false, .bool false, .bool false, .bool false, .bool false, .bool false, .bool false, .bool false, .slice none 0 0, .slice none 0 0, .slice none 0 0, .slice none 0 0, .slice none 0 0, .slice none 0 0, .slice none 0 0, .slice none 0 0, .slice none 0 0, .slice none 0 0, .slice none 0 0, .slice none 0 0, .slice none 0 0, .slice none 0 0, .slice none 0 0, .slice none 0 0, .slice none 0 0, .slice none 0 0, .slice none 0 0, .slice none 0 0, .slice none 0 0, .slice none 0 0, .slice none 0 0, .slice none 0 0] 44)) (by rw [hs1]; omega)
 have hb2 : Below w.heap.size w ((w.alloc (.cells #[.bool false, .bool false, .bool false, .bool false, .bool false, .bool false, .bool false, .bool false, .bool false, .bool false, .bool false, .bool false, .slice none 0 0, .slice none 0 0, .slice none 0 0, .slice none 0 0, .slice none 0 0, .slice none 0 0, .slice none 0 0, .slice none 0 0, .slice none 0 0, .slice none 0 0, .slice none 0 0, .slice none 0 0, .slice none 0 0, .slice none 0 0, .slice none 0 0, .slice none 0 0, .slice none 0 0, .slice none 0 0, .slice none 0 0, .slice none 0 0, .slice none 0 0, .slice none 0 0, .slice none 0 0, .slice none 0 0] 44)).alloc (.cells #[.bool false, .bool false, .bool false, .bool false, .bool false, .bool false, .bool false, .bool false, .bool false, .bool false, .bool false, .bool false, .slice none 0 0, .slice none 0 0, .slice none 0 0, .slice none 0 0, .slice none 0 0, .slice none 0 0, .slice none 0 0, .slice none 0 0, .slice none 0 0, .slice none 0 0, .slice none 0 0, .slice none 0 0, .slice none 0 0, .slice none 0 0, .slice none 0 0, .slice none 0 0, .slice none 0 0, .slice none 0 0, .slice none 0 0, .slice none 0 0, .slice none 0 0, .slice none 0 0, .slice none 0 0, .slice none 0 0] 44)) := below_then (box_below w (.cells #[.bool false, .bool false, .bool false, .bool false, .bool false, .bool false, .bool false, .bool false, .bool false, .bool false, .bool false, .bool false, .slice none 0 0, .slice none 0 0, .slice none 0 0, .slice none 0 0, .slice none 0 0, .slice none 0 0, .slice none 0 0, .slice none 0 0, .slice none 0 0, .slice none 0 0, .slice none 0 0, .slice none 0 0, .slice none 0 0, .slice none 0 0, .slice none 0 0, .slice none 0 0, .slice none 0 0, .slice none 0 0, .slice none 0 0, .slice none 0 0, .slice none 0 0, .slice none 0 0, .slice none 0 0, .slice none 0 0] 44)) (box_below _ (.cells #[.bool false, .bool false, .bool false, .bool false, .bool false, .bool false, .bool false, .bool false, .bool false, .bool false, .bool false, .bool false, .slice none 0 0, .slice none 0 0, .slice none 0 0, .slice none 0 0, .slice none 0 0, .slice none 0 0, .slice none 0 0, .slice none 0 0, .slice none 0 0, .slice none 0 0, .slice none 0 0, .slice none 0 0, .slice none 0 0, .slice none 0 0, .slice none 0 0, .slice none 0 0, .slice none 0 0, .slice none 0 0, .slice none 0 0, .slice none 0 0, .slice none 0 0, .slice none 0 0, .slice none 0 0, .slice none 0 0] 44))
 generalize (w.alloc (.cells #[.bool false, .bool false, .bool false, .bool false, .bool false, .bool false, .bool false, .bool false, .bool false, .bool false, .bool false, .bool false, .slice none 0 0, .slice none 0 0, .slice none 0 0, .slice none 0 0, .slice none 0 0, .slice none 0 0, .slice none 0 0, .slice none 0 0, .slice none 0 0, .slice none 0 0, .slice none 0 0, .slice none 0 0, .slice none 0 0, .slice none 0 0, .slice none 0 0, .slice none 0 0, .slice none 0 0, .slice none 0 0, .slice none 0 0, .slice none 0 0, .slice none 0 0, .slice none 0 0, .slice none 0 0, .slice none 0 0] 44)).alloc (.cells #[.bool false, .bool false, .bool false, .bool false, .bool false, .bool false, .bool false, .bool false, .bool false, .bool false, .bool false, .bool false, .slice none 0 0, .slice none 0 0, .slice none 0 0, .slice none 0 0, .slice none 0 0, .slice none 0 0, .slice none 0 0, .slice none 0 0, .slice none 0 0, .slice none 0 0, .slice none 0 0, .slice none 0 0, .slice none 0 0, .slice none 0 0, .slice none 0 0, .slice none 0 0, .slice none 0 0, .slice none 0 0, .slice none 0 0, .slice none 0 0, .slice none 0 0, .slice none 0 0, .slice none 0 0, .slice none 0 0] 44) = w2 at *
 clear hs1
 go_wp2_with fail
 refine (CN.out _).mono ?_
 rintro e w3 ⟨T, rfl, hm, hT, hb3⟩
 have hTl := hm.lt
 have q0 : VecOn h w (w.heap.size + 1) (T + 1) 0 wZ0 w3 := ⟨by rw [vecTo_zero]; exact V2.below hb3 (by omega), fun i _ => by rw [if_neg (by omega), if_neg (by omega)]; exact OwnW.nil _ _, below_then hb2 hb3⟩
 have V1 := V1.below hb3 (by omega)
 clear CN V2 hb2
 go_wp2_with fail
 go_loopw [14] (fun i wr => ∃ k : Nat, k ≤ 12 ∧ i = .int .i64 k ∧ ∃ ws, VecOn h w (w.heap.size + 1) (T + 1) k ws wr ∧ VecAt wr w.heap.size noB wZ0 ∧ MtAt wr T F (vecTo h k).2 ∧ Lasts F 0 (vecTo h k).2) (fun i _ => 12 - (intOf i).toNat)
 case atStart => exact ⟨0, by omega, rfl, wZ0, q0, V1, by rw [vecTo_zero]; exact hm, by
   rw [vecTo_zero]
   by_cases e : F = 4611686018427387904
   ·exact .inl e
   ·exact .inr (by omega)⟩
 case round =>
  obtain ⟨k, hk, rfl, ws, q, v1, hm, hla⟩ := hrel
  have hTl := hm.lt
  have hkq := q.at_.lt
  by_cases hlt : k < 12
  ·have hki : (k : Int) < 12 := by omega
   have hrow := q.at_.row
   have CO1 := hid (CO.out (vecTo h k).1 k wr (by omega) q.bel)
   cases ho : opn (vecTo h k).1 k with
   | false =>
    rw [ho] at CO1
    have HS := hid (q.shut HC.out ho)
    have HM : Hid (MtAt wr T F (vecTo h (k + 1)).2 ∧ Lasts F 0 (vecTo h (k + 1)).2) := hid (by rw [vecTo_shut ho]; exact ⟨hm, hla⟩)
    clear q hm hla ho CO CD CZ HC
    go_wp2_with (with_reducible refine wpList_load_mid rfl 38 _ rfl (w.heap.size + 1) 0 rfl (rowB (vecTo h k).1).toList _ hrow Tryz.underlying38 rfl (by kernel_rfl) ?_)
    refine CO1.out.mono ?_
    rintro e w4 ⟨rfl, h4⟩
    have HS4 := hid (HS.out.below h4)
    have HM4 := hid (HM.out.1.below h4 hTl)
    have v4 := v1.below h4 v1.lt
    have HLA := hid HM.out.2
    clear HS HM h4 v1 hrow CO1
    go_wp2_with fail
    go_roundw
    case rel => exact ⟨k + 1, by omega, by go_num, ws, HS4.out, v4, HM4.out, HLA.out⟩
    case measure => simp [intOf]; omega
   | true =>
    rw [ho] at CO1
    have HO := hid ho
    have Q := hid q
    have HM := hid hm
    have HLA := hid hla
    have HTT : Hid (w.heap.size ≤ T ∧ T ≠ w.heap.size + 1 ∧ T ≠ w.heap.size) := hid ⟨by omega, by omega, by omega⟩
    clear q hm hla ho
    go_wp2_with (with_reducible refine wpList_load_mid rfl 38 _ rfl (w.heap.size + 1) 0 rfl (rowB (vecTo h k).1).toList _ hrow Tryz.underlying38 rfl (by kernel_rfl) ?_)
    refine CO1.out.mono ?_
    rintro e w4 ⟨rfl, h4⟩
    have q4 := Q.out.below h4
    have hm4 := HM.out.below h4 hTl
    have v4 := v1.below h4 v1.lt
    clear hrow CO1 Q HM v1
    by_cases hl2 : Lasts F (vecTo h k).2 (decN h (k : Int)).2.2
    ·have CD1 := hid (CD.out k T F w4 hlt q4.bel HTT.out.1 hm4 hl2)
     have HL2 : Hid (Lasts F 0 (vecTo h (k + 1)).2) := hid (by
      rw [vecTo_open HO.out]
      rcases hl2 with e | e
      ·exact .inl e
      ·exact .inr (by show 0 + (_ + _) ≤ F; omega))
     have Q := hid q4
     have HT4 := hm4.lt
     clear q4 hm4 hl2 CO CD CZ HLA h4
     go_wp2_with fail
     refine CD1.out.mono ?_
     rintro e w5 ⟨vo, vs, rfl, hW, hm5, hg5⟩
     obtain ⟨oo, no, oc, so, ns, sc, rfl, rfl⟩ := hW.form
     have q5 := Q.out.grown hg5 (by omega) (by have := HTT.out.2.1; omega) HTT.out.1
     have v5 := v4.grown hg5 (fun e => by have := HTT.out.2.2; injection e; omega)
     have hW := hW.base (show T + 1 ≤ w4.heap.size by omega)
     have hbx := box_below w5 (.cells #[.slice oo no oc, .slice so ns sc] 41)
     have WT := WitT.made w5 (.slice oo no oc) (.slice so ns sc) 41
     have q6 := q5.below hbx
     have v6 := v5.below hbx v5.lt
     have hW := hW.below hbx
     have hm6 := hm5.below hbx hm5.lt
     have hs6 : (w5.alloc (.cells #[.slice oo no oc, .slice so ns sc] 41)).heap.size = w5.heap.size + 1 := by simp
     have hq5 := q5.at_.lt
     have hM6 : MtAt (w5.alloc (.cells #[.slice oo no oc, .slice so ns sc] 41)) T F (vecTo h (k + 1)).2 := by rw [vecTo_open HO.out]; exact hm6
     clear CD1 Q v4 hg5 hbx hm5 q5 v5 hm6
     go_upto_region 10 with fail
     generalize w5.alloc (.cells #[.slice oo no oc, .slice so ns sc] 41) = w6 at *
     generalize w5.heap.size = x5 at *
     have kd := (Below.refl w6.heap.size w6).drew
     have WT := WT.below kd
     have q7 := q6.below kd
     have v7 := v6.below kd v6.lt
     have hM7 := hM6.below kd hM6.lt
     have hW := hW.below kd
     have HQ := hid (q7.more hlt HO.out (by omega) (by omega) hW)
     have HV : Hid (VecAt w6.drew (w.heap.size + 1) (vecTo h k).1 ws) := hid q7.at_
     have HV7 := hid v7
     have HM7 := hid hM7
     have hd0 : decide ((k : Int) < 0) = false := decide_eq_false (by omega)
     have hd1 : decide ((12 : Int) ≤ (k : Int)) = false := decide_eq_false (by omega)
     have hd2 : decide (12 ≤ k) = false := decide_eq_false (by omega)
     clear hW q6 q7 v6 v7 hM6 hM7 kd
     refine wp_region_held_drew (S := fun wx => wx.cell? ⟨x5, 0, none⟩ = some (.slice oo no oc) ∧ wx.cell? ⟨x5, 1, none⟩ = some (.slice so ns sc)) (by kernel_rfl) ⟨WT.c0, WT.c1⟩ (fun hS0 => ?_)
     generalize w6.drew = wd at *
     refine tG (some 34) 0 ?vtv0x1 rfl rfl (Or.inl ⟨by rfl, ?htv0x1⟩) hS0 ?rtv0x1
     case htv0x1 => (intro w hw; obtain ⟨m0, m1⟩ := hw; go_simp; try (with_reducible rfl))
     try simp only [Act.put, zA, zB, zC]
     refine tG (some 35) 1 ?vtv1x2 rfl rfl (Or.inl ⟨by rfl, ?htv1x2⟩) hS0 ?rtv1x2
     case htv1x2 => (intro w hw; obtain ⟨m0, m1⟩ := hw; go_simp; try (with_reducible rfl))
     try simp only [Act.put, zA, zB, zC]
     refine tG (some 36) 2 ?vtv2x3 rfl rfl (Or.inl ⟨by rfl, ?htv2x3⟩) hS0 ?rtv2x3
     case htv2x3 => (intro w hw; obtain ⟨m0, m1⟩ := hw; go_simp; try (with_reducible rfl))
     try simp only [Act.put, zA, zB, zC]
     refine tG (some 37) 3 ?vtv3x4 rfl rfl (Or.inl ⟨by rfl, ?htv3x4⟩) hS0 ?rtv3x4
     case htv3x4 => (intro w hw; obtain ⟨m0, m1⟩ := hw; go_simp; try (with_reducible rfl))
     try simp only [Act.put, zA, zB, zC]
     refine tG (some 38) 4 ?vtv4x5 rfl rfl (Or.inl ⟨by rfl, ?htv4x5⟩) hS0 ?rtv4x5
     case htv4x5 => (intro w hw; obtain ⟨m0, m1⟩ := hw; go_simp; try (with_reducible rfl))
     try simp only [Act.put, zA, zB, zC]
     refine tG (some 39) 5 ?vtv5x6 rfl rfl (Or.inl ⟨by rfl, ?htv5x6⟩) hS0 ?rtv5x6
     case htv5x6 => (intro w hw; obtain ⟨m0, m1⟩ := hw; go_simp; try (with_reducible rfl))
     try simp only [Act.put, zA, zB, zC]
     refine tG (some 40) 7 ?vtv7x7 rfl rfl (Or.inl ⟨by rfl, ?htv7x7⟩) hS0 ?rtv7x7
     case htv7x7 => (intro w hw; obtain ⟨m0, m1⟩ := hw; go_simp; try (with_reducible rfl))
     try simp only [Act.put, zA, zB, zC]
     refine rD 6 rfl (fun K hK => ?_)
     have hc0 := (HV.out k (by omega)).1
     have hf0 := (HV.out k (by omega)).2
     go_simp
     have sA : (wd.setCell ⟨w.heap.size + 1, k, none⟩ (.bool (decW h (k : Int)).2.2)).cell? ⟨x5, 0, none⟩ = some (.slice oo no oc) ∧ (wd.setCell ⟨w.heap.size + 1, k, none⟩ (.bool (decW h (k : Int)).2.2)).cell? ⟨x5, 1, none⟩ = some (.slice so ns sc) := ⟨by rw [World.cell?_setCell_other _ _ _ _ (fun e => by injection e; omega)]; exact hS0.1, by rw [World.cell?_setCell_other _ _ _ _ (fun e => by injection e; omega)]; exact hS0.2⟩
     refine hK.out _ _ sA (fun _ => ?_)
     clear hK K hc0 hf0
     refine tG (some 41) 8 ?vtv8x9 rfl rfl (Or.inl ⟨by rfl, ?htv8x9⟩) sA ?rtv8x9
     case htv8x9 => (intro w hw; obtain ⟨m0, m1⟩ := hw; go_simp; try (with_reducible rfl))
     try simp only [Act.put, zA, zB, zC]
     refine rD 9 rfl (fun K hK => ?_)
     have hth : (wd.setCell ⟨w.heap.size + 1, k, none⟩ (.bool (decW h (k : Int)).2.2)).there (w.heap.size + 1) (12 + k * 2) 2 := fun j hj => by
      obtain ⟨q1, q2⟩ := (HV.out.setR hlt (decW h (k : Int)).2.2) (12 + k * 2 + j) (by omega)
      exact ⟨by rw [q1]; rfl, q2⟩
     refine wp_store_mid 41 _ _ rfl (w.heap.size + 1) (12 + k * 2) #[.slice oo no oc, .slice so ns sc] rfl rfl hth (by kernel_rfl) (by simp [Value.oneCell']) ?_
     have sB : ((wd.setCell ⟨w.heap.size + 1, k, none⟩ (.bool (decW h (k : Int)).2.2)).setCells (w.heap.size + 1) (12 + k * 2) [.slice oo no oc, .slice so ns sc]).cell? ⟨x5, 0, none⟩ = some (.slice oo no oc) ∧ ((wd.setCell ⟨w.heap.size + 1, k, none⟩ (.bool (decW h (k : Int)).2.2)).setCells (w.heap.size + 1) (12 + k * 2) [.slice oo no oc, .slice so ns sc]).cell? ⟨x5, 1, none⟩ = some (.slice so ns sc) := ⟨(World.cell?_setCells_out _ _ _ _ _ (fun hb _ => absurd hb (by show ¬ x5 = w.heap.size + 1; omega))).trans sA.1, (World.cell?_setCells_out _ _ _ _ _ (fun hb _ => absurd hb (by show ¬ x5 = w.heap.size + 1; omega))).trans sA.2⟩
     refine hK.out _ _ sB (fun _ => ?_)
     clear hK K hth
     refine wpAnyH_done (by kernel_rfl) ?_ _
     have h12 : 12 + k * 2 = 12 + 2 * k := by omega
     have HR : Hid (VecAt ((wd.setCell ⟨w.heap.size + 1, k, none⟩ (.bool (decW h (k : Int)).2.2)).setCells (w.heap.size + 1) (12 + k * 2) [.slice oo no oc, .slice so ns sc]) w.heap.size noB wZ0 ∧ MtAt ((wd.setCell ⟨w.heap.size + 1, k, none⟩ (.bool (decW h (k : Int)).2.2)).setCells (w.heap.size + 1) (12 + k * 2) [.slice oo no oc, .slice so ns sc]) T F (vecTo h (k + 1)).2) := hid ⟨HV7.out.apart (by omega) _ _ _ _ _, HM7.out.apart (by have := HTT.out.2.1; omega) _ _ _ _ _⟩
     rw [← h12] at HQ
     generalize (wd.setCell ⟨w.heap.size + 1, k, none⟩ (.bool (decW h (k : Int)).2.2)).setCells (w.heap.size + 1) (12 + k * 2) [.slice oo no oc, .slice so ns sc] = w8 at *
     go_wp2_with fail
     go_roundw
     case rel => exact ⟨k + 1, by omega, by go_num, _, HQ.out, HR.out.1, HR.out.2, HL2.out⟩
     case measure => simp [intOf]; omega
    ·have CZ1 := hid (CZ.out k T F w4 hlt q4.bel HTT.out.1 hm4 hl2)
     have HL2 : Hid (¬ Lasts F 0 (vecTo h 12).2) := hid (fun e => by
      have h1 := vecTo_cost h (i := k + 1) (j := 12) (by omega)
      rw [vecTo_open HO.out] at h1
      have h1 : (vecTo h k).2 + (decN h (k : Int)).2.2 ≤ (vecTo h 12).2 := h1
      rcases e with e | e
      ·exact hl2 (.inl e)
      ·exact hl2 (.inr (by omega)))
     have Q := hid q4
     clear q4 hm4 hl2 CO CD CZ HLA h4
     go_wp2_with fail
     refine CZ1.out.mono ?_
     rintro e w5 ⟨rfl, hm5, hg5, _⟩
     have q5 := Q.out.grown hg5 (by omega) (by have := HTT.out.2.1; omega) HTT.out.1
     have v5 := v4.grown hg5 (fun e => by have := HTT.out.2.2; injection e; omega)
     have hbx := box_below w5 (.cells #[.slice none 0 0, .slice none 0 0] 41)
     have HQB := hid (below_then q5.bel hbx)
     have v6 := v5.below hbx v5.lt
     clear CZ1 Q v4 hg5 hbx hm5 q5 v5
     go_upto_region 9 with fail
     generalize w5.alloc (.cells #[.slice none 0 0, .slice none 0 0] 41) = w6 at *
     have hth : w6.there w.heap.size 0 (#[.bool false, .bool false, .bool false, .bool false, .bool false, .bool false, .bool false, .bool false, .bool false, .bool false, .bool false, .bool false, .slice none 0 0, .slice none 0 0, .slice none 0 0, .slice none 0 0, .slice none 0 0, .slice none 0 0, .slice none 0 0, .slice none 0 0, .slice none 0 0, .slice none 0 0, .slice none 0 0, .slice none 0 0, .slice none 0 0, .slice none 0 0, .slice none 0 0, .slice none 0 0, .slice none 0 0, .slice none 0 0, .slice none 0 0, .slice none 0 0, .slice none 0 0, .slice none 0 0, .slice none 0 0, .slice none 0 0] : Array Value).size := v6.there (n := 36) (by omega)
     have hzl : vecL noB wZ0 = [.bool false, .bool false, .bool false, .bool false, .bool false, .bool false, .bool false, .bool false, .bool false, .bool false, .bool false, .bool false, .slice none 0 0, .slice none 0 0, .slice none 0 0, .slice none 0 0, .slice none 0 0, .slice none 0 0, .slice none 0 0, .slice none 0 0, .slice none 0 0, .slice none 0 0, .slice none 0 0, .slice none 0 0, .slice none 0 0, .slice none 0 0, .slice none 0 0, .slice none 0 0, .slice none 0 0, .slice none 0 0, .slice none 0 0, .slice none 0 0, .slice none 0 0, .slice none 0 0, .slice none 0 0, .slice none 0 0] := by kernel_rfl
     have HV9 := v6.put noB wZ0
     have HB9 : Below w.heap.size w (w6.setCells w.heap.size 0 (vecL noB wZ0)) := below_putC (Nat.le_refl _) _ _ _ HQB.out
     rw [hzl] at HV9 HB9
     have HV9 := hid HV9
     have HB9 := hid HB9
     have hone : (#[.bool false, .bool false, .bool false, .bool false, .bool false, .bool false, .bool false, .bool false, .bool false, .bool false, .bool false, .bool false, .slice none 0 0, .slice none 0 0, .slice none 0 0, .slice none 0 0, .slice none 0 0, .slice none 0 0, .slice none 0 0, .slice none 0 0, .slice none 0 0, .slice none 0 0, .slice none 0 0, .slice none 0 0, .slice none 0 0, .slice none 0 0, .slice none 0 0, .slice none 0 0, .slice none 0 0, .slice none 0 0, .slice none 0 0, .slice none 0 0, .slice none 0 0, .slice none 0 0, .slice none 0 0, .slice none 0 0] : Array Value).all (·.oneCell') = true := by simp [Value.oneCell']
     clear v6 hzl
     go_wp2_with (with_reducible refine wpList_store_mid rfl 44 _ _ rfl w.heap.size 0 #[.bool false, .bool false, .bool false, .bool false, .bool false, .bool false, .bool false, .bool false, .bool false, .bool false, .bool false, .bool false, .slice none 0 0, .slice none 0 0, .slice none 0 0, .slice none 0 0, .slice none 0 0, .slice none 0 0, .slice none 0 0, .slice none 0 0, .slice none 0 0, .slice none 0 0, .slice none 0 0, .slice none 0 0, .slice none 0 0, .slice none 0 0, .slice none 0 0, .slice none 0 0, .slice none 0 0, .slice none 0 0, .slice none 0 0, .slice none 0 0, .slice none 0 0, .slice none 0 0, .slice none 0 0, .slice none 0 0] rfl rfl hth (by kernel_rfl) hone ?_)
     exact bodyPost_ret (results_vec rfl _ _ _ noB wZ0 rfl HV9.out) rfl ⟨HB9.out, .inr ⟨HL2.out, rfl⟩⟩
  ·obtain rfl : k = 12 := by omega
   have hki : ¬ ((12 : Nat) : Int) < 12 := by omega
   have hall := q.at_.all
   have hth : wr.there w.heap.size 0 36 := v1.there (by omega)
   have HV9 := hid (v1.put (vecTo h 12).1 ws)
   have HB9 : Hid (Below w.heap.size w (wr.setCells w.heap.size 0 (vecL (vecTo h 12).1 ws))) := hid (below_putC (Nat.le_refl _) _ _ _ q.bel)
   have HO9 : Hid (∀ i, i < 12 → OwnW (wr.setCells w.heap.size 0 (vecL (vecTo h 12).1 ws)) w.heap.size (ws i).1 (ws i).2 (decW h (i : Int)).1 (decW h (i : Int)).2.1) := hid (fun i hi => by
    have h1 := q.own i hi
    rw [if_pos hi] at h1; rw [if_pos hi] at h1
    exact (h1.cells (g := w.heap.size) (by omega) 0 _).base (by omega))
   have HE9 : Hid (vecL (accV h) ws = vecL (vecTo h 12).1 ws) := hid (vecL_congr fun i hi => by rw [vec_row HC.out, decide_eq_true hi, Bool.true_and]; rfl)
   have hone : (vecL (vecTo h 12).1 ws).toArray.all (·.oneCell') = true := vecL_one fun i hi => by obtain ⟨_, _, _, _, _, _, e1, e2⟩ := (q.own i hi).form; rw [e1, e2]; exact ⟨rfl, rfl⟩
   have hth2 : wr.there w.heap.size 0 (vecL (vecTo h 12).1 ws).toArray.size := by rw [show (vecL (vecTo h 12).1 ws).toArray.size = 36 from vecL_len _ _]; exact hth
   have hinf : (Tryz.prog.info? 44).map (·.size) = some (vecL (vecTo h 12).1 ws).toArray.size := by rw [show (vecL (vecTo h 12).1 ws).toArray.size = 36 from vecL_len _ _]; kernel_rfl
   have hinf2 : (Tryz.prog.info? 44).map (·.size) = some (vecL (vecTo h 12).1 ws).length := by rw [vecL_len]; kernel_rfl
   go_wp2_with (first
    | (with_reducible refine wpList_load_mid rfl 44 _ rfl (w.heap.size + 1) 0 rfl (vecL (vecTo h 12).1 ws) _ hall Tryz.underlying44 rfl hinf2 ?_)
    | (with_reducible refine wpList_store_mid rfl 44 _ _ rfl w.heap.size 0 (vecL (vecTo h 12).1 ws).toArray rfl rfl hth2 hinf hone ?_))
   refine bodyPost_ret (results_vec rfl _ _ _ (vecTo h 12).1 ws rfl HV9.out) rfl ⟨HB9.out, .inl ⟨hla, ws, ?_, HO9.out⟩⟩
   rw [HE9.out]; rfl
end

section
open Go.RowKit
theorem guard_rowB (o : BinOp) (x y : Operand) (r s : Nat → Bool) (w : World) : Sem.run Tryz.prog (eqGuard o 38 x y (.agg (rowB r)) (.agg (rowB s))) w = .ok () w :=
 run_eqGuard_agg w o 38 x y _ _ (by kernel_rfl)
end

section
open Go.RowKit
def eqlB (r s : Nat → Bool) : Bool := (List.range 12).all fun i => r i == s i
theorem eqlB_one {r s : Nat → Bool} (h : ∀ i, i < 12 → r i = s i) : eqlB r s = true := by
 unfold eqlB
 rw [List.all_eq_true]
 intro i hi
 rw [h i (List.mem_range.1 hi)]; simp
theorem items_rowB2 (r s : Nat → Bool) (w : World) : ∀ (is : List Nat), (∀ i ∈ is, i < 12) → (Op.eqItems 9999 4 1 (rowB r) (rowB s) is).run Tryz.prog w = .ok (is.all fun i => r i == s i) w
 | [], _ => by simp [Op.eqItems]
 | i :: is, h => by
  have hi := h i List.mem_cons_self
  have h1 := rowB_at r hi
  have h2 := rowB_at s hi
  have ih := items_rowB2 r s w is (fun j hj => h j (List.mem_cons_of_mem _ hj))
  have hp : (part 4 (rowB r) (i * 1)).run Tryz.prog w = .ok (.bool (r i)) w := by
   simp [part, isAgg, Sem.run_bind, run_underlying Tryz.underlying4 w, h1]
  have hq : (part 4 (rowB s) (i * 1)).run Tryz.prog w = .ok (.bool (s i)) w := by
   simp [part, isAgg, Sem.run_bind, run_underlying Tryz.underlying4 w, h2]
  have he : (Op.equalIn (9998 + 1) 4 (.bool (r i)) (.bool (s i))).run Tryz.prog w = .ok (r i == s i) w := by
   rw [run_equalIn_bool w 9998 4 _ _ Tryz.underlying4]
  simp only [Op.eqItems, Sem.run_bind, hp, hq, Result.andThen_ok, List.all_cons]
  rw [he]
  cases hrs : (r i == s i) with
  | true =>
   simp only [Result.andThen_ok, Bool.not_true, Bool.false_eq_true, if_false, Bool.true_and]
   exact ih
  | false => simp
theorem run_eql_rowB2 (r s : Nat → Bool) (w : World) : (binOp .eql 38 (.agg (rowB r)) (.agg (rowB s))).run Tryz.prog w = .ok (.bool (eqlB r s)) w := by
 obtain ⟨i, hi, _⟩ := Option.map_eq_some_iff.1 infoBool
 have hc : Tryz.prog.cellsOf 4 = 1 := by kernel_rfl
 rw [run_eql_struct, run_equalIn_array w 9999 (rowB r) (rowB s) Tryz.underlying38 hi, hc, items_rowB2 r s w _ (fun i hi => List.mem_range.1 hi)]
 rfl
theorem wpList_load_midG {P : Program} {ops : Array Oper} {rest : List Oper} {op : Oper} {a : Act} {w : World} {Q : Exit → Act → World → Prop} (ty : TypeId) (x : Operand) (ho : op.op = .load ty x) (hw : Region.wanted op (yielded ops a.tmps) = true)
  (b o : Nat) (hx : a.eval x = .pointer (some ⟨b, o, none⟩)) (cs : List Value) (d : TypeDesc) (hc : w.rangeAt b o cs)
  (hu : P.underlying ty = some d) (hd : d.isRow = true) (hi : (P.info? ty).map (·.size) = some cs.length)
  (h : wpList P ops Q rest (a.put op.dst (.agg cs.toArray)) w) : wpList P ops Q (op :: rest) a w :=
 wpList_step fun K hK => by rw [if_pos hw]; exact wp_load_mid ty x ho b o hx cs d hc hu hd hi (hK _ _ h)
theorem VecAt.boxed (w : World) (r : Nat → Bool) (ws : Nat → Value × Value) : VecAt (w.alloc (.cells (vecL r ws).toArray 44)) w.heap.size r ws := VecAt.made w _ r ws
theorem vsame_any (r s : Nat → Bool) (ws us : Nat → Value × Value) (w : World) :
  Calls Tryz.prog 16 #[.agg (vecL r ws).toArray, .agg (vecL s us).toArray] w fun e w' => e = .returned (.bool (eqlB r s)) ∧ Below w.heap.size w w' := by
 have v1 := VecAt.boxed w r ws
 have b1 := box_below w (.cells (vecL r ws).toArray 44)
 have v2 := VecAt.boxed (w.alloc (.cells (vecL r ws).toArray 44)) s us
 have b2 := box_below (w.alloc (.cells (vecL r ws).toArray 44)) (.cells (vecL s us).toArray 44)
 have hs : (w.alloc (.cells (vecL r ws).toArray 44)).heap.size = w.heap.size + 1 := by simp
 have v1 := v1.below b2 (by rw [hs]; omega)
 rw [hs] at v2
 have hb := below_then b1 b2
 have G0 := fun (x y : Operand) (w : World) => guard_rowB .eql x y r s w
 have E0 := fun (w : World) => run_eql_rowB2 r s w
 have r1 := v1.row
 have r2 := v2.row
 clear b1 b2 hs v1 v2
 go_enter Tryz.func16, Tryz.ntmps16
 go_upto_region 1 with fail
 generalize (w.alloc (.cells (vecL r ws).toArray 44)).alloc (.cells (vecL s us).toArray 44) = w2 at *
 go_wp2_with (first
  | (with_reducible refine wpList_load_mid rfl 38 _ rfl w.heap.size 0 rfl (rowB r).toList _ r1 Tryz.underlying38 rfl (by kernel_rfl) ?_)
  | (with_reducible refine wpList_load_mid rfl 38 _ rfl (w.heap.size + 1) 0 rfl (rowB s).toList _ r2 Tryz.underlying38 rfl (by kernel_rfl) ?_))
 go_ret
 exact ⟨rfl, hb⟩
end

end Go.Proofs.YtnhkjehfmbfmmaaGreatDoor
