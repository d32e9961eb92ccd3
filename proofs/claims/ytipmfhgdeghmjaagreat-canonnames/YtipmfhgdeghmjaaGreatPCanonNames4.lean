/- Walks and plain facts that the proof of the statement CanonNames uses, joined: RenH RenI RenJ Tx0 CanJ VecA VecB VecC VecD TblM VecE VecF VecG VecH LevD TblD TblE TblF TblG TblJ TblH TblK VecJ VecK CanK CanL RenK RenM RenL RenN RenO RenP OkN NmL. Conditions: each theorem's own. -/
import Derived.Test.YtipmfhgdeghmjaaGreatShelfS
import Derived.Maps.OwnSet
import Derived.Deep.MidRow
import Derived.ChangeKeysEq
import Derived.Outline
import Derived.Laws.BitsAllLaws
import Derived.Test.YtipmfhgdeghmjaaGreatPCanonNames0
import Derived.Test.YtipmfhgdeghmjaaGreatPCanonNames1
import Derived.Test.YtipmfhgdeghmjaaGreatPCanonNames2
import Derived.Test.YtipmfhgdeghmjaaGreatPCanonNames3
namespace Go.Proofs.YtipmfhgdeghmjaaGreat
set_option maxHeartbeats 32000000
set_option maxRecDepth 100000
set_option linter.unusedSimpArgs false
set_option linter.unusedVariables false
open Lib (hid)
section
open Go.RowKit
set_option linter.unusedSimpArgs false in
theorem rrenamed_any (ts tb tc : Int) (vo : Value) (l : List OpV) (vK vS vV vT vO : Value) (FK FS FV FT : Int → Option Int) (w : World) (hN : NmA w vK vS vV vT FK FS FV FT) (hQ : ∃ a n c, vO = .slice a n c) (ho : Ops w vo l) (hl : l.length ≤ 1024)
  (is : InI ts) (ib : InI tb) (ic : InI tc) (il : ∀ o ∈ l, InI o.key ∧ InI o.val) :
  Calls Tryz.prog 65 #[.agg #[.int .i64 ts, .int .i64 tb, .int .i64 tc, vo], .agg #[vK, vS, vV, vT, vO]] w fun e w' => (∃ u, e = .returned (.agg #[.int .i64 (nmF FS ts), .int .i64 (nmF FT tb), .int .i64 (nmF FT tc), u]) ∧ Own w' w.heap.size u (l.map (renO (nmF FK) (nmF FV)))) ∧ Below w.heap.size w w' := by
 obtain ⟨i1, hj, hy0, hy1, hy2⟩ := info_parts infoOp
 have HN := hid (fun wx (hx : Below w.heap.size w wx) => hN.below hx)
 have HO := hid (fun wx (hx : Below w.heap.size w wx) => ho.below hx)
 have CN1 := hid (fun wx (hx : Below w.heap.size w wx) => rname_any vS FS ts wx (hN.s.below hx) is)
 have CN2 := hid (fun wx (hx : Below w.heap.size w wx) => rname_any vT FT tb wx (hN.t.below hx) ib)
 have CN3 := hid (fun wx (hx : Below w.heap.size w wx) => rname_any vT FT tc wx (hN.t.below hx) ic)
 have CK := hid (fun x wx (hx : Below w.heap.size w wx) (i : InI x) => rname_any vK FK x wx (hN.k.below hx) i)
 have CV := hid (fun x wx (hx : Below w.heap.size w wx) (i : InI x) => rname_any vV FV x wx (hN.v.below hx) i)
 obtain ⟨mK, rfl⟩ := hN.k.form
 obtain ⟨mS, rfl⟩ := hN.s.form
 obtain ⟨mV, rfl⟩ := hN.v.form
 obtain ⟨mT, rfl⟩ := hN.t.form
 obtain ⟨qa, qn, qc, rfl⟩ := hQ
 obtain ⟨oo, oc, rfl, _⟩ := ho.form
 have HIL := hid il
 obtain ⟨fs, hfs⟩ : ∃ z, nmF FS ts = z := ⟨_, rfl⟩
 obtain ⟨fb, hfb⟩ : ∃ z, nmF FT tb = z := ⟨_, rfl⟩
 obtain ⟨fc, hfc⟩ : ∃ z, nmF FT tc = z := ⟨_, rfl⟩
 rw [hfs] at CN1 ⊢
 rw [hfb] at CN2 ⊢
 rw [hfc] at CN3 ⊢
 clear hN ho is ib ic il hfs hfb hfc HN
 obtain ⟨p3, hp3⟩ : ∃ p, w.heap.size + 1 = p := ⟨_, rfl⟩
 obtain ⟨p4, hp4⟩ : ∃ p, w.heap.size + 1 + 1 = p := ⟨_, rfl⟩
 have hs2 : (w.alloc (.cells #[.int .i64 ts, .int .i64 tb, .int .i64 tc, .slice oo l.length oc] 52)).heap.size = w.heap.size + 1 := by simp
 have hs3 : ((w.alloc (.cells #[.int .i64 ts, .int .i64 tb, .int .i64 tc, .slice oo l.length oc] 52)).alloc (.cells #[.map mK, .map mS, .map mV, .map mT, .slice qa qn qc] 33)).heap.size = w.heap.size + 1 + 1 := by simp
 have hs4 : (((w.alloc (.cells #[.int .i64 ts, .int .i64 tb, .int .i64 tc, .slice oo l.length oc] 52)).alloc (.cells #[.map mK, .map mS, .map mV, .map mT, .slice qa qn qc] 33)).alloc (.cells #[.int .i64 0, .int .i64 0, .int .i64 0, .slice none 0 0] 52)).heap.size = w.heap.size + 1 + 1 + 1 := by simp
 have hB2 : BoxN (((w.alloc (.cells #[.int .i64 ts, .int .i64 tb, .int .i64 tc, .slice oo l.length oc] 52)).alloc (.cells #[.map mK, .map mS, .map mV, .map mT, .slice qa qn qc] 33)).alloc (.cells #[.int .i64 0, .int .i64 0, .int .i64 0, .slice none 0 0] 52)) w.heap.size 52 #[.int .i64 ts, .int .i64 tb, .int .i64 tc, .slice oo l.length oc] := by
  have q := ((BoxN.new w 52 #[.int .i64 ts, .int .i64 tb, .int .i64 tc, .slice oo l.length oc]).below (box_below _ (.cells #[.map mK, .map mS, .map mV, .map mT, .slice qa qn qc] 33))).below (box_below _ (.cells #[.int .i64 0, .int .i64 0, .int .i64 0, .slice none 0 0] 52)); exact q
 have hB3 : BoxN (((w.alloc (.cells #[.int .i64 ts, .int .i64 tb, .int .i64 tc, .slice oo l.length oc] 52)).alloc (.cells #[.map mK, .map mS, .map mV, .map mT, .slice qa qn qc] 33)).alloc (.cells #[.int .i64 0, .int .i64 0, .int .i64 0, .slice none 0 0] 52)) p3 33 #[.map mK, .map mS, .map mV, .map mT, .slice qa qn qc] := by
  have q := (BoxN.new (w.alloc (.cells #[.int .i64 ts, .int .i64 tb, .int .i64 tc, .slice oo l.length oc] 52)) 33 #[.map mK, .map mS, .map mV, .map mT, .slice qa qn qc]).below (box_below _ (.cells #[.int .i64 0, .int .i64 0, .int .i64 0, .slice none 0 0] 52)); rwa [hs2, hp3] at q
 have hB4 : BoxN (((w.alloc (.cells #[.int .i64 ts, .int .i64 tb, .int .i64 tc, .slice oo l.length oc] 52)).alloc (.cells #[.map mK, .map mS, .map mV, .map mT, .slice qa qn qc] 33)).alloc (.cells #[.int .i64 0, .int .i64 0, .int .i64 0, .slice none 0 0] 52)) p4 52 #[.int .i64 0, .int .i64 0, .int .i64 0, .slice none 0 0] := by
  have q := BoxN.new ((w.alloc (.cells #[.int .i64 ts, .int .i64 tb, .int .i64 tc, .slice oo l.length oc] 52)).alloc (.cells #[.map mK, .map mS, .map mV, .map mT, .slice qa qn qc] 33)) 52 #[.int .i64 0, .int .i64 0, .int .i64 0, .slice none 0 0]; rwa [hs3, hp4] at q
 have hb1 := (((Below.refl w.heap.size w).alloc (Nat.le_refl _) (.cells #[.int .i64 ts, .int .i64 tb, .int .i64 tc, .slice oo l.length oc] 52)).alloc (by simp) (.cells #[.map mK, .map mS, .map mV, .map mT, .slice qa qn qc] 33)).alloc (by simp; omega) (.cells #[.int .i64 0, .int .i64 0, .int .i64 0, .slice none 0 0] 52)
 have HP3 := hid hp3
 have HP4 := hid hp4
 have hq3 : w.heap.size < p3 := by omega
 have hq4 : p3 < p4 := by omega
 have hq5 : p4 < (((w.alloc (.cells #[.int .i64 ts, .int .i64 tb, .int .i64 tc, .slice oo l.length oc] 52)).alloc (.cells #[.map mK, .map mS, .map mV, .map mT, .slice qa qn qc] 33)).alloc (.cells #[.int .i64 0, .int .i64 0, .int .i64 0, .slice none 0 0] 52)).heap.size := by omega
 clear hs2 hs3 hs4 hp3 hp4
 go_enter Tryz.func65, Tryz.ntmps65
 go_upto_region 1 with fail
 generalize ((w.alloc (.cells #[.int .i64 ts, .int .i64 tb, .int .i64 tc, .slice oo l.length oc] 52)).alloc (.cells #[.map mK, .map mS, .map mV, .map mT, .slice qa qn qc] 33)).alloc (.cells #[.int .i64 0, .int .i64 0, .int .i64 0, .slice none 0 0] 52) = w1 at *
 rw [HP4.out, HP3.out]
 have CN1 := hid (fun wx (hx : Below w1.heap.size w1 wx) => CN1.out wx (below_then hb1 hx))
 have CN2 := hid (fun wx (hx : Below w1.heap.size w1 wx) => CN2.out wx (below_then hb1 hx))
 have CN3 := hid (fun wx (hx : Below w1.heap.size w1 wx) => CN3.out wx (below_then hb1 hx))
 have HB1 := hid hb1
 have HB4 := hid hB4
 clear hb1 hB4
 go_cut [5] from 5 to 23 (fun u5 wx => ∃ p : Nat, u5 = .pointer (some ⟨p, 0, none⟩) ∧ Hid (w1.heap.size ≤ p) ∧ Hid (BoxN wx p 52 #[.int .i64 fs, .int .i64 fb, .int .i64 fc, .slice none 0 0]) ∧ Hid (Below w1.heap.size w1 wx))
 case first =>
  have kd := (Below.refl w1.heap.size w1).drew
  have hwd : w1.drew.heap.size = w1.heap.size := rfl
  have hB2 := hB2.below kd
  have hB3 := hB3.below kd
  refine wp_region_held_drew (S := fun wx => BoxN wx w.heap.size 52 #[.int .i64 ts, .int .i64 tb, .int .i64 tc, .slice oo l.length oc] ∧ BoxN wx p3 33 #[.map mK, .map mS, .map mV, .map mT, .slice qa qn qc]) (by kernel_rfl) ⟨hB2, hB3⟩ (fun hS0 => ?_)
  generalize w1.drew = wd at *
  refine tG (some 8) 0 ?vha0x1 rfl rfl (Or.inl ⟨by rfl, ?hha0x1⟩) hS0 ?rha0x1
  case hha0x1 => (intro w hw; obtain ⟨m1, m2⟩ := hw; have x0 := m1.cell (i := 0) rfl; have x1 := m1.cell (i := 1) rfl; have x2 := m1.cell (i := 2) rfl; have y0 := m2.cell (i := 0) rfl; have y1 := m2.cell (i := 1) rfl; have y2 := m2.cell (i := 2) rfl; have y3 := m2.cell (i := 3) rfl; go_simp; try (with_reducible rfl))
  try simp only [Act.put, zA, zB, zC]
  refine tG (some 9) 1 ?vha1x2 rfl rfl (Or.inl ⟨by rfl, ?hha1x2⟩) hS0 ?rha1x2
  case hha1x2 => (intro w hw; obtain ⟨m1, m2⟩ := hw; have x0 := m1.cell (i := 0) rfl; have x1 := m1.cell (i := 1) rfl; have x2 := m1.cell (i := 2) rfl; have y0 := m2.cell (i := 0) rfl; have y1 := m2.cell (i := 1) rfl; have y2 := m2.cell (i := 2) rfl; have y3 := m2.cell (i := 3) rfl; go_simp; try (with_reducible rfl))
  try simp only [Act.put, zA, zB, zC]
  refine tG (some 10) 2 ?vha2x3 rfl rfl (Or.inl ⟨by rfl, ?hha2x3⟩) hS0 ?rha2x3
  case hha2x3 => (intro w hw; obtain ⟨m1, m2⟩ := hw; have x0 := m1.cell (i := 0) rfl; have x1 := m1.cell (i := 1) rfl; have x2 := m1.cell (i := 2) rfl; have y0 := m2.cell (i := 0) rfl; have y1 := m2.cell (i := 1) rfl; have y2 := m2.cell (i := 2) rfl; have y3 := m2.cell (i := 3) rfl; go_simp; try (with_reducible rfl))
  try simp only [Act.put, zA, zB, zC]
  refine tG (some 11) 3 ?vha3x4 rfl rfl (Or.inl ⟨by rfl, ?hha3x4⟩) hS0 ?rha3x4
  case hha3x4 => (intro w hw; obtain ⟨m1, m2⟩ := hw; have x0 := m1.cell (i := 0) rfl; have x1 := m1.cell (i := 1) rfl; have x2 := m1.cell (i := 2) rfl; have y0 := m2.cell (i := 0) rfl; have y1 := m2.cell (i := 1) rfl; have y2 := m2.cell (i := 2) rfl; have y3 := m2.cell (i := 3) rfl; go_simp; try (with_reducible rfl))
  try simp only [Act.put, zA, zB, zC]
  refine tG (some 13) 5 ?vha5x5 rfl rfl (Or.inl ⟨by rfl, ?hha5x5⟩) hS0 ?rha5x5
  case hha5x5 => (intro w hw; obtain ⟨m1, m2⟩ := hw; have x0 := m1.cell (i := 0) rfl; have x1 := m1.cell (i := 1) rfl; have x2 := m1.cell (i := 2) rfl; have y0 := m2.cell (i := 0) rfl; have y1 := m2.cell (i := 1) rfl; have y2 := m2.cell (i := 2) rfl; have y3 := m2.cell (i := 3) rfl; go_simp; try (with_reducible rfl))
  try simp only [Act.put, zA, zB, zC]
  refine tG (some 14) 6 ?vha6x6 rfl rfl (Or.inl ⟨by rfl, ?hha6x6⟩) hS0 ?rha6x6
  case hha6x6 => (intro w hw; obtain ⟨m1, m2⟩ := hw; have x0 := m1.cell (i := 0) rfl; have x1 := m1.cell (i := 1) rfl; have x2 := m1.cell (i := 2) rfl; have y0 := m2.cell (i := 0) rfl; have y1 := m2.cell (i := 1) rfl; have y2 := m2.cell (i := 2) rfl; have y3 := m2.cell (i := 3) rfl; go_simp; try (with_reducible rfl))
  try simp only [Act.put, zA, zB, zC]
  refine tG (some 15) 7 ?vha7x7 rfl rfl (Or.inl ⟨by rfl, ?hha7x7⟩) hS0 ?rha7x7
  case hha7x7 => (intro w hw; obtain ⟨m1, m2⟩ := hw; have x0 := m1.cell (i := 0) rfl; have x1 := m1.cell (i := 1) rfl; have x2 := m1.cell (i := 2) rfl; have y0 := m2.cell (i := 0) rfl; have y1 := m2.cell (i := 1) rfl; have y2 := m2.cell (i := 2) rfl; have y3 := m2.cell (i := 3) rfl; go_simp; try (with_reducible rfl))
  try simp only [Act.put, zA, zB, zC]
  refine tG (some 16) 8 ?vha8x8 rfl rfl (Or.inl ⟨by rfl, ?hha8x8⟩) hS0 ?rha8x8
  case hha8x8 => (intro w hw; obtain ⟨m1, m2⟩ := hw; have x0 := m1.cell (i := 0) rfl; have x1 := m1.cell (i := 1) rfl; have x2 := m1.cell (i := 2) rfl; have y0 := m2.cell (i := 0) rfl; have y1 := m2.cell (i := 1) rfl; have y2 := m2.cell (i := 2) rfl; have y3 := m2.cell (i := 3) rfl; go_simp; try (with_reducible rfl))
  try simp only [Act.put, zA, zB, zC]
  refine tG (some 18) 10 ?vha10x9 rfl rfl (Or.inl ⟨by rfl, ?hha10x9⟩) hS0 ?rha10x9
  case hha10x9 => (intro w hw; obtain ⟨m1, m2⟩ := hw; have x0 := m1.cell (i := 0) rfl; have x1 := m1.cell (i := 1) rfl; have x2 := m1.cell (i := 2) rfl; have y0 := m2.cell (i := 0) rfl; have y1 := m2.cell (i := 1) rfl; have y2 := m2.cell (i := 2) rfl; have y3 := m2.cell (i := 3) rfl; go_simp; try (with_reducible rfl))
  try simp only [Act.put, zA, zB, zC]
  refine tG (some 19) 11 ?vha11x10 rfl rfl (Or.inl ⟨by rfl, ?hha11x10⟩) hS0 ?rha11x10
  case hha11x10 => (intro w hw; obtain ⟨m1, m2⟩ := hw; have x0 := m1.cell (i := 0) rfl; have x1 := m1.cell (i := 1) rfl; have x2 := m1.cell (i := 2) rfl; have y0 := m2.cell (i := 0) rfl; have y1 := m2.cell (i := 1) rfl; have y2 := m2.cell (i := 2) rfl; have y3 := m2.cell (i := 3) rfl; go_simp; try (with_reducible rfl))
  try simp only [Act.put, zA, zB, zC]
  refine tG (some 20) 12 ?vha12x11 rfl rfl (Or.inl ⟨by rfl, ?hha12x11⟩) hS0 ?rha12x11
  case hha12x11 => (intro w hw; obtain ⟨m1, m2⟩ := hw; have x0 := m1.cell (i := 0) rfl; have x1 := m1.cell (i := 1) rfl; have x2 := m1.cell (i := 2) rfl; have y0 := m2.cell (i := 0) rfl; have y1 := m2.cell (i := 1) rfl; have y2 := m2.cell (i := 2) rfl; have y3 := m2.cell (i := 3) rfl; go_simp; try (with_reducible rfl))
  try simp only [Act.put, zA, zB, zC]
  refine tG (some 21) 13 ?vha13x12 rfl rfl (Or.inl ⟨by rfl, ?hha13x12⟩) hS0 ?rha13x12
  case hha13x12 => (intro w hw; obtain ⟨m1, m2⟩ := hw; have x0 := m1.cell (i := 0) rfl; have x1 := m1.cell (i := 1) rfl; have x2 := m1.cell (i := 2) rfl; have y0 := m2.cell (i := 0) rfl; have y1 := m2.cell (i := 1) rfl; have y2 := m2.cell (i := 2) rfl; have y3 := m2.cell (i := 3) rfl; go_simp; try (with_reducible rfl))
  try simp only [Act.put, zA, zB, zC]
  refine wpAnyH_ready (rs := [4, 16]) (by kernel_rfl) (by simp) ?_
  refine AllReadyH.cons rfl (fun K hK => ?_) (AllReadyH.cons rfl (fun K hK => ?_) AllReadyH.nil)
  ·
   go_simp
   refine (CN1.out _ kd).mono ?_
   rintro e wq ⟨rfl, rfl⟩
   show K _ _
   refine hK.out _ _ hS0 (fun _ => ?_)
   clear hK K
   refine wpAnyH_ready (rs := [9, 16]) (by kernel_rfl) (by simp) ?_
   refine AllReadyH.cons rfl (fun K hK => ?_) (AllReadyH.cons rfl (fun K hK => ?_) AllReadyH.nil)
   ·
    go_simp
    refine (CN2.out _ kd).mono ?_
    rintro e wq ⟨rfl, rfl⟩
    show K _ _
    refine hK.out _ _ hS0 (fun _ => ?_)
    clear hK K
    refine wpAnyH_ready (rs := [14, 16]) (by kernel_rfl) (by simp) ?_
    refine AllReadyH.cons rfl (fun K hK => ?_) (AllReadyH.cons rfl (fun K hK => ?_) AllReadyH.nil)
    ·
     go_simp
     refine (CN3.out _ kd).mono ?_
     rintro e wq ⟨rfl, rfl⟩
     show K _ _
     refine hK.out _ _ hS0 (fun _ => ?_)
     clear hK K
     refine tG (some 23) 15 ?vha15x16 rfl rfl (Or.inl ⟨by rfl, ?hha15x16⟩) hS0 ?rha15x16
     case hha15x16 => (intro w hw; obtain ⟨m1, m2⟩ := hw; have x0 := m1.cell (i := 0) rfl; have x1 := m1.cell (i := 1) rfl; have x2 := m1.cell (i := 2) rfl; have y0 := m2.cell (i := 0) rfl; have y1 := m2.cell (i := 1) rfl; have y2 := m2.cell (i := 2) rfl; have y3 := m2.cell (i := 3) rfl; go_simp; try (with_reducible rfl))
     try simp only [Act.put, zA, zB, zC]
     refine rD 16 rfl (fun K hK => ?_)
     go_simp
     have kA := kd.alloc kd.size (.cells #[.int .i64 0, .int .i64 0, .int .i64 0, .slice none 0 0] 52)
     have zA : BoxN (wd.alloc (.cells #[.int .i64 0, .int .i64 0, .int .i64 0, .slice none 0 0] 52)) w1.heap.size 52 #[.int .i64 0, .int .i64 0, .int .i64 0, .slice none 0 0] := by have q := BoxN.new wd 52 #[.int .i64 0, .int .i64 0, .int .i64 0, .slice none 0 0]; rwa [hwd] at q
     have sA := And.intro (hS0.1.below (box_below wd (.cells #[.int .i64 0, .int .i64 0, .int .i64 0, .slice none 0 0] 52))) (hS0.2.below (box_below wd (.cells #[.int .i64 0, .int .i64 0, .int .i64 0, .slice none 0 0] 52)))
     show K _ _
     refine hK.out _ _ sA (fun _ => ?_)
     clear hK K
     refine rD 17 rfl (fun K hK => ?_)
     rw [if_pos (by rfl)]
     refine wp_store_row 52 _ _ rfl w1.heap.size #[.int .i64 fs, .int .i64 fb, .int .i64 fc, .slice none 0 0] rfl rfl _ _ zA infoTxnA rfl (by simp [Value.oneCell']) ?_
     have sB := And.intro ((setRow_other (wd.alloc (.cells #[.int .i64 0, .int .i64 0, .int .i64 0, .slice none 0 0] 52)) w1.heap.size w.heap.size #[.int .i64 fs, .int .i64 fb, .int .i64 fc, .slice none 0 0] (by omega)).trans sA.1) ((setRow_other (wd.alloc (.cells #[.int .i64 0, .int .i64 0, .int .i64 0, .slice none 0 0] 52)) w1.heap.size p3 #[.int .i64 fs, .int .i64 fb, .int .i64 fc, .slice none 0 0] (by omega)).trans sA.2)
     refine hK.out _ _ sB (fun _ => ?_)
     clear hK K
     refine wpAnyH_done (by kernel_rfl) ?_ _
     try simp only [Act.put]
     go_wp2_with fail
     go_meet
     exact ⟨w1.heap.size, rfl, hid (Nat.le_refl _), hid (setRow_heap _ _ _ _ _ _ zA), hid (below_setRow kA (Nat.le_refl _) #[.int .i64 fs, .int .i64 fb, .int .i64 fc, .slice none 0 0])⟩
    ·
     go_simp
     have kA := kd.alloc kd.size (.cells #[.int .i64 0, .int .i64 0, .int .i64 0, .slice none 0 0] 52)
     have zA : BoxN (wd.alloc (.cells #[.int .i64 0, .int .i64 0, .int .i64 0, .slice none 0 0] 52)) w1.heap.size 52 #[.int .i64 0, .int .i64 0, .int .i64 0, .slice none 0 0] := by have q := BoxN.new wd 52 #[.int .i64 0, .int .i64 0, .int .i64 0, .slice none 0 0]; rwa [hwd] at q
     have sA := And.intro (hS0.1.below (box_below wd (.cells #[.int .i64 0, .int .i64 0, .int .i64 0, .slice none 0 0] 52))) (hS0.2.below (box_below wd (.cells #[.int .i64 0, .int .i64 0, .int .i64 0, .slice none 0 0] 52)))
     show K _ _
     refine hK.out _ _ sA (fun _ => ?_)
     clear hK K
     refine rD 14 rfl (fun K hK => ?_)
     go_simp
     refine (CN3.out _ kA).mono ?_
     rintro e wq ⟨rfl, rfl⟩
     show K _ _
     refine hK.out _ _ sA (fun _ => ?_)
     clear hK K
     refine tG (some 23) 15 ?vha15x21 rfl rfl (Or.inl ⟨by rfl, ?hha15x21⟩) sA ?rha15x21
     case hha15x21 => (intro w hw; obtain ⟨m1, m2⟩ := hw; have x0 := m1.cell (i := 0) rfl; have x1 := m1.cell (i := 1) rfl; have x2 := m1.cell (i := 2) rfl; have y0 := m2.cell (i := 0) rfl; have y1 := m2.cell (i := 1) rfl; have y2 := m2.cell (i := 2) rfl; have y3 := m2.cell (i := 3) rfl; go_simp; try (with_reducible rfl))
     try simp only [Act.put, zA, zB, zC]
     refine rD 17 rfl (fun K hK => ?_)
     rw [if_pos (by rfl)]
     refine wp_store_row 52 _ _ rfl w1.heap.size #[.int .i64 fs, .int .i64 fb, .int .i64 fc, .slice none 0 0] rfl rfl _ _ zA infoTxnA rfl (by simp [Value.oneCell']) ?_
     have sB := And.intro ((setRow_other (wd.alloc (.cells #[.int .i64 0, .int .i64 0, .int .i64 0, .slice none 0 0] 52)) w1.heap.size w.heap.size #[.int .i64 fs, .int .i64 fb, .int .i64 fc, .slice none 0 0] (by omega)).trans sA.1) ((setRow_other (wd.alloc (.cells #[.int .i64 0, .int .i64 0, .int .i64 0, .slice none 0 0] 52)) w1.heap.size p3 #[.int .i64 fs, .int .i64 fb, .int .i64 fc, .slice none 0 0] (by omega)).trans sA.2)
     refine hK.out _ _ sB (fun _ => ?_)
     clear hK K
     refine wpAnyH_done (by kernel_rfl) ?_ _
     try simp only [Act.put]
     go_wp2_with fail
     go_meet
     exact ⟨w1.heap.size, rfl, hid (Nat.le_refl _), hid (setRow_heap _ _ _ _ _ _ zA), hid (below_setRow kA (Nat.le_refl _) #[.int .i64 fs, .int .i64 fb, .int .i64 fc, .slice none 0 0])⟩
   ·
    go_simp
    have kA := kd.alloc kd.size (.cells #[.int .i64 0, .int .i64 0, .int .i64 0, .slice none 0 0] 52)
    have zA : BoxN (wd.alloc (.cells #[.int .i64 0, .int .i64 0, .int .i64 0, .slice none 0 0] 52)) w1.heap.size 52 #[.int .i64 0, .int .i64 0, .int .i64 0, .slice none 0 0] := by have q := BoxN.new wd 52 #[.int .i64 0, .int .i64 0, .int .i64 0, .slice none 0 0]; rwa [hwd] at q
    have sA := And.intro (hS0.1.below (box_below wd (.cells #[.int .i64 0, .int .i64 0, .int .i64 0, .slice none 0 0] 52))) (hS0.2.below (box_below wd (.cells #[.int .i64 0, .int .i64 0, .int .i64 0, .slice none 0 0] 52)))
    show K _ _
    refine hK.out _ _ sA (fun _ => ?_)
    clear hK K
    refine rD 9 rfl (fun K hK => ?_)
    go_simp
    refine (CN2.out _ kA).mono ?_
    rintro e wq ⟨rfl, rfl⟩
    show K _ _
    refine hK.out _ _ sA (fun _ => ?_)
    clear hK K
    refine rD 14 rfl (fun K hK => ?_)
    go_simp
    refine (CN3.out _ kA).mono ?_
    rintro e wq ⟨rfl, rfl⟩
    show K _ _
    refine hK.out _ _ sA (fun _ => ?_)
    clear hK K
    refine tG (some 23) 15 ?vha15x26 rfl rfl (Or.inl ⟨by rfl, ?hha15x26⟩) sA ?rha15x26
    case hha15x26 => (intro w hw; obtain ⟨m1, m2⟩ := hw; have x0 := m1.cell (i := 0) rfl; have x1 := m1.cell (i := 1) rfl; have x2 := m1.cell (i := 2) rfl; have y0 := m2.cell (i := 0) rfl; have y1 := m2.cell (i := 1) rfl; have y2 := m2.cell (i := 2) rfl; have y3 := m2.cell (i := 3) rfl; go_simp; try (with_reducible rfl))
    try simp only [Act.put, zA, zB, zC]
    refine rD 17 rfl (fun K hK => ?_)
    rw [if_pos (by rfl)]
    refine wp_store_row 52 _ _ rfl w1.heap.size #[.int .i64 fs, .int .i64 fb, .int .i64 fc, .slice none 0 0] rfl rfl _ _ zA infoTxnA rfl (by simp [Value.oneCell']) ?_
    have sB := And.intro ((setRow_other (wd.alloc (.cells #[.int .i64 0, .int .i64 0, .int .i64 0, .slice none 0 0] 52)) w1.heap.size w.heap.size #[.int .i64 fs, .int .i64 fb, .int .i64 fc, .slice none 0 0] (by omega)).trans sA.1) ((setRow_other (wd.alloc (.cells #[.int .i64 0, .int .i64 0, .int .i64 0, .slice none 0 0] 52)) w1.heap.size p3 #[.int .i64 fs, .int .i64 fb, .int .i64 fc, .slice none 0 0] (by omega)).trans sA.2)
    refine hK.out _ _ sB (fun _ => ?_)
    clear hK K
    refine wpAnyH_done (by kernel_rfl) ?_ _
    try simp only [Act.put]
    go_wp2_with fail
    go_meet
    exact ⟨w1.heap.size, rfl, hid (Nat.le_refl _), hid (setRow_heap _ _ _ _ _ _ zA), hid (below_setRow kA (Nat.le_refl _) #[.int .i64 fs, .int .i64 fb, .int .i64 fc, .slice none 0 0])⟩
  ·
   go_simp
   have kA := kd.alloc kd.size (.cells #[.int .i64 0, .int .i64 0, .int .i64 0, .slice none 0 0] 52)
   have zA : BoxN (wd.alloc (.cells #[.int .i64 0, .int .i64 0, .int .i64 0, .slice none 0 0] 52)) w1.heap.size 52 #[.int .i64 0, .int .i64 0, .int .i64 0, .slice none 0 0] := by have q := BoxN.new wd 52 #[.int .i64 0, .int .i64 0, .int .i64 0, .slice none 0 0]; rwa [hwd] at q
   have sA := And.intro (hS0.1.below (box_below wd (.cells #[.int .i64 0, .int .i64 0, .int .i64 0, .slice none 0 0] 52))) (hS0.2.below (box_below wd (.cells #[.int .i64 0, .int .i64 0, .int .i64 0, .slice none 0 0] 52)))
   show K _ _
   refine hK.out _ _ sA (fun _ => ?_)
   clear hK K
   refine rD 4 rfl (fun K hK => ?_)
   go_simp
   refine (CN1.out _ kA).mono ?_
   rintro e wq ⟨rfl, rfl⟩
   show K _ _
   refine hK.out _ _ sA (fun _ => ?_)
   clear hK K
   refine rD 9 rfl (fun K hK => ?_)
   go_simp
   refine (CN2.out _ kA).mono ?_
   rintro e wq ⟨rfl, rfl⟩
   show K _ _
   refine hK.out _ _ sA (fun _ => ?_)
   clear hK K
   refine rD 14 rfl (fun K hK => ?_)
   go_simp
   refine (CN3.out _ kA).mono ?_
   rintro e wq ⟨rfl, rfl⟩
   show K _ _
   refine hK.out _ _ sA (fun _ => ?_)
   clear hK K
   refine tG (some 23) 15 ?vha15x32 rfl rfl (Or.inl ⟨by rfl, ?hha15x32⟩) sA ?rha15x32
   case hha15x32 => (intro w hw; obtain ⟨m1, m2⟩ := hw; have x0 := m1.cell (i := 0) rfl; have x1 := m1.cell (i := 1) rfl; have x2 := m1.cell (i := 2) rfl; have y0 := m2.cell (i := 0) rfl; have y1 := m2.cell (i := 1) rfl; have y2 := m2.cell (i := 2) rfl; have y3 := m2.cell (i := 3) rfl; go_simp; try (with_reducible rfl))
   try simp only [Act.put, zA, zB, zC]
   refine rD 17 rfl (fun K hK => ?_)
   rw [if_pos (by rfl)]
   refine wp_store_row 52 _ _ rfl w1.heap.size #[.int .i64 fs, .int .i64 fb, .int .i64 fc, .slice none 0 0] rfl rfl _ _ zA infoTxnA rfl (by simp [Value.oneCell']) ?_
   have sB := And.intro ((setRow_other (wd.alloc (.cells #[.int .i64 0, .int .i64 0, .int .i64 0, .slice none 0 0] 52)) w1.heap.size w.heap.size #[.int .i64 fs, .int .i64 fb, .int .i64 fc, .slice none 0 0] (by omega)).trans sA.1) ((setRow_other (wd.alloc (.cells #[.int .i64 0, .int .i64 0, .int .i64 0, .slice none 0 0] 52)) w1.heap.size p3 #[.int .i64 fs, .int .i64 fb, .int .i64 fc, .slice none 0 0] (by omega)).trans sA.2)
   refine hK.out _ _ sB (fun _ => ?_)
   clear hK K
   refine wpAnyH_done (by kernel_rfl) ?_ _
   try simp only [Act.put]
   go_wp2_with fail
   go_meet
   exact ⟨w1.heap.size, rfl, hid (Nat.le_refl _), hid (setRow_heap _ _ _ _ _ _ zA), hid (below_setRow kA (Nat.le_refl _) #[.int .i64 fs, .int .i64 fb, .int .i64 fc, .slice none 0 0])⟩
 case rest =>
  obtain ⟨p5, rfl, HP5, HX5, HC⟩ := hcut
  have HX2 := hid (hB2.below HC.out)
  have HX3 := hid (hB3.below HC.out)
  have HX4 := hid (HB4.out.below HC.out)
  have HBD := hid (below_then HB1.out HC.out)
  have g3 := HX2.out.cell (i := 3) rfl
  have hq55 := HP5.out
  clear hB2 hB3 HB4 CN1 CN2 CN3 HC HB1
  go_wp2_with fail
  clear g3
  go_loopw [27] (fun i wr => ∃ (j : Nat) (u : Value), j ≤ l.length ∧ i = .int .i64 (j : Int) ∧ Hid (BoxN wr p5 52 #[.int .i64 fs, .int .i64 fb, .int .i64 fc, u]) ∧ Hid (Own wr w.heap.size u ((l.take j).map (renO (nmF FK) (nmF FV)))) ∧ Hid (BoxN wr w.heap.size 52 #[.int .i64 ts, .int .i64 tb, .int .i64 tc, .slice oo l.length oc]) ∧ Hid (BoxN wr p3 33 #[.map mK, .map mS, .map mV, .map mT, .slice qa qn qc]) ∧ Hid (BoxN wr p4 52 #[.int .i64 0, .int .i64 0, .int .i64 0, .slice none 0 0]) ∧ Hid (Below w.heap.size w wr)) (fun i _ => l.length - (intOf i).toNat)
  case atStart => exact ⟨0, _, by omega, rfl, HX5, hid (Own.nil _ _), HX2, HX3, HX4, HBD⟩
  case round =>
   obtain ⟨j, u, hjl, rfl, HX5, HU, HX2, HX3, HX4, HBD⟩ := hrel
   by_cases hlt : j < l.length
   ·have hji : (j : Int) < (l.length : Int) := by omega
    obtain ⟨g2, o2, hg2, e0, e1, e2⟩ := (HO.out _ HBD.out).at hlt
    cases hg2
    have hx := HIL.out _ (List.getElem_mem hlt)
    have HTK : Hid ((l.take (j + 1)).map (renO (nmF FK) (nmF FV)) = (l.take j).map (renO (nmF FK) (nmF FV)) ++ [renO (nmF FK) (nmF FV) l[j]]) := hid (by rw [List.take_succ_eq_append_getElem hlt, List.map_append]; rfl)
    have HLJ : Hid (((l.take j).map (renO (nmF FK) (nmF FV))).length = j) := hid (by rw [List.length_map, List.length_take]; omega)
    generalize l[j] = x at *
    obtain ⟨xw, xk, xv⟩ := x
    simp only at e0 e1 e2 hx
    have HLT7 : Hid (∀ b, u.ownBlock = some b → b < wr.heap.size) := hid (fun b e => (World.ownsRow.lt HU.out b e).2)
    have hbb := box_below wr (.cells #[.bool xw, .int .i64 xk, .int .i64 xv] 54)
    have HX7 := BoxN.new wr 54 #[.bool xw, .int .i64 xk, .int .i64 xv]
    have hp57 : p5 < wr.heap.size := HX5.out.lt
    have HX5 := HX5.out.below hbb
    have HU := HU.out.below hbb
    have HX2 := HX2.out.below hbb
    have HX3 := HX3.out.below hbb
    have HX4 := HX4.out.below hbb
    have HBD := HBD.out.alloc HBD.out.size (.cells #[.bool xw, .int .i64 xk, .int .i64 xv] 54)
    go_upto_region 5 with fail
    clear e0 e1 e2 hbb
    generalize wr.alloc (.cells #[.bool xw, .int .i64 xk, .int .i64 xv] 54) = w7 at *
    generalize wr.heap.size = p7 at *
    have CN1 := hid (fun wx (hx' : Below w7.heap.size w7 wx) => CK.out xk wx (below_then HBD hx') hx.1)
    have CN2 := hid (fun wx (hx' : Below w7.heap.size w7 wx) => CV.out xv wx (below_then HBD hx') hx.2)
    have HTK : Hid ((l.take (j + 1)).map (renO (nmF FK) (nmF FV)) = (l.take j).map (renO (nmF FK) (nmF FV)) ++ [⟨xw, nmF FK xk, nmF FV xv⟩]) := HTK
    obtain ⟨yk, hyk⟩ : ∃ z, nmF FK xk = z := ⟨_, rfl⟩
    obtain ⟨yv, hyv⟩ : ∃ z, nmF FV xv = z := ⟨_, rfl⟩
    rw [hyk] at CN1 HTK
    rw [hyv] at CN2 HTK
    clear hx hyk hyv
    have kd := (Below.refl w7.heap.size w7).drew
    have hwd : w7.drew.heap.size = w7.heap.size := rfl
    have HN3 : Hid (some p3 ≠ u.ownBlock) := hid (fun e => (owns_no_box HU HX3 (by decide)).elim (fun q => by rw [q] at e; cases e) (fun q => q e.symm))
    have HN2 : Hid (some w.heap.size ≠ u.ownBlock) := hid (fun e => (owns_no_box HU HX2 (by decide)).elim (fun q => by rw [q] at e; cases e) (fun q => q e.symm))
    have HN4 : Hid (some p4 ≠ u.ownBlock) := hid (fun e => (owns_no_box HU HX4 (by decide)).elim (fun q => by rw [q] at e; cases e) (fun q => q e.symm))
    have HN5 : Hid (some p5 ≠ u.ownBlock) := hid (fun e => (owns_no_box HU HX5 (by decide)).elim (fun q => by rw [q] at e; cases e) (fun q => q e.symm))
    have HN7 : Hid (some p7 ≠ u.ownBlock) := hid (fun e => by have := HLT7.out _ e.symm; omega)
    have HUC : Hid (w7.drew.cell? ⟨p5, 3, none⟩ = some u) := hid ((HX5.below kd).cell (i := 3) rfl)
    have hown : w7.drew.ownsRow w.heap.size 54 3 u j (opV ((l.take j).map (renO (nmF FK) (nmF FV)))) := by
     have q := HU.below kd
     unfold Own at q
     rwa [HLJ.out] at q
    have HX7 := hid (HX7.below kd)
    have HX5 := hid (HX5.below kd)
    have HX2 := hid (HX2.below kd)
    have HX3 := hid (HX3.below kd)
    have HX4 := hid (HX4.below kd)
    have HBD := hid HBD.drew
    have hszd := HBD.out.size
    clear HU
    refine wp_region_held_drew (S := fun wx => BoxN wx p3 33 #[.map mK, .map mS, .map mV, .map mT, .slice qa qn qc] ∧ BoxN wx p7 54 #[.bool xw, .int .i64 xk, .int .i64 xv]) (by kernel_rfl) ⟨HX3.out, HX7.out⟩ (fun hS0 => ?_)
    generalize w7.drew = wd at *
    refine tG (some 31) 0 ?vhb0x1 rfl rfl (Or.inl ⟨by rfl, ?hhb0x1⟩) hS0 ?rhb0x1
    case hhb0x1 => (intro w hw; obtain ⟨m1, m2⟩ := hw; have x0 := m1.cell (i := 0) rfl; have x1 := m1.cell (i := 1) rfl; have x2 := m1.cell (i := 2) rfl; have x3 := m1.cell (i := 3) rfl; have y0 := m2.cell (i := 0) rfl; have y1 := m2.cell (i := 1) rfl; have y2 := m2.cell (i := 2) rfl; go_simp; try (with_reducible rfl))
    try simp only [Act.put, zA, zB, zC]
    refine tG (some 33) 2 ?vhb2x2 rfl rfl (Or.inl ⟨by rfl, ?hhb2x2⟩) hS0 ?rhb2x2
    case hhb2x2 => (intro w hw; obtain ⟨m1, m2⟩ := hw; have x0 := m1.cell (i := 0) rfl; have x1 := m1.cell (i := 1) rfl; have x2 := m1.cell (i := 2) rfl; have x3 := m1.cell (i := 3) rfl; have y0 := m2.cell (i := 0) rfl; have y1 := m2.cell (i := 1) rfl; have y2 := m2.cell (i := 2) rfl; go_simp; try (with_reducible rfl))
    try simp only [Act.put, zA, zB, zC]
    refine tG (some 34) 3 ?vhb3x3 rfl rfl (Or.inl ⟨by rfl, ?hhb3x3⟩) hS0 ?rhb3x3
    case hhb3x3 => (intro w hw; obtain ⟨m1, m2⟩ := hw; have x0 := m1.cell (i := 0) rfl; have x1 := m1.cell (i := 1) rfl; have x2 := m1.cell (i := 2) rfl; have x3 := m1.cell (i := 3) rfl; have y0 := m2.cell (i := 0) rfl; have y1 := m2.cell (i := 1) rfl; have y2 := m2.cell (i := 2) rfl; go_simp; try (with_reducible rfl))
    try simp only [Act.put, zA, zB, zC]
    refine tG (some 35) 4 ?vhb4x4 rfl rfl (Or.inl ⟨by rfl, ?hhb4x4⟩) hS0 ?rhb4x4
    case hhb4x4 => (intro w hw; obtain ⟨m1, m2⟩ := hw; have x0 := m1.cell (i := 0) rfl; have x1 := m1.cell (i := 1) rfl; have x2 := m1.cell (i := 2) rfl; have x3 := m1.cell (i := 3) rfl; have y0 := m2.cell (i := 0) rfl; have y1 := m2.cell (i := 1) rfl; have y2 := m2.cell (i := 2) rfl; go_simp; try (with_reducible rfl))
    try simp only [Act.put, zA, zB, zC]
    refine tG (some 36) 5 ?vhb5x5 rfl rfl (Or.inl ⟨by rfl, ?hhb5x5⟩) hS0 ?rhb5x5
    case hhb5x5 => (intro w hw; obtain ⟨m1, m2⟩ := hw; have x0 := m1.cell (i := 0) rfl; have x1 := m1.cell (i := 1) rfl; have x2 := m1.cell (i := 2) rfl; have x3 := m1.cell (i := 3) rfl; have y0 := m2.cell (i := 0) rfl; have y1 := m2.cell (i := 1) rfl; have y2 := m2.cell (i := 2) rfl; go_simp; try (with_reducible rfl))
    try simp only [Act.put, zA, zB, zC]
    refine tG (some 37) 6 ?vhb6x6 rfl rfl (Or.inl ⟨by rfl, ?hhb6x6⟩) hS0 ?rhb6x6
    case hhb6x6 => (intro w hw; obtain ⟨m1, m2⟩ := hw; have x0 := m1.cell (i := 0) rfl; have x1 := m1.cell (i := 1) rfl; have x2 := m1.cell (i := 2) rfl; have x3 := m1.cell (i := 3) rfl; have y0 := m2.cell (i := 0) rfl; have y1 := m2.cell (i := 1) rfl; have y2 := m2.cell (i := 2) rfl; go_simp; try (with_reducible rfl))
    try simp only [Act.put, zA, zB, zC]
    refine tG (some 38) 7 ?vhb7x7 rfl rfl (Or.inl ⟨by rfl, ?hhb7x7⟩) hS0 ?rhb7x7
    case hhb7x7 => (intro w hw; obtain ⟨m1, m2⟩ := hw; have x0 := m1.cell (i := 0) rfl; have x1 := m1.cell (i := 1) rfl; have x2 := m1.cell (i := 2) rfl; have x3 := m1.cell (i := 3) rfl; have y0 := m2.cell (i := 0) rfl; have y1 := m2.cell (i := 1) rfl; have y2 := m2.cell (i := 2) rfl; go_simp; try (with_reducible rfl))
    try simp only [Act.put, zA, zB, zC]
    refine tG (some 40) 9 ?vhb9x8 rfl rfl (Or.inl ⟨by rfl, ?hhb9x8⟩) hS0 ?rhb9x8
    case hhb9x8 => (intro w hw; obtain ⟨m1, m2⟩ := hw; have x0 := m1.cell (i := 0) rfl; have x1 := m1.cell (i := 1) rfl; have x2 := m1.cell (i := 2) rfl; have x3 := m1.cell (i := 3) rfl; have y0 := m2.cell (i := 0) rfl; have y1 := m2.cell (i := 1) rfl; have y2 := m2.cell (i := 2) rfl; go_simp; try (with_reducible rfl))
    try simp only [Act.put, zA, zB, zC]
    refine tG (some 41) 10 ?vhb10x9 rfl rfl (Or.inl ⟨by rfl, ?hhb10x9⟩) hS0 ?rhb10x9
    case hhb10x9 => (intro w hw; obtain ⟨m1, m2⟩ := hw; have x0 := m1.cell (i := 0) rfl; have x1 := m1.cell (i := 1) rfl; have x2 := m1.cell (i := 2) rfl; have x3 := m1.cell (i := 3) rfl; have y0 := m2.cell (i := 0) rfl; have y1 := m2.cell (i := 1) rfl; have y2 := m2.cell (i := 2) rfl; go_simp; try (with_reducible rfl))
    try simp only [Act.put, zA, zB, zC]
    refine tG (some 42) 11 ?vhb11x10 rfl rfl (Or.inl ⟨by rfl, ?hhb11x10⟩) hS0 ?rhb11x10
    case hhb11x10 => (intro w hw; obtain ⟨m1, m2⟩ := hw; have x0 := m1.cell (i := 0) rfl; have x1 := m1.cell (i := 1) rfl; have x2 := m1.cell (i := 2) rfl; have x3 := m1.cell (i := 3) rfl; have y0 := m2.cell (i := 0) rfl; have y1 := m2.cell (i := 1) rfl; have y2 := m2.cell (i := 2) rfl; go_simp; try (with_reducible rfl))
    try simp only [Act.put, zA, zB, zC]
    refine tG (some 43) 12 ?vhb12x11 rfl rfl (Or.inl ⟨by rfl, ?hhb12x11⟩) hS0 ?rhb12x11
    case hhb12x11 => (intro w hw; obtain ⟨m1, m2⟩ := hw; have x0 := m1.cell (i := 0) rfl; have x1 := m1.cell (i := 1) rfl; have x2 := m1.cell (i := 2) rfl; have x3 := m1.cell (i := 3) rfl; have y0 := m2.cell (i := 0) rfl; have y1 := m2.cell (i := 1) rfl; have y2 := m2.cell (i := 2) rfl; go_simp; try (with_reducible rfl))
    try simp only [Act.put, zA, zB, zC]
    refine wpAnyH_ready (rs := [1, 8]) (by kernel_rfl) (by simp) ?_
    refine AllReadyH.cons rfl (fun K hK => ?_) (AllReadyH.cons rfl (fun K hK => ?_) AllReadyH.nil)
    ·
     have zu := HUC.out
     go_simp
     show K _ _
     refine hK.out _ _ hS0 (fun _ => ?_)
     clear hK K
     refine rD 8 rfl (fun K hK => ?_)
     go_simp
     refine (CN1.out _ kd).mono ?_
     rintro e wq ⟨rfl, rfl⟩
     show K _ _
     refine hK.out _ _ hS0 (fun _ => ?_)
     clear hK K
     refine rD 13 rfl (fun K hK => ?_)
     go_simp
     refine (CN2.out _ kd).mono ?_
     rintro e wq ⟨rfl, rfl⟩
     show K _ _
     refine hK.out _ _ hS0 (fun _ => ?_)
     clear hK K
     refine tG (some 45) 14 ?vhb14x15 rfl rfl (Or.inl ⟨by rfl, ?hhb14x15⟩) hS0 ?rhb14x15
     case hhb14x15 => (intro w hw; obtain ⟨m1, m2⟩ := hw; have x0 := m1.cell (i := 0) rfl; have x1 := m1.cell (i := 1) rfl; have x2 := m1.cell (i := 2) rfl; have x3 := m1.cell (i := 3) rfl; have y0 := m2.cell (i := 0) rfl; have y1 := m2.cell (i := 1) rfl; have y2 := m2.cell (i := 2) rfl; go_simp; try (with_reducible rfl))
     try simp only [Act.put, zA, zB, zC]
     refine rD 15 rfl (fun K hK => ?_)
     rw [if_pos (by rfl)]
     go_simp
     have sA := And.intro (hS0.1.below (box_below wd (.cells #[.bool xw, .int .i64 yk, .int .i64 yv] 54))) (hS0.2.below (box_below wd (.cells #[.bool xw, .int .i64 yk, .int .i64 yv] 54)))
     have HUB := ((box_below wd (.cells #[.bool xw, .int .i64 yk, .int .i64 yv] 54)).cell (p := ⟨p5, 3, none⟩) (block_lt HUC.out)).trans HUC.out
     show K _ _
     refine hK.out _ _ sA (fun _ => ?_)
     clear hK K
     refine rD 16 rfl (fun K hK => ?_)
     refine step_app _ rfl (.tmp 32) (.tmp 46) 50 rfl w.heap.size 54 i1 (.agg #[.bool false, .int .i64 0, .int .i64 0]) 3 24 Tryz.underlying50 hj hy0 hy1 hy2 rfl (by decide) _ _ _ (by simp [Act.eval]) (hown.alloc (.cells #[.bool xw, .int .i64 yk, .int .i64 yv] 54)) ⟨w7.heap.size, 0, none⟩ 1 1 [.bool xw, .int .i64 yk, .int .i64 yv] (by simp [Act.eval]) rfl (by rw [← hwd]; exact lit_new wd _ _ _ _) (by simp [Value.oneCell']) (by unfold maxLen; omega) (by omega) (by simp; omega) ?_
     intro v6 w6 hown6 hg6
     have sC := And.intro (sA.1.kept hg6 HN3.out) (sA.2.kept hg6 HN7.out)
     refine hK.out _ _ sC (fun _ => ?_)
     clear hK K
     refine tG (some 48) 17 ?vhb17x18 rfl rfl (Or.inl ⟨by rfl, ?hhb17x18⟩) sC ?rhb17x18
     case hhb17x18 => (intro w hw; obtain ⟨m1, m2⟩ := hw; have x0 := m1.cell (i := 0) rfl; have x1 := m1.cell (i := 1) rfl; have x2 := m1.cell (i := 2) rfl; have x3 := m1.cell (i := 3) rfl; have y0 := m2.cell (i := 0) rfl; have y1 := m2.cell (i := 1) rfl; have y2 := m2.cell (i := 2) rfl; go_simp; try (with_reducible rfl))
     try simp only [Act.put, zA, zB, zC]
     refine rD 18 rfl (fun K hK => ?_)
     obtain ⟨g6, c6, rfl, hq6, _⟩ := hown6.form (by omega)
     have hX6 := (HX5.out.below (box_below wd (.cells #[.bool xw, .int .i64 yk, .int .i64 yv] 54))).kept hg6 HN5.out
     have hcx := hX6.cell (i := 3) rfl
     have hfx := hX6.free 3
     rw [if_pos (by rfl)]
     go_simp
     have sD := And.intro (sC.1.far (a := ⟨p5, 3, none⟩) (by show p3 ≠ p5; omega) (.slice (some ⟨g6, 0, none⟩) (j + 1) c6)) (sC.2.far (a := ⟨p5, 3, none⟩) (by show p7 ≠ p5; omega) (.slice (some ⟨g6, 0, none⟩) (j + 1) c6))
     show K _ _
     refine hK.out _ _ sD (fun _ => ?_)
     clear hK K
     refine wpAnyH_done (by kernel_rfl) ?_ _
     try simp only [Act.put]
     have hgs := grown_set w6 ⟨p5, 3, none⟩ (.slice (some ⟨g6, 0, none⟩) (j + 1) c6)
     have hO6 : Own w6 w.heap.size (.slice (some ⟨g6, 0, none⟩) (j + 1) c6) ((l.take (j + 1)).map (renO (nmF FK) (nmF FV))) := by
      rw [HTK.out]
      unfold Own
      rw [opV_app, List.length_append, HLJ.out]
      exact hown6
     have hbe := (HBD.out.alloc HBD.out.size (.cells #[.bool xw, .int .i64 yk, .int .i64 yv] 54)).grown hg6 (by have := HBD.out.size; simp; omega) (fun q e => (World.ownsRow.lt hown q e).1)
     have RX5 := hid (hX6.set 3 (.slice (some ⟨g6, 0, none⟩) (j + 1) c6))
     have RU := hid (Own.keep hO6 hgs (owns_no_box hO6 hX6 (by decide)))
     have RX2 := hid (((HX2.out.below (box_below wd (.cells #[.bool xw, .int .i64 yk, .int .i64 yv] 54))).kept hg6 HN2.out).far (a := ⟨p5, 3, none⟩) (by show w.heap.size ≠ p5; omega) (.slice (some ⟨g6, 0, none⟩) (j + 1) c6))
     have RX3 := hid (sC.1.far (a := ⟨p5, 3, none⟩) (by show p3 ≠ p5; omega) (.slice (some ⟨g6, 0, none⟩) (j + 1) c6))
     have RX4 := hid (((HX4.out.below (box_below wd (.cells #[.bool xw, .int .i64 yk, .int .i64 yv] 54))).kept hg6 HN4.out).far (a := ⟨p5, 3, none⟩) (by show p4 ≠ p5; omega) (.slice (some ⟨g6, 0, none⟩) (j + 1) c6))
     have RBD := hid (hbe.setCell (p := ⟨p5, 3, none⟩) (by show w.heap.size ≤ p5; omega) (.slice (some ⟨g6, 0, none⟩) (j + 1) c6))
     clear hgs hO6 hbe hX6 hcx hfx sA sC sD hown6 hg6
     go_wp2_with fail
     go_roundw
     case rel => exact ⟨j + 1, _, by omega, by go_num, RX5, RU, RX2, RX3, RX4, RBD⟩
     case measure => simp [intOf]; omega
    ·
     go_simp
     refine (CN1.out _ kd).mono ?_
     rintro e wq ⟨rfl, rfl⟩
     show K _ _
     refine hK.out _ _ hS0 (fun _ => ?_)
     clear hK K
     refine wpAnyH_ready (rs := [1, 13]) (by kernel_rfl) (by simp) ?_
     refine AllReadyH.cons rfl (fun K hK => ?_) (AllReadyH.cons rfl (fun K hK => ?_) AllReadyH.nil)
     ·
      have zu := HUC.out
      go_simp
      show K _ _
      refine hK.out _ _ hS0 (fun _ => ?_)
      clear hK K
      refine rD 13 rfl (fun K hK => ?_)
      go_simp
      refine (CN2.out _ kd).mono ?_
      rintro e wq ⟨rfl, rfl⟩
      show K _ _
      refine hK.out _ _ hS0 (fun _ => ?_)
      clear hK K
      refine tG (some 45) 14 ?vhb14x23 rfl rfl (Or.inl ⟨by rfl, ?hhb14x23⟩) hS0 ?rhb14x23
      case hhb14x23 => (intro w hw; obtain ⟨m1, m2⟩ := hw; have x0 := m1.cell (i := 0) rfl; have x1 := m1.cell (i := 1) rfl; have x2 := m1.cell (i := 2) rfl; have x3 := m1.cell (i := 3) rfl; have y0 := m2.cell (i := 0) rfl; have y1 := m2.cell (i := 1) rfl; have y2 := m2.cell (i := 2) rfl; go_simp; try (with_reducible rfl))
      try simp only [Act.put, zA, zB, zC]
      refine rD 15 rfl (fun K hK => ?_)
      rw [if_pos (by rfl)]
      go_simp
      have sA := And.intro (hS0.1.below (box_below wd (.cells #[.bool xw, .int .i64 yk, .int .i64 yv] 54))) (hS0.2.below (box_below wd (.cells #[.bool xw, .int .i64 yk, .int .i64 yv] 54)))
      have HUB := ((box_below wd (.cells #[.bool xw, .int .i64 yk, .int .i64 yv] 54)).cell (p := ⟨p5, 3, none⟩) (block_lt HUC.out)).trans HUC.out
      show K _ _
      refine hK.out _ _ sA (fun _ => ?_)
      clear hK K
      refine rD 16 rfl (fun K hK => ?_)
      refine step_app _ rfl (.tmp 32) (.tmp 46) 50 rfl w.heap.size 54 i1 (.agg #[.bool false, .int .i64 0, .int .i64 0]) 3 24 Tryz.underlying50 hj hy0 hy1 hy2 rfl (by decide) _ _ _ (by simp [Act.eval]) (hown.alloc (.cells #[.bool xw, .int .i64 yk, .int .i64 yv] 54)) ⟨w7.heap.size, 0, none⟩ 1 1 [.bool xw, .int .i64 yk, .int .i64 yv] (by simp [Act.eval]) rfl (by rw [← hwd]; exact lit_new wd _ _ _ _) (by simp [Value.oneCell']) (by unfold maxLen; omega) (by omega) (by simp; omega) ?_
      intro v6 w6 hown6 hg6
      have sC := And.intro (sA.1.kept hg6 HN3.out) (sA.2.kept hg6 HN7.out)
      refine hK.out _ _ sC (fun _ => ?_)
      clear hK K
      refine tG (some 48) 17 ?vhb17x26 rfl rfl (Or.inl ⟨by rfl, ?hhb17x26⟩) sC ?rhb17x26
      case hhb17x26 => (intro w hw; obtain ⟨m1, m2⟩ := hw; have x0 := m1.cell (i := 0) rfl; have x1 := m1.cell (i := 1) rfl; have x2 := m1.cell (i := 2) rfl; have x3 := m1.cell (i := 3) rfl; have y0 := m2.cell (i := 0) rfl; have y1 := m2.cell (i := 1) rfl; have y2 := m2.cell (i := 2) rfl; go_simp; try (with_reducible rfl))
      try simp only [Act.put, zA, zB, zC]
      refine rD 18 rfl (fun K hK => ?_)
      obtain ⟨g6, c6, rfl, hq6, _⟩ := hown6.form (by omega)
      have hX6 := (HX5.out.below (box_below wd (.cells #[.bool xw, .int .i64 yk, .int .i64 yv] 54))).kept hg6 HN5.out
      have hcx := hX6.cell (i := 3) rfl
      have hfx := hX6.free 3
      rw [if_pos (by rfl)]
      go_simp
      have sD := And.intro (sC.1.far (a := ⟨p5, 3, none⟩) (by show p3 ≠ p5; omega) (.slice (some ⟨g6, 0, none⟩) (j + 1) c6)) (sC.2.far (a := ⟨p5, 3, none⟩) (by show p7 ≠ p5; omega) (.slice (some ⟨g6, 0, none⟩) (j + 1) c6))
      show K _ _
      refine hK.out _ _ sD (fun _ => ?_)
      clear hK K
      refine wpAnyH_done (by kernel_rfl) ?_ _
      try simp only [Act.put]
      have hgs := grown_set w6 ⟨p5, 3, none⟩ (.slice (some ⟨g6, 0, none⟩) (j + 1) c6)
      have hO6 : Own w6 w.heap.size (.slice (some ⟨g6, 0, none⟩) (j + 1) c6) ((l.take (j + 1)).map (renO (nmF FK) (nmF FV))) := by
       rw [HTK.out]
       unfold Own
       rw [opV_app, List.length_append, HLJ.out]
       exact hown6
      have hbe := (HBD.out.alloc HBD.out.size (.cells #[.bool xw, .int .i64 yk, .int .i64 yv] 54)).grown hg6 (by have := HBD.out.size; simp; omega) (fun q e => (World.ownsRow.lt hown q e).1)
      have RX5 := hid (hX6.set 3 (.slice (some ⟨g6, 0, none⟩) (j + 1) c6))
      have RU := hid (Own.keep hO6 hgs (owns_no_box hO6 hX6 (by decide)))
      have RX2 := hid (((HX2.out.below (box_below wd (.cells #[.bool xw, .int .i64 yk, .int .i64 yv] 54))).kept hg6 HN2.out).far (a := ⟨p5, 3, none⟩) (by show w.heap.size ≠ p5; omega) (.slice (some ⟨g6, 0, none⟩) (j + 1) c6))
      have RX3 := hid (sC.1.far (a := ⟨p5, 3, none⟩) (by show p3 ≠ p5; omega) (.slice (some ⟨g6, 0, none⟩) (j + 1) c6))
      have RX4 := hid (((HX4.out.below (box_below wd (.cells #[.bool xw, .int .i64 yk, .int .i64 yv] 54))).kept hg6 HN4.out).far (a := ⟨p5, 3, none⟩) (by show p4 ≠ p5; omega) (.slice (some ⟨g6, 0, none⟩) (j + 1) c6))
      have RBD := hid (hbe.setCell (p := ⟨p5, 3, none⟩) (by show w.heap.size ≤ p5; omega) (.slice (some ⟨g6, 0, none⟩) (j + 1) c6))
      clear hgs hO6 hbe hX6 hcx hfx sA sC sD hown6 hg6
      go_wp2_with fail
      go_roundw
      case rel => exact ⟨j + 1, _, by omega, by go_num, RX5, RU, RX2, RX3, RX4, RBD⟩
      case measure => simp [intOf]; omega
     ·
      go_simp
      refine (CN2.out _ kd).mono ?_
      rintro e wq ⟨rfl, rfl⟩
      show K _ _
      refine hK.out _ _ hS0 (fun _ => ?_)
      clear hK K
      refine tG (some 45) 14 ?vhb14x29 rfl rfl (Or.inl ⟨by rfl, ?hhb14x29⟩) hS0 ?rhb14x29
      case hhb14x29 => (intro w hw; obtain ⟨m1, m2⟩ := hw; have x0 := m1.cell (i := 0) rfl; have x1 := m1.cell (i := 1) rfl; have x2 := m1.cell (i := 2) rfl; have x3 := m1.cell (i := 3) rfl; have y0 := m2.cell (i := 0) rfl; have y1 := m2.cell (i := 1) rfl; have y2 := m2.cell (i := 2) rfl; go_simp; try (with_reducible rfl))
      try simp only [Act.put, zA, zB, zC]
      refine wpAnyH_ready (rs := [1, 15]) (by kernel_rfl) (by simp) ?_
      refine AllReadyH.cons rfl (fun K hK => ?_) (AllReadyH.cons rfl (fun K hK => ?_) AllReadyH.nil)
      ·
       have zu := HUC.out
       go_simp
       show K _ _
       refine hK.out _ _ hS0 (fun _ => ?_)
       clear hK K
       refine rD 15 rfl (fun K hK => ?_)
       rw [if_pos (by rfl)]
       go_simp
       have sA := And.intro (hS0.1.below (box_below wd (.cells #[.bool xw, .int .i64 yk, .int .i64 yv] 54))) (hS0.2.below (box_below wd (.cells #[.bool xw, .int .i64 yk, .int .i64 yv] 54)))
       have HUB := ((box_below wd (.cells #[.bool xw, .int .i64 yk, .int .i64 yv] 54)).cell (p := ⟨p5, 3, none⟩) (block_lt HUC.out)).trans HUC.out
       show K _ _
       refine hK.out _ _ sA (fun _ => ?_)
       clear hK K
       refine rD 16 rfl (fun K hK => ?_)
       refine step_app _ rfl (.tmp 32) (.tmp 46) 50 rfl w.heap.size 54 i1 (.agg #[.bool false, .int .i64 0, .int .i64 0]) 3 24 Tryz.underlying50 hj hy0 hy1 hy2 rfl (by decide) _ _ _ (by simp [Act.eval]) (hown.alloc (.cells #[.bool xw, .int .i64 yk, .int .i64 yv] 54)) ⟨w7.heap.size, 0, none⟩ 1 1 [.bool xw, .int .i64 yk, .int .i64 yv] (by simp [Act.eval]) rfl (by rw [← hwd]; exact lit_new wd _ _ _ _) (by simp [Value.oneCell']) (by unfold maxLen; omega) (by omega) (by simp; omega) ?_
       intro v6 w6 hown6 hg6
       have sC := And.intro (sA.1.kept hg6 HN3.out) (sA.2.kept hg6 HN7.out)
       refine hK.out _ _ sC (fun _ => ?_)
       clear hK K
       refine tG (some 48) 17 ?vhb17x33 rfl rfl (Or.inl ⟨by rfl, ?hhb17x33⟩) sC ?rhb17x33
       case hhb17x33 => (intro w hw; obtain ⟨m1, m2⟩ := hw; have x0 := m1.cell (i := 0) rfl; have x1 := m1.cell (i := 1) rfl; have x2 := m1.cell (i := 2) rfl; have x3 := m1.cell (i := 3) rfl; have y0 := m2.cell (i := 0) rfl; have y1 := m2.cell (i := 1) rfl; have y2 := m2.cell (i := 2) rfl; go_simp; try (with_reducible rfl))
       try simp only [Act.put, zA, zB, zC]
       refine rD 18 rfl (fun K hK => ?_)
       obtain ⟨g6, c6, rfl, hq6, _⟩ := hown6.form (by omega)
       have hX6 := (HX5.out.below (box_below wd (.cells #[.bool xw, .int .i64 yk, .int .i64 yv] 54))).kept hg6 HN5.out
       have hcx := hX6.cell (i := 3) rfl
       have hfx := hX6.free 3
       rw [if_pos (by rfl)]
       go_simp
       have sD := And.intro (sC.1.far (a := ⟨p5, 3, none⟩) (by show p3 ≠ p5; omega) (.slice (some ⟨g6, 0, none⟩) (j + 1) c6)) (sC.2.far (a := ⟨p5, 3, none⟩) (by show p7 ≠ p5; omega) (.slice (some ⟨g6, 0, none⟩) (j + 1) c6))
       show K _ _
       refine hK.out _ _ sD (fun _ => ?_)
       clear hK K
       refine wpAnyH_done (by kernel_rfl) ?_ _
       try simp only [Act.put]
       have hgs := grown_set w6 ⟨p5, 3, none⟩ (.slice (some ⟨g6, 0, none⟩) (j + 1) c6)
       have hO6 : Own w6 w.heap.size (.slice (some ⟨g6, 0, none⟩) (j + 1) c6) ((l.take (j + 1)).map (renO (nmF FK) (nmF FV))) := by
        rw [HTK.out]
        unfold Own
        rw [opV_app, List.length_append, HLJ.out]
        exact hown6
       have hbe := (HBD.out.alloc HBD.out.size (.cells #[.bool xw, .int .i64 yk, .int .i64 yv] 54)).grown hg6 (by have := HBD.out.size; simp; omega) (fun q e => (World.ownsRow.lt hown q e).1)
       have RX5 := hid (hX6.set 3 (.slice (some ⟨g6, 0, none⟩) (j + 1) c6))
       have RU := hid (Own.keep hO6 hgs (owns_no_box hO6 hX6 (by decide)))
       have RX2 := hid (((HX2.out.below (box_below wd (.cells #[.bool xw, .int .i64 yk, .int .i64 yv] 54))).kept hg6 HN2.out).far (a := ⟨p5, 3, none⟩) (by show w.heap.size ≠ p5; omega) (.slice (some ⟨g6, 0, none⟩) (j + 1) c6))
       have RX3 := hid (sC.1.far (a := ⟨p5, 3, none⟩) (by show p3 ≠ p5; omega) (.slice (some ⟨g6, 0, none⟩) (j + 1) c6))
       have RX4 := hid (((HX4.out.below (box_below wd (.cells #[.bool xw, .int .i64 yk, .int .i64 yv] 54))).kept hg6 HN4.out).far (a := ⟨p5, 3, none⟩) (by show p4 ≠ p5; omega) (.slice (some ⟨g6, 0, none⟩) (j + 1) c6))
       have RBD := hid (hbe.setCell (p := ⟨p5, 3, none⟩) (by show w.heap.size ≤ p5; omega) (.slice (some ⟨g6, 0, none⟩) (j + 1) c6))
       clear hgs hO6 hbe hX6 hcx hfx sA sC sD hown6 hg6
       go_wp2_with fail
       go_roundw
       case rel => exact ⟨j + 1, _, by omega, by go_num, RX5, RU, RX2, RX3, RX4, RBD⟩
       case measure => simp [intOf]; omega
      ·
       rw [if_pos (by rfl)]
       go_simp
       have sA := And.intro (hS0.1.below (box_below wd (.cells #[.bool xw, .int .i64 yk, .int .i64 yv] 54))) (hS0.2.below (box_below wd (.cells #[.bool xw, .int .i64 yk, .int .i64 yv] 54)))
       have HUB := ((box_below wd (.cells #[.bool xw, .int .i64 yk, .int .i64 yv] 54)).cell (p := ⟨p5, 3, none⟩) (block_lt HUC.out)).trans HUC.out
       show K _ _
       refine hK.out _ _ sA (fun _ => ?_)
       clear hK K
       refine rD 1 rfl (fun K hK => ?_)
       have zu := HUB
       go_simp
       show K _ _
       refine hK.out _ _ sA (fun _ => ?_)
       clear hK K
       refine rD 16 rfl (fun K hK => ?_)
       refine step_app _ rfl (.tmp 32) (.tmp 46) 50 rfl w.heap.size 54 i1 (.agg #[.bool false, .int .i64 0, .int .i64 0]) 3 24 Tryz.underlying50 hj hy0 hy1 hy2 rfl (by decide) _ _ _ (by simp [Act.eval]) (hown.alloc (.cells #[.bool xw, .int .i64 yk, .int .i64 yv] 54)) ⟨w7.heap.size, 0, none⟩ 1 1 [.bool xw, .int .i64 yk, .int .i64 yv] (by simp [Act.eval]) rfl (by rw [← hwd]; exact lit_new wd _ _ _ _) (by simp [Value.oneCell']) (by unfold maxLen; omega) (by omega) (by simp; omega) ?_
       intro v6 w6 hown6 hg6
       have sC := And.intro (sA.1.kept hg6 HN3.out) (sA.2.kept hg6 HN7.out)
       refine hK.out _ _ sC (fun _ => ?_)
       clear hK K
       refine tG (some 48) 17 ?vhb17x38 rfl rfl (Or.inl ⟨by rfl, ?hhb17x38⟩) sC ?rhb17x38
       case hhb17x38 => (intro w hw; obtain ⟨m1, m2⟩ := hw; have x0 := m1.cell (i := 0) rfl; have x1 := m1.cell (i := 1) rfl; have x2 := m1.cell (i := 2) rfl; have x3 := m1.cell (i := 3) rfl; have y0 := m2.cell (i := 0) rfl; have y1 := m2.cell (i := 1) rfl; have y2 := m2.cell (i := 2) rfl; go_simp; try (with_reducible rfl))
       try simp only [Act.put, zA, zB, zC]
       refine rD 18 rfl (fun K hK => ?_)
       obtain ⟨g6, c6, rfl, hq6, _⟩ := hown6.form (by omega)
       have hX6 := (HX5.out.below (box_below wd (.cells #[.bool xw, .int .i64 yk, .int .i64 yv] 54))).kept hg6 HN5.out
       have hcx := hX6.cell (i := 3) rfl
       have hfx := hX6.free 3
       rw [if_pos (by rfl)]
       go_simp
       have sD := And.intro (sC.1.far (a := ⟨p5, 3, none⟩) (by show p3 ≠ p5; omega) (.slice (some ⟨g6, 0, none⟩) (j + 1) c6)) (sC.2.far (a := ⟨p5, 3, none⟩) (by show p7 ≠ p5; omega) (.slice (some ⟨g6, 0, none⟩) (j + 1) c6))
       show K _ _
       refine hK.out _ _ sD (fun _ => ?_)
       clear hK K
       refine wpAnyH_done (by kernel_rfl) ?_ _
       try simp only [Act.put]
       have hgs := grown_set w6 ⟨p5, 3, none⟩ (.slice (some ⟨g6, 0, none⟩) (j + 1) c6)
       have hO6 : Own w6 w.heap.size (.slice (some ⟨g6, 0, none⟩) (j + 1) c6) ((l.take (j + 1)).map (renO (nmF FK) (nmF FV))) := by
        rw [HTK.out]
        unfold Own
        rw [opV_app, List.length_append, HLJ.out]
        exact hown6
       have hbe := (HBD.out.alloc HBD.out.size (.cells #[.bool xw, .int .i64 yk, .int .i64 yv] 54)).grown hg6 (by have := HBD.out.size; simp; omega) (fun q e => (World.ownsRow.lt hown q e).1)
       have RX5 := hid (hX6.set 3 (.slice (some ⟨g6, 0, none⟩) (j + 1) c6))
       have RU := hid (Own.keep hO6 hgs (owns_no_box hO6 hX6 (by decide)))
       have RX2 := hid (((HX2.out.below (box_below wd (.cells #[.bool xw, .int .i64 yk, .int .i64 yv] 54))).kept hg6 HN2.out).far (a := ⟨p5, 3, none⟩) (by show w.heap.size ≠ p5; omega) (.slice (some ⟨g6, 0, none⟩) (j + 1) c6))
       have RX3 := hid (sC.1.far (a := ⟨p5, 3, none⟩) (by show p3 ≠ p5; omega) (.slice (some ⟨g6, 0, none⟩) (j + 1) c6))
       have RX4 := hid (((HX4.out.below (box_below wd (.cells #[.bool xw, .int .i64 yk, .int .i64 yv] 54))).kept hg6 HN4.out).far (a := ⟨p5, 3, none⟩) (by show p4 ≠ p5; omega) (.slice (some ⟨g6, 0, none⟩) (j + 1) c6))
       have RBD := hid (hbe.setCell (p := ⟨p5, 3, none⟩) (by show w.heap.size ≤ p5; omega) (.slice (some ⟨g6, 0, none⟩) (j + 1) c6))
       clear hgs hO6 hbe hX6 hcx hfx sA sC sD hown6 hg6
       go_wp2_with fail
       go_roundw
       case rel => exact ⟨j + 1, _, by omega, by go_num, RX5, RU, RX2, RX3, RX4, RBD⟩
       case measure => simp [intOf]; omega
   ·obtain rfl : j = l.length := by omega
    have hji : ¬ (l.length : Int) < (l.length : Int) := by omega
    rw [List.take_length] at HU
    obtain ⟨ua, uc, rfl, _⟩ := (Own.ops HU.out).form
    have hP4h : wr.heap[p4]? = some (.cells #[.int .i64 0, .int .i64 0, .int .i64 0, .slice none 0 0] 52 (0, 0)) := HX4.out
    have HPB := hid HX4.out
    have f0 : wr.cell? ⟨p5, 0, none⟩ = some (.int .i64 fs) := HX5.out.cell (i := 0) rfl
    have f1 : wr.cell? ⟨p5, 1, none⟩ = some (.int .i64 fb) := HX5.out.cell (i := 1) rfl
    have f2 : wr.cell? ⟨p5, 2, none⟩ = some (.int .i64 fc) := HX5.out.cell (i := 2) rfl
    have f3 : wr.cell? ⟨p5, 3, none⟩ = some (.slice ua l.length uc) := by have q := HX5.out.cell (i := 3) rfl; simpa using q
    have hP4 : BoxN wr p4 52 #[.int .i64 0, .int .i64 0, .int .i64 0, .slice none 0 0] := HX4.out
    have hq44 : w.heap.size ≤ p4 := by omega
    have hbP := hid (below_setRow HBD.out hq44 #[.int .i64 fs, .int .i64 fb, .int .i64 fc, .slice ua l.length uc])
    have hUU := hid (Own.keep (w' := wr.setRow p4 #[.int .i64 fs, .int .i64 fb, .int .i64 fc, .slice ua l.length uc]) (row := some p4) (by simpa using HU.out) (grown_setRow wr p4 #[.int .i64 fs, .int .i64 fb, .int .i64 fc, .slice ua l.length uc]) (owns_no_box (by simpa [Own] using HU.out) hP4 (by decide)))
    have hinf : (Tryz.prog.info? 52).map (·.size) = some (#[.int .i64 fs, .int .i64 fb, .int .i64 fc, .slice ua l.length uc] : Array Value).size := infoTxnA
    have hone : (#[.int .i64 fs, .int .i64 fb, .int .i64 fc, .slice ua l.length uc] : Array Value).all (·.oneCell') = true := by simp [Value.oneCell']
    clear HX2 HX3 HX4 HBD HX5 HU hP4
    go_wp2_with (with_reducible refine wpList_store_rowT 52 hP4h rfl _ _ rfl rfl rfl hinf rfl hone ?_)
    try simp only [Act.put]
    refine bodyPost_ret (v := .agg #[.int .i64 fs, .int .i64 fb, .int .i64 fc, .slice ua l.length uc]) (results_cell_row rfl _ _ p4 _ #[.int .i64 fs, .int .i64 fb, .int .i64 fc, .slice ua l.length uc] _ _ rfl (setRow_heap _ _ _ _ _ _ HPB.out) Tryz.underlying52 rfl hinf) rfl ?_
    exact ⟨⟨_, rfl, hUU.out⟩, hbP.out⟩
end

section
open Go.RowKit
def OrdO (L : List Int) (n : Nat) : Prop := L = [] ∨ (L.length = n ∧ ∀ k (hk : k < L.length), ∃ i : Nat, L[k] = (i : Int) ∧ i < n)
def ixO (L : List Int) (k : Nat) : Nat := if L = [] then k else (L.getD k 0).toNat
theorem ordO_at {L : List Int} {n k : Nat} (h : OrdO L n) (hk : k < n) : ixO L k < n ∧ ((L = [] ∧ ixO L k = k) ∨ ∃ hl : k < L.length, L[k] = (ixO L k : Int)) := by
 rcases h with rfl | ⟨h1, h2⟩
 ·exact ⟨by simpa [ixO] using hk, .inl ⟨rfl, by simp [ixO]⟩⟩
 ·have hl : k < L.length := by omega
  obtain ⟨i, e, hi⟩ := h2 k hl
  have hne : L ≠ [] := fun q => by subst q; simp at hl
  have e2 : ixO L k = i := by
   unfold ixO
   rw [if_neg hne, List.getD_eq_getElem?_getD, List.getElem?_eq_getElem hl, e]
   simp
  rw [e2]
  exact ⟨hi, .inr ⟨hl, e⟩⟩
def namL (f τ κ ν : Int → Int) (L : List Int) (h : List TxnV) : List ETx := (List.range h.length).map fun k => renE f τ κ ν ((h.map txE).getD (ixO L k) (0, 0, 0, []))
theorem namL_len (f τ κ ν : Int → Int) (L : List Int) (h : List TxnV) : (namL f τ κ ν L h).length = h.length := by simp [namL]
theorem namL_next {f τ κ ν : Int → Int} {L : List Int} {h : List TxnV} {j i : Nat} (hj : j < h.length) (hi : i < h.length) (e : ixO L j = i) : (namL f τ κ ν L h).take (j + 1) = (namL f τ κ ν L h).take j ++ [renE f τ κ ν (txE h[i])] := by
 rw [List.take_succ_eq_append_getElem (by rw [namL_len]; exact hj)]
 congr 2
 unfold namL
 rw [List.getElem_map, List.getElem_range, e, List.getD_eq_getElem?_getD, List.getElem?_map, List.getElem?_eq_getElem hi]
 rfl
set_option linter.unusedSimpArgs false in
theorem rnamed_any (hv vK vS vV vT vO : Value) (FK FS FV FT : Int → Option Int) (L : List Int) (h : List TxnV) (w : World) (hN : NmA w vK vS vV vT FK FS FV FT) (hO : Ints w vO L) (hT : Txns w hv h) (hL : OrdO L h.length) (hh : h.length ≤ 100000)
  (hI : ∀ t ∈ h, InI t.s ∧ InI t.b ∧ InI t.c ∧ t.l.length ≤ 1024 ∧ ∀ o ∈ t.l, InI o.key ∧ InI o.val) :
  Calls Tryz.prog 34 #[hv, .agg #[vK, vS, vV, vT, vO]] w fun e w' => ∃ v c, e = .returned v ∧ OwnH w' w.heap.size v c ∧ c.map txE = namL (nmF FS) (nmF FT) (nmF FK) (nmF FV) L h ∧ Below w.heap.size w w' := by
 obtain ⟨i1, hj, hy0, hy1, hy2⟩ := info_parts infoTxn
 have HT := hid (fun wx (hx : Below w.heap.size w wx) => hT.below hx)
 have HO := hid (fun wx (hx : Below w.heap.size w wx) => hO.below hx)
 have HN := hid (fun wx (hx : Below w.heap.size w wx) => hN.below hx)
 have HL := hid hL
 have HI := hid hI
 obtain ⟨mK, rfl⟩ := hN.k.form
 obtain ⟨mS, rfl⟩ := hN.s.form
 obtain ⟨mV, rfl⟩ := hN.v.form
 obtain ⟨mT, rfl⟩ := hN.t.form
 obtain ⟨qa, qc, rfl, _⟩ := hO.form
 obtain ⟨ao, cap, rfl, _⟩ := hT.form
 have hbx := BoxN.new w 33 #[.map mK, .map mS, .map mV, .map mT, .slice qa L.length qc]
 have hb1 := box_below w (.cells #[.map mK, .map mS, .map mV, .map mT, .slice qa L.length qc] 33)
 clear hN hO hT hL hI
 go_enter Tryz.func34, Tryz.ntmps34
 go_upto_region 1 with fail
 generalize w.alloc (.cells #[.map mK, .map mS, .map mV, .map mT, .slice qa L.length qc] 33) = w1 at *
 have HX1 := hid hbx
 have HB1 := hid hb1
 clear hbx hb1
 go_wp2_with fail
 go_loopw [5, 10] (fun v i wr => ∃ (j : Nat) (c : List TxnV), j ≤ h.length ∧ i = .int .i64 (j : Int) ∧ Hid (c.map txE = (namL (nmF FS) (nmF FT) (nmF FK) (nmF FV) L h).take j) ∧ OwnH wr w.heap.size v c ∧ Hid (BoxN wr w.heap.size 33 #[.map mK, .map mS, .map mV, .map mT, .slice qa L.length qc]) ∧ Hid (Below w.heap.size w wr)) (fun _ i _ => h.length - (intOf i).toNat)
 case atStart => exact ⟨0, [], by omega, rfl, hid rfl, OwnH.nil _ _, HX1, HB1⟩
 case round =>
  obtain ⟨j, c, hjl, rfl, HCM, hM, HX, HB⟩ := hrel
  by_cases hlt : j < h.length
  ·have hji : (j : Int) < (h.length : Int) := by omega
   obtain ⟨i, hix⟩ : ∃ i, ixO L j = i := ⟨_, rfl⟩
   have HOA := hid (ordO_at HL.out hlt)
   rw [hix] at HOA
   have hi := HOA.out.1
   have HM := hid hM
   clear hM
   have y4 := HX.out.cell (i := 4) rfl
   go_upto_if 17 with fail
   have HZY : Hid (decide (0 < L.length) = true → ∃ hl : j < L.length, L[j] = (i : Int)) := hid (fun e => HOA.out.2.elim (fun q => by rw [q.1] at e; simp at e) (fun q => q))
   have HZN : Hid (decide (0 < L.length) = false → j = i) := hid (fun e => HOA.out.2.elim (fun q => q.2.symm) (fun q => by obtain ⟨hl, _⟩ := q; have := of_decide_eq_false e; omega))
   generalize decide (0 < L.length) = z2 at *
   go_cut [7] from 18 to 22 (fun v wx => v = .int .i64 (i : Int) ∧ wx = wr)
   case first =>
    cases z2 with
    | false =>
     have HE := hid (HZN.out rfl)
     clear HZY HZN
     go_wp2_with fail
     go_meet
     case rel => exact ⟨by rw [HE.out], rfl⟩
    | true =>
     obtain ⟨hl0, hLi⟩ := HZY.out rfl
     clear HZY HZN
     obtain ⟨gq, oq, eq, y5⟩ := (HO.out _ HB.out).at hl0
     cases eq
     rw [hLi] at y5
     have hl2 : (j : Int) < (L.length : Int) := by omega
     clear hLi
     go_wp2_with fail
     go_meet
     case rel => exact ⟨rfl, rfl⟩
   case rest =>
    obtain ⟨rfl, rfl⟩ := hcut
    clear HZY HZN
    go_upto_region 8 with fail
    have hii : (i : Int) < (h.length : Int) := by omega
    obtain ⟨tg, tf, hao, _⟩ := (HT.out _ HB.out).at hi
    cases hao
    have HCL : Hid (∀ wx, Below w.heap.size w wx → wx.cell? ⟨tg, tf + i * 4, none⟩ = some (.int .i64 h[i].s) ∧ wx.cell? ⟨tg, tf + i * 4 + 1, none⟩ = some (.int .i64 h[i].b) ∧ wx.cell? ⟨tg, tf + i * 4 + 2, none⟩ = some (.int .i64 h[i].c) ∧ wx.cell? ⟨tg, tf + i * 4 + 3, none⟩ = some h[i].v) := hid (fun wx hx => by
     obtain ⟨b, o, e, q⟩ := (HT.out wx hx).at hi
     cases e
     exact q)
    have HOPS := hid (fun wx (hx : Below w.heap.size w wx) => (HT.out wx hx).ops hi)
    have hx := HI.out _ (List.getElem_mem hi)
    have HSN : Hid (∀ (c : List TxnV) (u : Value), c.map txE = (namL (nmF FS) (nmF FT) (nmF FK) (nmF FV) L h).take j → (c ++ [(⟨nmF FS h[i].s, nmF FT h[i].b, nmF FT h[i].c, u, h[i].l.map (renO (nmF FK) (nmF FV))⟩ : TxnV)]).map txE = (namL (nmF FS) (nmF FT) (nmF FK) (nmF FV) L h).take (j + 1)) := hid (fun c u hc => by
     rw [namL_next hlt hi hix, List.map_append, hc]; rfl)
    have hcl : c.length ≤ 100000 := by have q := congrArg List.length HCM.out; rw [List.length_map, List.length_take, namL_len] at q; omega
    generalize h[i] = t at *
    obtain ⟨ts, tb, tc, tv, tl⟩ := t
    simp only at HCL HOPS hx HSN
    obtain ⟨oo, oc, rfl, _⟩ := (HOPS.out _ HB.out).form
    have CN := hid (fun wx (hx' : Below w.heap.size w wx) => rrenamed_any ts tb tc (.slice oo tl.length oc) tl (.map mK) (.map mS) (.map mV) (.map mT) (.slice qa L.length qc) FK FS FV FT wx (HN.out wx hx') ⟨qa, _, qc, rfl⟩ (HOPS.out wx hx') hx.2.2.2.1 hx.1 hx.2.1 hx.2.2.1 hx.2.2.2.2)
    obtain ⟨fs, hfs⟩ : ∃ z, nmF FS ts = z := ⟨_, rfl⟩
    obtain ⟨fb, hfb⟩ : ∃ z, nmF FT tb = z := ⟨_, rfl⟩
    obtain ⟨fc, hfc⟩ : ∃ z, nmF FT tc = z := ⟨_, rfl⟩
    rw [hfs, hfb, hfc] at CN
    rw [hfs, hfb, hfc] at HSN
    clear hx hfs hfb hfc HOPS hix HOA y4
    have kd := (Below.refl wc.heap.size wc).drew
    have HBD := hid HB.out.drew
    have HXD := hid (HX.out.below kd)
    have hMd := HM.out.below kd
    have HLT := hid hMd.lt
    have HNX : Hid (some w.heap.size ≠ u5.ownBlock) := hid (fun e => (owns_no_box hMd.1 HXD.out (by decide)).elim (fun q => by rw [q] at e; cases e) (fun q => q e.symm))
    clear kd HM
    refine wp_region_held_drew (S := fun wx => Below w.heap.size w wx ∧ BoxN wx w.heap.size 33 #[.map mK, .map mS, .map mV, .map mT, .slice qa L.length qc]) (by kernel_rfl) ⟨HBD.out, HXD.out⟩ (fun hS0 => ?_)
    generalize wc.drew = wd at *
    refine tG (some 23) 0 ?vhb0x1 rfl rfl (Or.inl ⟨by rfl, ?hhb0x1⟩) hS0 ?rhb0x1
    case hhb0x1 => (intro w hw; obtain ⟨m1, m2⟩ := hw; obtain ⟨x0, x1, x2, x3⟩ := HCL.out _ m1; have y0 := m2.cell (i := 0) rfl; have y1 := m2.cell (i := 1) rfl; have y2 := m2.cell (i := 2) rfl; have y3 := m2.cell (i := 3) rfl; have y4 := m2.cell (i := 4) rfl; go_simp; try (with_reducible rfl))
    try simp only [Act.put, zA, zB, zC]
    refine tG (some 24) 1 ?vhb1x2 rfl rfl (Or.inl ⟨by rfl, ?hhb1x2⟩) hS0 ?rhb1x2
    case hhb1x2 => (intro w hw; obtain ⟨m1, m2⟩ := hw; obtain ⟨x0, x1, x2, x3⟩ := HCL.out _ m1; have y0 := m2.cell (i := 0) rfl; have y1 := m2.cell (i := 1) rfl; have y2 := m2.cell (i := 2) rfl; have y3 := m2.cell (i := 3) rfl; have y4 := m2.cell (i := 4) rfl; go_simp; try (with_reducible rfl))
    try simp only [Act.put, zA, zB, zC]
    refine tG (some 25) 2 ?vhb2x3 rfl rfl (Or.inl ⟨by rfl, ?hhb2x3⟩) hS0 ?rhb2x3
    case hhb2x3 => (intro w hw; obtain ⟨m1, m2⟩ := hw; obtain ⟨x0, x1, x2, x3⟩ := HCL.out _ m1; have y0 := m2.cell (i := 0) rfl; have y1 := m2.cell (i := 1) rfl; have y2 := m2.cell (i := 2) rfl; have y3 := m2.cell (i := 3) rfl; have y4 := m2.cell (i := 4) rfl; go_simp; try (with_reducible rfl))
    try simp only [Act.put, zA, zB, zC]
    refine tG (some 26) 3 ?vhb3x4 rfl rfl (Or.inl ⟨by rfl, ?hhb3x4⟩) hS0 ?rhb3x4
    case hhb3x4 => (intro w hw; obtain ⟨m1, m2⟩ := hw; obtain ⟨x0, x1, x2, x3⟩ := HCL.out _ m1; have y0 := m2.cell (i := 0) rfl; have y1 := m2.cell (i := 1) rfl; have y2 := m2.cell (i := 2) rfl; have y3 := m2.cell (i := 3) rfl; have y4 := m2.cell (i := 4) rfl; go_simp; try (with_reducible rfl))
    try simp only [Act.put, zA, zB, zC]
    refine tG (some 27) 4 ?vhb4x5 rfl rfl (Or.inl ⟨by rfl, ?hhb4x5⟩) hS0 ?rhb4x5
    case hhb4x5 => (intro w hw; obtain ⟨m1, m2⟩ := hw; obtain ⟨x0, x1, x2, x3⟩ := HCL.out _ m1; have y0 := m2.cell (i := 0) rfl; have y1 := m2.cell (i := 1) rfl; have y2 := m2.cell (i := 2) rfl; have y3 := m2.cell (i := 3) rfl; have y4 := m2.cell (i := 4) rfl; go_simp; try (with_reducible rfl))
    try simp only [Act.put, zA, zB, zC]
    refine tG (some 28) 5 ?vhb5x6 rfl rfl (Or.inl ⟨by rfl, ?hhb5x6⟩) hS0 ?rhb5x6
    case hhb5x6 => (intro w hw; obtain ⟨m1, m2⟩ := hw; obtain ⟨x0, x1, x2, x3⟩ := HCL.out _ m1; have y0 := m2.cell (i := 0) rfl; have y1 := m2.cell (i := 1) rfl; have y2 := m2.cell (i := 2) rfl; have y3 := m2.cell (i := 3) rfl; have y4 := m2.cell (i := 4) rfl; go_simp; try (with_reducible rfl))
    try simp only [Act.put, zA, zB, zC]
    refine rD 6 rfl (fun K hK => ?_)
    go_simp
    refine (CN.out _ hS0.1).mono ?_
    rintro e w8 ⟨⟨u8, rfl, hu8⟩, h8⟩
    obtain ⟨ua, uc, hua, _⟩ := (Own.ops hu8).form
    rw [List.length_map] at hua
    subst hua
    have s8 := And.intro (below_then hS0.1 h8) (hS0.2.below h8)
    have hM8 := hMd.below h8
    show K _ _
    refine hK.out _ _ s8 (fun _ => ?_)
    clear hK K
    refine rD 7 rfl (fun K hK => ?_)
    rw [if_pos (by rfl)]
    go_simp
    have sA := And.intro (s8.1.alloc s8.1.size (.cells #[.int .i64 fs, .int .i64 fb, .int .i64 fc, .slice ua tl.length uc] 52)) (s8.2.below (box_below w8 (.cells #[.int .i64 fs, .int .i64 fb, .int .i64 fc, .slice ua tl.length uc] 52)))
    have hMA := hM8.below (box_below w8 (.cells #[.int .i64 fs, .int .i64 fb, .int .i64 fc, .slice ua tl.length uc] 52))
    have huA := hu8.below (box_below w8 (.cells #[.int .i64 fs, .int .i64 fb, .int .i64 fc, .slice ua tl.length uc] 52))
    show K _ _
    refine hK.out _ _ sA (fun _ => ?_)
    clear hK K
    refine rD 8 rfl (fun K hK => ?_)
    refine step_app _ rfl (.tmp 23) (.tmp 30) 22 rfl w.heap.size 52 i1 (.agg #[.int .i64 0, .int .i64 0, .int .i64 0, .slice none 0 0]) 4 48 Tryz.underlying22 hj hy0 hy1 hy2 rfl (by decide) _ _ _ (by simp [Act.eval]) hMA.1 ⟨w8.heap.size, 0, none⟩ 1 1 [.int .i64 fs, .int .i64 fb, .int .i64 fc, .slice ua tl.length uc] (by simp [Act.eval]) rfl (row4_newR w8 _ _ _ _ _) (by simp [Value.oneCell']) (by unfold maxLen; omega) (by omega) (by have := sA.1.size; omega) ?_
    intro v9 w9 hown9 hg9
    have hO9 : OwnT w9 w.heap.size v9 (c ++ [⟨fs, fb, fc, .slice ua tl.length uc, tl.map (renO (nmF FK) (nmF FV))⟩]) := by
     unfold OwnT
     rw [List.length_append, txV_app]
     exact hown9
    have hM9 := OwnH.add hMA huA (fun t ht g hg => HLT.out t ht g hg) (by have := HBD.out.size; omega) hO9 hg9
    have sC := And.intro (sA.1.grown hg9 (by have := sA.1.size; omega) (fun q e => (World.ownsRow.lt hMA.1 q e).1)) (sA.2.kept hg9 HNX.out)
    show K _ _
    refine hK.out _ _ sC (fun _ => ?_)
    clear hK K
    refine tG (some 5) 9 ?vhb9x10 rfl rfl (Or.inl ⟨by rfl, ?hhb9x10⟩) sC ?rhb9x10
    case hhb9x10 => (intro w hw; obtain ⟨m1, m2⟩ := hw; obtain ⟨x0, x1, x2, x3⟩ := HCL.out _ m1; have y0 := m2.cell (i := 0) rfl; have y1 := m2.cell (i := 1) rfl; have y2 := m2.cell (i := 2) rfl; have y3 := m2.cell (i := 3) rfl; have y4 := m2.cell (i := 4) rfl; go_simp; try (with_reducible rfl))
    try simp only [Act.put, zA, zB, zC]
    refine wpAnyH_done (by kernel_rfl) ?_ _
    try simp only [Act.put]
    have RM := hM9
    have RX := hid sC.2
    have RB := hid sC.1
    have RC := hid (HSN.out c (.slice ua tl.length uc) HCM.out)
    clear hO9 hown9 hg9 hMA huA hM8 hu8 h8 hMd s8 sA sC
    go_wp2_with fail
    go_roundw
    case rel => exact ⟨j + 1, _, by omega, by go_num, RC, RM, RX, RB⟩
    case measure => simp [intOf]; omega
  ·obtain rfl : j = h.length := by omega
   have hji : ¬ (h.length : Int) < (h.length : Int) := by omega
   have HCE : Hid (c.map txE = namL (nmF FS) (nmF FT) (nmF FK) (nmF FV) L h) := hid (by rw [HCM.out, List.take_of_length_le (by rw [namL_len]; omega)])
   clear HCM
   go_wp2_with fail
   go_ret
   exact ⟨_, rfl, c, hM, HCE.out, HB.out⟩
end

section
open Go.RowKit
def delF {α : Type} (f : Int → Option α) (key : Int) : Int → Option α := fun y => if y = key then none else f y
theorem MapI.del {α : Type} {e : α → Value} {P : Program} {k t el : TypeId} {w : World} {b n c : Nat} {f : Int → Option α} (h : MapI e P k w b n f c) (hk : P.underlying k = some (.int .i64)) (ht : P.underlying t = some (.map k el)) {key : Int} (hkey : InI key) (ty : TypeId) :
  ∃ w' c', (Builtin.delete_ #[t, k] ty #[.map (some b), .int .i64 key]).run P w = .ok (.tuple #[]) w' ∧ MapI e P k w' b n (delF f key) c' ∧ w.grownBy w' (some b) := by
 obtain ⟨D, hD, hs, ht2⟩ := h
 obtain ⟨w', hrun, r1, r2⟩ := hD.drop (Maps.int_keyed hk) ht (keyOf_I hk hkey) ty
 refine ⟨w', _, hrun, ⟨_, r1, rfl, fun y hy => ?_⟩, r2.grown⟩
 by_cases he : y = key
 ·subst he
  refine ⟨?_, fun a ha => ?_⟩
  ·rw [Maps.has_del_same]; simp [delF]
  ·simp [delF] at ha
 ·have hne : Lit.int .i64 y ≠ .int .i64 key := fun h => he (by cases h; rfl)
  have e1 : delF f key y = f y := by simp [delF, he]
  rw [e1]
  exact ⟨(Maps.has_del_other hne).trans (ht2 y hy).1, fun u hu z => (Maps.atKey_del_other hne _).trans ((ht2 y hy).2 u hu z)⟩
section
variable {P : Program} (w : World) {ops : Array Oper} {rest : List Oper} {o : Oper} {a : Act} {Q : Exit → Act → World → Prop}
theorem wpList_delI {α : Type} {e : α → Value} (hg : o.guard = none) (m x : Operand) (t k : TypeId) (hop : o.op = Op.call { callee := Callee.builtin Builtin.delete, args := #[m, x], argTypes := #[t, k] }) (el : TypeId) (hk : P.underlying k = some (.int .i64)) (ht : P.underlying t = some (.map k el))
  (b n c : Nat) (f : Int → Option α) (hm : a.eval m = .map (some b)) (hown : MapI e P k w b n f c) (key : Int) (hx : a.eval x = .int .i64 key) (hkey : InI key)
  (hK : ∀ w' c', MapI e P k w' b n (delF f key) c' → w.grownBy w' (some b) → wpList P ops Q rest (a.put o.dst (.tuple #[])) w') : wpList P ops Q (o :: rest) a w := by
 refine wpList_plain hg fun K' hK' => ?_
 obtain ⟨w', c', hrun, r1, r2⟩ := hown.del hk ht hkey o.type
 unfold Oper.wp
 simp [execOp, hop, resolve, invoke, builtin, hm, hx, hrun, Result.andThen]
 exact hK' _ _ (hK w' c' r1 r2)
theorem wpList_delN (hg : o.guard = none) (m x : Operand) (t k : TypeId) (hop : o.op = Op.call { callee := Callee.builtin Builtin.delete, args := #[m, x], argTypes := #[t, k] }) (el : TypeId) (hk : P.underlying k = some (.int .i64)) (ht : P.underlying t = some (.map k el))
  (hm : a.eval m = .map none) (key : Int) (hx : a.eval x = .int .i64 key) (hkey : InI key)
  (hK : wpList P ops Q rest (a.put o.dst (.tuple #[])) w) : wpList P ops Q (o :: rest) a w := by
 refine wpList_plain hg fun K' hK' => ?_
 have hrun := Maps.drop_nil (w := w) (Maps.int_keyed hk) ht (keyOf_I hk hkey) o.type
 unfold Oper.wp
 simp [execOp, hop, resolve, invoke, builtin, hm, hx, hrun, Result.andThen]
 exact hK' _ _ hK
end
theorem mclone_any (v : Value) (F : Int → Option Int) (w : World) (hN : NmI w v F) :
  Calls Tryz.prog 31 #[v] w fun e w' => ((e = .returned (.map none) ∧ F = fun _ => none) ∨ ∃ n c, e = .returned (.map (some w.heap.size)) ∧ MapI eI Tryz.prog 3 w' w.heap.size n F c) ∧ Below w.heap.size w w' := by
 rcases hN with ⟨rfl, rfl⟩ | ⟨b, n, c, rfl, D, hM, hs, ht⟩
 ·refine Calls.mono (AnyW.maps_Clone_nil Tryz.mclone w) ?_
  rintro e w' ⟨rfl, rfl⟩
  exact ⟨.inl ⟨rfl, rfl⟩, Below.refl _ _⟩
 ·refine Calls.mono (AnyW.maps_Clone_owns Tryz.mclone 3 (rdE eI) b n D w hM) ?_
  rintro e w' ⟨rfl, h1, _, h2⟩
  exact ⟨.inr ⟨n, c, rfl, D, h1, hs, ht⟩, h2⟩
end

section
open Go.RowKit
def tx0 (e : ETx) : TxnV := ⟨e.1, e.2.1, e.2.2.1, .slice none 0 0, e.2.2.2⟩
theorem tx0_txE (E : List ETx) : (E.map tx0).map txE = E := by
 rw [List.map_map]
 conv => rhs; rw [← List.map_id E]
 rfl
theorem val_written {h : List TxnV} (hc : checkI h = 0) {v : Int} (hv : ∃ t ∈ h, ∃ o ∈ t.l, o.val = v) (h0 : v ≠ 0) : ∃ t ∈ h, ∃ o ∈ t.l, o.wr = true ∧ o.val = v := by
 obtain ⟨t, ht, o, ho, rfl⟩ := hv
 by_cases hw : o.wr = true
 ·exact ⟨t, ht, o, ho, hw, rfl⟩
 ·have hval := (check_rightB hc).2.1
  unfold valuesB at hval
  rw [Bool.and_eq_true, List.all_eq_true] at hval
  have hr := hval.2 t ht
  unfold rowOk at hr
  rw [List.all_eq_true] at hr
  have hr := hr o ho
  unfold rdOk at hr
  have hs : (wrTo h h.length o.val).isSome = true := by
   cases e : wrTo h h.length o.val with
   | none => rw [e] at hr; simp [hw, h0] at hr
   | some u => rfl
  rw [dom_wr h h.length (Nat.le_refl _), List.take_length] at hs
  have hm := of_decide_eq_true hs
  unfold wvH wv at hm
  obtain ⟨u, hu, hm⟩ := List.mem_flatMap.1 hm
  obtain ⟨p, hp, e⟩ := List.mem_map.1 hm
  rw [List.mem_filter] at hp
  exact ⟨u, hu, p, hp.1, hp.2, e⟩
end

section
open Go.RowKit
theorem canof_ok (va : Value) (h : List TxnV) (w : World) (hT : Txns w va h) (hok : ∀ t ∈ h, t.ok) (hsh : Short h) (hc : checkI h = 0) :
  Calls Tryz.prog 14 #[va] w fun e w' => (∃ v c s, e = .returned v ∧ CopyOf w' w.heap.size v c ∧ IsSrt h s ∧ c.map txE = canE (s.map txE)) ∧ Below w.heap.size w w' := by
 have CC := hid (hcheck_any va h w hT hok hsh)
 rw [hc] at CC
 have CN := hid (fun wx (hx : Below w.heap.size w wx) => cnamed_any va h wx (hT.below hx) hok hc)
 clear hT hok hsh hc
 go_enter Tryz.func14, Tryz.ntmps14
 go_wp2_with fail
 refine CC.out.mono ?_
 rintro e w1 ⟨rfl, h1⟩
 have CN1 := hid (CN.out _ h1)
 clear CN CC
 go_wp2_with fail
 refine CN1.out.mono ?_
 rintro e w2 ⟨⟨v, c, s, rfl, hC, hs, hce⟩, h2⟩
 have HR := hid (show ∃ b2, (w.heap.size ≤ b2 ∧ b2 ≤ w2.heap.size) ∧ OwnT w2 w.heap.size v c ∧ (∀ b, v.ownBlock = some b → b < b2) ∧ (∀ t ∈ c, Own w2 b2 t.v t.l) ∧ c.Pairwise ApartT from by
  obtain ⟨b2, x1, x2, x3, x4, x5⟩ := hC
  exact ⟨b2, ⟨Nat.le_trans h1.size x1.1, x1.2⟩, own_base' x2 h1.size, x3, x4, x5⟩)
 have HS := hid (And.intro hs hce)
 have hb := below_then h1 h2
 clear hC hs hce h1 h2 CN1
 go_wp2_with fail
 go_ret
 first | exact ⟨⟨_, rfl, c, HR.out, s, HS.out.1, HS.out.2⟩, hb⟩ | exact ⟨⟨_, c, s, rfl, HR.out, HS.out.1, HS.out.2⟩, hb⟩ | exact ⟨⟨c, HR.out, s, HS.out.1, HS.out.2⟩, hb⟩
theorem canis_ok (va : Value) (h s : List TxnV) (w : World) (hT : Txns w va h) (hok : ∀ t ∈ h, t.ok) (hsh : Short h) (hc : checkI h = 0) (hs : IsSrt h s) :
  Calls Tryz.prog 27 #[va] w fun e w' => e = .returned (.bool (decide (canE (s.map txE) = h.map txE))) ∧ Below w.heap.size w w' := by
 have CC := hid (hcheck_any va h w hT hok hsh)
 rw [hc] at CC
 have CN := hid (fun wx (hx : Below w.heap.size w wx) => cnamed_any va h wx (hT.below hx) hok hc)
 have HT := hid (fun wx (hx : Below w.heap.size w wx) => hT.below hx)
 have HS := hid hs
 clear hT hok hsh hc hs
 go_enter Tryz.func27, Tryz.ntmps27
 go_wp2_with fail
 refine CC.out.mono ?_
 rintro e w1 ⟨rfl, h1⟩
 have CN1 := hid (CN.out _ h1)
 clear CN CC
 go_wp2_with fail
 refine CN1.out.mono ?_
 rintro e w2 ⟨⟨v, c, s2, rfl, hC, hs2, hce⟩, h2⟩
 have hb := below_then h1 h2
 have CS := hid (sameH_any v va c h w2 hC.txns (HT.out _ hb))
 rw [show sameH c h = decide (canE (s.map txE) = h.map txE) from by rw [HS.out |> fun q => srt_eq q hs2, ← hce]; rfl] at CS
 obtain ⟨q, hq⟩ : ∃ q, decide (canE (s.map txE) = h.map txE) = q := ⟨_, rfl⟩
 rw [hq] at CS
 have HQ := hid hq
 clear hq
 clear hC hs2 hce h1 h2 CN1
 go_wp2_with fail
 refine CS.out.mono ?_
 rintro e w3 ⟨rfl, h3⟩
 have hb := below_then hb h3
 go_wp2_with fail
 go_ret
 exact ⟨ret_b HQ.out.symm, hb⟩
theorem cansame_ok (va vb : Value) (h g s u : List TxnV) (w : World) (hT : Txns w va h) (hok : ∀ t ∈ h, t.ok) (hsh : Short h) (hc : checkI h = 0) (hs : IsSrt h s) (hT2 : Txns w vb g) (hok2 : ∀ t ∈ g, t.ok) (hsh2 : Short g) (hc2 : checkI g = 0) (hs2 : IsSrt g u) :
  Calls Tryz.prog 12 #[va, vb] w fun e w' => e = .returned (.bool (decide (canE (s.map txE) = canE (u.map txE)))) ∧ Below w.heap.size w w' := by
 have CC := hid (hcheck_any va h w hT hok hsh)
 rw [hc] at CC
 have CC2 := hid (fun wx (hx : Below w.heap.size w wx) => hcheck_any vb g wx (hT2.below hx) hok2 hsh2)
 rw [hc2] at CC2
 have CN := hid (fun wx (hx : Below w.heap.size w wx) => cnamed_any va h wx (hT.below hx) hok hc)
 have CN2 := hid (fun wx (hx : Below w.heap.size w wx) => cnamed_any vb g wx (hT2.below hx) hok2 hc2)
 have HS := hid (And.intro hs hs2)
 clear hT hok hsh hc hs hT2 hok2 hsh2 hc2 hs2
 go_enter Tryz.func12, Tryz.ntmps12
 go_wp2_with fail
 refine CC.out.mono ?_
 rintro e w1 ⟨rfl, h1⟩
 have CC3 := hid (CC2.out _ h1)
 clear CC CC2
 go_wp2_with fail
 refine CC3.out.mono ?_
 rintro e w2 ⟨rfl, h2⟩
 have hb2 := below_then h1 h2
 have CN1 := hid (CN.out _ hb2)
 clear CN CC3 h1 h2
 go_wp2_with fail
 refine CN1.out.mono ?_
 rintro e w3 ⟨⟨v, c, s2, rfl, hC, hs2, hce⟩, h3⟩
 have hb3 := below_then hb2 h3
 have CN3 := hid (CN2.out _ hb3)
 have HC := hid hC
 have HE := hid (And.intro hs2 hce)
 clear CN1 CN2 h3 hb2 hC hs2 hce
 go_wp2_with fail
 refine CN3.out.mono ?_
 rintro e w4 ⟨⟨v2, c2, s3, rfl, hC2, hs3, hce3⟩, h4⟩
 have hb4 := below_then hb3 h4
 have CS := hid (sameH_any v v2 c c2 w4 (HC.out.txns.below h4) hC2.txns)
 rw [show sameH c c2 = decide (canE (s.map txE) = canE (u.map txE)) from by rw [srt_eq HS.out.1 HE.out.1, srt_eq HS.out.2 hs3, ← HE.out.2, ← hce3]; rfl] at CS
 obtain ⟨q, hq⟩ : ∃ q, decide (canE (s.map txE) = canE (u.map txE)) = q := ⟨_, rfl⟩
 rw [hq] at CS
 have HQ := hid hq
 clear hq
 clear CN3 hb3 hC2 hs3 hce3 h4
 go_wp2_with fail
 refine CS.out.mono ?_
 rintro e w5 ⟨rfl, h5⟩
 have hb := below_then hb4 h5
 go_wp2_with fail
 go_ret
 exact ⟨ret_b HQ.out.symm, hb⟩
def spA (u : Value) : List TxnV := [⟨9, 5, 8, u, [⟨true, 3, 7⟩]⟩]
def spW (u : Value) : List TxnV := [⟨0, 0, 1, u, [⟨true, 0, 1⟩]⟩]
theorem spA_check (u : Value) : checkI (spA u) = 0 := by kernel_rfl
theorem spW_check (u : Value) : checkI (spW u) = 0 := by kernel_rfl
theorem spA_ok (u : Value) : ∀ t ∈ spA u, t.ok := by
 intro t ht
 simp [spA] at ht
 subst ht
 refine ⟨⟨?_, ?_, ?_⟩, ?_⟩
 iterate 3 (simp [IntOk])
 intro o ho; simp at ho; subst ho; simp [OpV.ok, IntOk]
theorem spW_ok (u : Value) : ∀ t ∈ spW u, t.ok := by
 intro t ht
 simp [spW] at ht
 subst ht
 refine ⟨⟨?_, ?_, ?_⟩, ?_⟩
 iterate 3 (simp [IntOk])
 intro o ho; simp at ho; subst ho; simp [OpV.ok, IntOk]
theorem spA_short (u : Value) : Short (spA u) := fun t ht => by simp [spA] at ht; subst ht; simp
theorem spW_short (u : Value) : Short (spW u) := fun t ht => by simp [spW] at ht; subst ht; simp
theorem srt_one (t : TxnV) : IsSrt [t] [t] := ⟨List.Perm.refl _, List.pairwise_singleton _ _⟩
theorem spA_can (u : Value) : canE ((spA u).map txE) = [(0, 0, 1, [⟨true, 0, 1⟩])] := by
 show canE [(9, 5, 8, [⟨true, 3, 7⟩])] = _
 decide +kernel
theorem spW_can (u : Value) : canE ((spW u).map txE) = [(0, 0, 1, [⟨true, 0, 1⟩])] := by
 show canE [(0, 0, 1, [⟨true, 0, 1⟩])] = _
 decide +kernel
theorem lit_txn (w : World) (s b c key val : Int) : Txns ((w.alloc (.cells #[.bool true, .int .i64 key, .int .i64 val] 54)).alloc (.cells #[.int .i64 s, .int .i64 b, .int .i64 c, .slice (some ⟨w.heap.size, 0, none⟩) 1 1] 52)) (.slice (some ⟨w.heap.size + 1, 0, none⟩) 1 1) [⟨s, b, c, .slice (some ⟨w.heap.size, 0, none⟩) 1 1, [⟨true, key, val⟩]⟩] := by
 have hO : Ops _ (.slice (some ⟨w.heap.size, 0, none⟩) 1 1) [⟨true, key, val⟩] := Row.of_owns (World.ownsRow_lit (base := 0) (e := 54) (size := 3) w #[.bool true, .int .i64 key, .int .i64 val] 1 (Nat.zero_le _) (by decide) rfl)
 have hR : Row _ _ 1 4 _ := Row.of_owns (World.ownsRow_lit (base := 0) (e := 52) (size := 4) (w.alloc (.cells #[.bool true, .int .i64 key, .int .i64 val] 54)) #[.int .i64 s, .int .i64 b, .int .i64 c, .slice (some ⟨w.heap.size, 0, none⟩) 1 1] 1 (Nat.zero_le _) (by decide) rfl)
 rw [show (w.alloc (.cells #[.bool true, .int .i64 key, .int .i64 val] 54)).heap.size = w.heap.size + 1 from by simp] at hR
 exact ⟨hR, fun t ht => by
  simp at ht
  subst ht
  exact hO.below (box_below _ _)⟩
theorem speaks22_any (w : World) :
  Calls Tryz.prog 8 #[] w fun e w' => e = .returned (.bool true) ∧ Below w.heap.size w w' := by
 have C1 := fun (wx : World) => hid (write_op 3 7 wx)
 have C2 := fun (wx : World) => hid (write_op 0 1 wx)
 go_enter Tryz.func8, Tryz.ntmps8
 go_wp2_with fail
 refine ((C1 w).out).mono ?_
 rintro e w1 ⟨rfl, hb1⟩
 have HT1 := hid (lit_txn w1 9 5 8 3 7)
 have hx1 := (box_below w1 (.cells #[.bool true, .int .i64 3, .int .i64 7] 54))
 have hx2 := below_then hx1 (box_below (w1.alloc (.cells #[.bool true, .int .i64 3, .int .i64 7] 54)) (.cells #[.int .i64 9, .int .i64 5, .int .i64 8, .slice (some ⟨w1.heap.size, 0, none⟩) 1 1] 52))
 have hb2 := below_then hb1 hx2
 clear hx1 hx2 hb1
 go_upto_region 2 with fail
 generalize (w1.alloc (.cells #[.bool true, .int .i64 3, .int .i64 7] 54)).alloc (.cells #[.int .i64 9, .int .i64 5, .int .i64 8, .slice (some ⟨w1.heap.size, 0, none⟩) 1 1] 52) = w2 at *
 generalize w1.heap.size = a1 at *
 go_wp2_with fail
 refine ((C2 _).out).mono ?_
 rintro e w3 ⟨rfl, hb3⟩
 have HT2 := hid (lit_txn w3 0 0 1 0 1)
 have hx1 := (box_below w3 (.cells #[.bool true, .int .i64 0, .int .i64 1] 54))
 have hx2 := below_then hx1 (box_below (w3.alloc (.cells #[.bool true, .int .i64 0, .int .i64 1] 54)) (.cells #[.int .i64 0, .int .i64 0, .int .i64 1, .slice (some ⟨w3.heap.size, 0, none⟩) 1 1] 52))
 have hb34 := below_then hb3 hx2
 have HTA := hid (HT1.out.below hb34)
 have HB4 := hid (below_then hb2 hb34)
 clear hx1 hx2 hb3 hb2 C1 C2 hb34 HT1
 go_upto_region 3 with fail
 generalize (w3.alloc (.cells #[.bool true, .int .i64 0, .int .i64 1] 54)).alloc (.cells #[.int .i64 0, .int .i64 0, .int .i64 1, .slice (some ⟨w3.heap.size, 0, none⟩) 1 1] 52) = w4 at *
 generalize w3.heap.size = a3 at *
 generalize hu1 : (Value.slice (some ⟨a1, 0, none⟩) 1 1) = u1 at HTA
 generalize hu3 : (Value.slice (some ⟨a3, 0, none⟩) 1 1) = u3 at HT2
 clear hu1 hu3
 have HA := hid (fun wx (hx : Below w4.heap.size w4 wx) => (show Txns wx _ (spA u1) from HTA.out.below hx))
 have HW := hid (fun wx (hx : Below w4.heap.size w4 wx) => (show Txns wx _ (spW u3) from HT2.out.below hx))
 have CO := hid (canof_ok _ (spA u1) w4 (HA.out _ (Below.refl _ _)) (spA_ok _) (spA_short _) (spA_check _))
 have CI1 := hid (fun wx (hx : Below w4.heap.size w4 wx) => canis_ok _ (spA u1) (spA u1) wx (HA.out _ hx) (spA_ok _) (spA_short _) (spA_check _) (srt_one _))
 rw [show decide (canE ((spA u1).map txE) = (spA u1).map txE) = false from by rw [spA_can]; rfl] at CI1
 have CI2 := hid (fun wx (hx : Below w4.heap.size w4 wx) => canis_ok _ (spW u3) (spW u3) wx (HW.out _ hx) (spW_ok _) (spW_short _) (spW_check _) (srt_one _))
 rw [show decide (canE ((spW u3).map txE) = (spW u3).map txE) = true from by rw [spW_can]; rfl] at CI2
 have CS := hid (fun wx (hx : Below w4.heap.size w4 wx) => cansame_ok _ _ (spA u1) (spW u3) (spA u1) (spW u3) wx (HA.out _ hx) (spA_ok _) (spA_short _) (spA_check _) (srt_one _) (HW.out _ hx) (spW_ok _) (spW_short _) (spW_check _) (srt_one _))
 rw [show decide (canE ((spA u1).map txE) = canE ((spW u3).map txE)) = true from by rw [spA_can, spW_can]; rfl] at CS
 clear HTA HT2 HA
 go_wp2_with fail
 refine CO.out.mono ?_
 rintro e w5 ⟨⟨v, c, s, rfl, hC, hs, hce⟩, h5⟩
 have hss : s = spA u1 := (srt_eq hs (srt_one _))
 have C6 := hid (sameH_any v _ c (spW u3) w5 hC.txns (HW.out _ h5))
 rw [show sameH c (spW u3) = true from by unfold sameH; rw [hce, hss, spA_can]; rfl] at C6
 clear CO hC hs hce hss HW
 go_wp2_with fail
 refine C6.out.mono ?_
 rintro e w6 ⟨rfl, h6⟩
 have h6 := below_then h5 h6
 have D1 := hid (CI1.out _ h6)
 clear C6 CI1 h5
 go_wp2_with fail
 refine D1.out.mono ?_
 rintro e w7 ⟨rfl, h7⟩
 have h7 := below_then h6 h7
 have D2 := hid (CI2.out _ h7)
 clear D1 CI2 h6
 go_wp2_with fail
 refine D2.out.mono ?_
 rintro e w8 ⟨rfl, h8⟩
 have h8 := below_then h7 h8
 have D3 := hid (CS.out _ h8)
 clear D2 CS h7
 go_wp2_with fail
 refine D3.out.mono ?_
 rintro e w9 ⟨rfl, h9⟩
 have h9 := below_then h8 h9
 have hz := below_then HB4.out h9
 clear D3 h8 h9
 go_wp2_with fail
 go_ret
 exact ⟨rfl, hz⟩
end

section
open Go.RowKit
theorem can_ok {c : List TxnV} (hc : checkI c = 0) : ∀ t ∈ c, t.ok := fun t ht => by
 obtain ⟨m1, m2⟩ := may_at (check_rightB hc).1 ht
 refine ⟨⟨by unfold IntOk; omega, by unfold IntOk; omega, by unfold IntOk; omega⟩, fun o ho => ?_⟩
 have := (mayO_iff o).1 (m2 o ho)
 refine ⟨by unfold IntOk; omega, by unfold IntOk; omega⟩
theorem can_short {c : List TxnV} (hc : checkI c = 0) : Short c := fun t ht => by
 have := (may_at (check_rightB hc).1 ht).1
 omega
end

section
open Go.RowKit
theorem srt_some {h : List TxnV} (hc : checkI h = 0) : ∃ s, IsSrt h s := by
 have hn := begins_nodup (check_rightB hc).2.2.1
 refine ⟨h.mergeSort (fun t u => decide (t.b ≤ u.b)), List.mergeSort_perm _ _, ?_⟩
 have h1 := List.pairwise_mergeSort (le := fun t u : TxnV => decide (t.b ≤ u.b)) (fun a b c h1 h2 => by simp at h1 h2 ⊢; omega) (fun a b => by simp; omega) h
 have h2 : ((h.mergeSort (fun t u => decide (t.b ≤ u.b))).map (·.b)).Nodup := ((List.mergeSort_perm _ _).map _).nodup_iff.2 hn
 rw [List.nodup_iff_pairwise_ne, List.pairwise_map] at h2
 exact h1.imp₂ (fun a b q r => by simp at q; omega) h2
end

section
open Go.RowKit
theorem namL_mem {f τ κ ν : Int → Int} {L : List Int} {h : List TxnV} (hL : OrdO L h.length) {e : ETx} (he : e ∈ namL f τ κ ν L h) : ∃ t ∈ h, e = renE f τ κ ν (txE t) := by
 unfold namL at he
 obtain ⟨k, hk, rfl⟩ := List.mem_map.1 he
 have hk := List.mem_range.1 hk
 have hi := (ordO_at hL hk).1
 refine ⟨_, List.getElem_mem hi, ?_⟩
 rw [List.getD_eq_getElem?_getD, List.getElem?_map, List.getElem?_eq_getElem hi]
 rfl
theorem named_ok {f τ κ ν : Int → Int} {L : List Int} {h c : List TxnV} (hL : OrdO L h.length) (e : c.map txE = namL f τ κ ν L h) (hf : ∀ x, IntOk x → IntOk (f x)) (hτ : ∀ x, IntOk x → IntOk (τ x)) (hκ : ∀ x, IntOk x → IntOk (κ x)) (hν : ∀ x, IntOk x → IntOk (ν x)) (hok : ∀ t ∈ h, t.ok) (hsh : Short h) : (∀ t ∈ c, t.ok) ∧ Short c := by
 have key : ∀ t ∈ c, ∃ u ∈ h, txE t = renE f τ κ ν (txE u) := fun t ht => namL_mem hL (e ▸ List.mem_map_of_mem ht)
 refine ⟨fun t ht => ?_, fun t ht => ?_⟩
 ·obtain ⟨u, hu, q⟩ := key t ht
  obtain ⟨s, b, d, v, l⟩ := t
  simp only [txE, renE, Prod.mk.injEq] at q
  obtain ⟨rfl, rfl, rfl, rfl⟩ := q
  obtain ⟨⟨o1, o2, o3⟩, o4⟩ := hok u hu
  refine ⟨⟨hf _ o1, hτ _ o2, hτ _ o3⟩, fun o ho => ?_⟩
  obtain ⟨o', ho', rfl⟩ := List.mem_map.1 ho
  exact ⟨hκ _ (o4 o' ho').1, hν _ (o4 o' ho').2⟩
 ·obtain ⟨u, hu, q⟩ := key t ht
  have q := congrArg (fun e => e.2.2.2.length) q
  simp only [txE, renE, List.length_map] at q
  have := hsh u hu
  omega
theorem whole_ord {L : List Int} {n : Nat} (h : wholeP L n) : OrdO L n := by
 rcases h with rfl | ⟨h1, h2⟩
 ·exact .inl rfl
 ·refine .inr ⟨h1, fun k hk => ?_⟩
  have hm : L[k] ∈ srtI L := (List.mergeSort_perm L fun x y => decide (x ≤ y)).mem_iff.2 (List.getElem_mem hk)
  obtain ⟨i, hi, e⟩ := List.getElem_of_mem hm
  have hl : (srtI L).length = L.length := (List.mergeSort_perm L fun x y => decide (x ≤ y)).length_eq
  exact ⟨i, by rw [← e, h2 i hi], by omega⟩
def appP (FK FS FV FT : Int → Option Int) (L : List Int) (h : List TxnV) : Prop :=
 checkI h = 0 ∧ wholeP L h.length ∧ keepP FK FS (delF FV 0) FT (keyE (h.map txE)) (sesE (h.map txE)) (valA (h.map txE)) (stL h) ∧ checkI ((namL (nmF FS) (nmF FT) (nmF FK) (nmF (delF FV 0)) L h).map tx0) = 0
instance (FK FS FV FT : Int → Option Int) (L : List Int) (h : List TxnV) : Decidable (appP FK FS FV FT L h) := by unfold appP; infer_instance
end

section
open Go.RowKit
def d0T : TxnV := ⟨0, 0, 0, .slice none 0 0, []⟩
theorem ix_perm {L : List Int} {n : Nat} (h : wholeP L n) : ((List.range n).map (ixO L)).Perm (List.range n) := by
 rcases h with rfl | ⟨h1, h2⟩
 ·have e : (List.range n).map (ixO []) = List.range n := by
   conv => rhs; rw [← List.map_id (List.range n)]
   exact List.map_congr_left fun k _ => by simp [ixO]
  rw [e]
 ·by_cases hn : L = []
  ·subst hn
   have e : (List.range n).map (ixO []) = List.range n := by
    conv => rhs; rw [← List.map_id (List.range n)]
    exact List.map_congr_left fun k _ => by simp [ixO]
   rw [e]
  ·have hp : (srtI L).Perm L := List.mergeSort_perm L fun x y => decide (x ≤ y)
   have hl : (srtI L).length = n := hp.length_eq.trans h1
   have e1 : (List.range n).map (ixO L) = L.map Int.toNat := by
    refine List.ext_getElem (by simp [h1]) fun k q1 q2 => ?_
    have hk : k < L.length := by simpa using q2
    rw [List.getElem_map, List.getElem_range, List.getElem_map]
    unfold ixO
    rw [if_neg hn, List.getD_eq_getElem?_getD, List.getElem?_eq_getElem hk]
    rfl
   have e2 : (srtI L).map Int.toNat = List.range n := by
    refine List.ext_getElem (by simp [hl]) fun k q1 q2 => ?_
    rw [List.getElem_map, List.getElem_range, h2 k (by simpa using q1), Int.toNat_natCast]
   rw [e1, ← e2]
   exact (hp.map _).symm
def turnL (L : List Int) (h : List TxnV) : List TxnV := (List.range h.length).map fun k => h.getD (ixO L k) d0T
theorem turnL_perm {L : List Int} {h : List TxnV} (hw : wholeP L h.length) : (turnL L h).Perm h := by
 have e1 : turnL L h = ((List.range h.length).map (ixO L)).map fun i => h.getD i d0T := by unfold turnL; rw [List.map_map]; rfl
 have e2 : (List.range h.length).map (fun i => h.getD i d0T) = h := by
  refine List.ext_getElem (by simp) fun k q1 q2 => ?_
  rw [List.getElem_map, List.getElem_range, List.getD_eq_getElem?_getD, List.getElem?_eq_getElem q2]
  rfl
 rw [e1]
 conv => rhs; rw [← e2]
 exact (ix_perm hw).map _
theorem namL_turn (f τ κ ν : Int → Int) (L : List Int) (h : List TxnV) : namL f τ κ ν L h = ((turnL L h).map txE).map (renE f τ κ ν) := by
 unfold namL turnL
 rw [List.map_map, List.map_map]
 refine List.map_congr_left fun k _ => ?_
 show _ = renE f τ κ ν (txE (h.getD (ixO L k) d0T))
 congr 1
 rw [List.getD_eq_getElem?_getD, List.getD_eq_getElem?_getD, List.getElem?_map]
 cases h[ixO L k]? <;> rfl
theorem risS_far {F : Int → Option Int} {S : List Int} (h : risS F S) : ∀ (d i : Nat) (hd : i + d + 1 < S.length), nmF F (S[i]'(by omega)) < nmF F S[i + d + 1]
 | 0, i, hd => h i hd
 | d + 1, i, hd => by
  have h1 := risS_far h d i (by omega)
  have h2 := h (i + d + 1) (by omega)
  exact Int.lt_trans h1 h2
theorem risP_lt {F : Int → Option Int} {S : List Int} (h : risP F S) : ∀ a ∈ S, ∀ b ∈ S, a < b → nmF F a < nmF F b := by
 intro a ha b hb hab
 have hp : (srtI S).Perm S := List.mergeSort_perm S fun x y => decide (x ≤ y)
 obtain ⟨i, hi, rfl⟩ := List.getElem_of_mem (hp.mem_iff.2 ha)
 obtain ⟨j, hj, rfl⟩ := List.getElem_of_mem (hp.mem_iff.2 hb)
 have hs : (srtI S).Pairwise fun x y => decide (x ≤ y) = true := List.pairwise_mergeSort (le := fun x y : Int => decide (x ≤ y)) (fun a b c h1 h2 => by simp at h1 h2 ⊢; omega) (fun a b => by simp; omega) S
 have hij : i < j := by
  rcases Nat.lt_trichotomy i j with q | q | q
  ·exact q
  ·subst q; omega
  ·have q2 := (List.pairwise_iff_getElem.1 hs) j i hj hi q
   simp at q2
   omega
 have q := risS_far h (j - i - 1) i (by omega)
 have e : i + (j - i - 1) + 1 = j := by omega
 simp only [e] at q
 exact q
theorem nmF_del0 (F : Int → Option Int) : nmF (delF F 0) 0 = 0 := by unfold nmF delF; rw [if_pos rfl]; rfl
theorem srtE_eq : ∀ {s u : List ETx}, s.Pairwise (fun x y => x.2.1 < y.2.1) → u.Pairwise (fun x y => x.2.1 < y.2.1) → s.Perm u → s = u
 | [], _, _, _, hp => hp.nil_eq
 | a :: s, [], _, _, hp => by have := hp.length_eq; simp at this
 | a :: s, b :: u, hs, hu, hp => by
  rw [List.pairwise_cons] at hs hu
  have e : a = b := by
   rcases List.mem_cons.1 (hp.mem_iff.1 List.mem_cons_self) with q | q
   ·exact q
   ·rcases List.mem_cons.1 (hp.mem_iff.2 List.mem_cons_self) with r | r
    ·exact r.symm
    ·have h1 := hu.1 a q
     have h2 := hs.1 b r
     omega
  subst e
  rw [srtE_eq hs.2 hu.2 (List.Perm.cons_inv hp)]
section
variable {FK FS FV FT : Int → Option Int} {L : List Int} {h c : List TxnV}
theorem app_zero (ha : appP FK FS FV FT L h) {v : Int} (hv : ∃ t ∈ h, ∃ o ∈ t.l, o.val = v) (e : nmF (delF FV 0) v = 0) : v = 0 := by
 by_cases h0 : v = 0
 ·exact h0
 ·exfalso
  obtain ⟨t, ht, o, ho, hw, rfl⟩ := val_written ha.1 hv h0
  have hm : renE (nmF FS) (nmF FT) (nmF FK) (nmF (delF FV 0)) (txE t) ∈ namL (nmF FS) (nmF FT) (nmF FK) (nmF (delF FV 0)) L h := by
   rw [namL_turn]
   exact List.mem_map_of_mem (List.mem_map_of_mem ((turnL_perm ha.2.1).mem_iff.2 ht))
  have hq := (may_at (check_rightB ha.2.2.2).1 (List.mem_map_of_mem (f := tx0) hm)).2 (renO (nmF FK) (nmF (delF FV 0)) o) (List.mem_map_of_mem ho)
  exact ((mayO_iff _).1 hq).2.2 hw e
theorem app_key (ha : appP FK FS FV FT L h) (a b : Int) (hka : KeyIn h a) (hkb : KeyIn h b) (e : nmF FK a = nmF FK b) : a = b := ha.2.2.1.1 a (keyE_iff.2 hka) b (keyE_iff.2 hkb) e
theorem app_val (ha : appP FK FS FV FT L h) (a b : Int) (hka : ValIn h a) (hkb : ValIn h b) (e : nmF (delF FV 0) a = nmF (delF FV 0) b) : a = b := by
 rcases hka with rfl | hka
 ·rcases hkb with rfl | hkb
  ·rfl
  ·rw [nmF_del0] at e
   exact (app_zero ha hkb e.symm).symm
 ·rcases hkb with rfl | hkb
  ·rw [nmF_del0] at e
   exact app_zero ha hka e
  ·exact ha.2.2.1.2.2.1 a (valA_iff.2 hka) b (valA_iff.2 hkb) e
theorem app_st (ha : appP FK FS FV FT L h) : ∀ a ∈ stL h, ∀ b ∈ stL h, a < b → nmF FT a < nmF FT b := risP_lt ha.2.2.1.2.2.2
theorem app_check (ha : appP FK FS FV FT L h) (e : c.map txE = namL (nmF FS) (nmF FT) (nmF FK) (nmF (delF FV 0)) L h) : checkI c = 0 := by
 rw [checkI_txE (h := (namL (nmF FS) (nmF FT) (nmF FK) (nmF (delF FV 0)) L h).map tx0) (by rw [tx0_txE, e])]
 exact ha.2.2.2
theorem app_can (ha : appP FK FS FV FT L h) (e : c.map txE = namL (nmF FS) (nmF FT) (nmF FK) (nmF (delF FV 0)) L h) {s u : List TxnV} (hs : IsSrt h s) (hu : IsSrt c u) : canE (u.map txE) = canE (s.map txE) := by
 have he : c.map txE = ((turnL L h).map txE).map (renE (nmF FS) (nmF FT) (nmF FK) (nmF (delF FV 0))) := e.trans (namL_turn _ _ _ _ _ _)
 have hp : (u.map txE).Perm ((s.map txE).map (renE (nmF FS) (nmF FT) (nmF FK) (nmF (delF FV 0)))) := by
  refine (hu.1.map txE).trans ?_
  rw [he]
  exact (((turnL_perm ha.2.1).trans hs.1.symm).map txE).map _
 have h1 : (u.map txE).Pairwise fun x y => x.2.1 < y.2.1 := by rw [List.pairwise_map]; exact hu.2
 have h2 : ((s.map txE).map (renE (nmF FS) (nmF FT) (nmF FK) (nmF (delF FV 0)))).Pairwise fun x y => x.2.1 < y.2.1 := by
  rw [List.pairwise_map, List.pairwise_map]
  refine List.Pairwise.imp_of_mem ?_ hs.2
  intro x y hx hy hxy
  have m : ∀ t ∈ s, t.b ∈ stL h := fun t ht => List.mem_flatMap.2 ⟨t, hs.1.mem_iff.1 ht, List.mem_cons_self⟩
  exact app_st ha _ (m x hx) _ (m y hy) hxy
 have e2 : u.map txE = (s.map txE).map (renE (nmF FS) (nmF FT) (nmF FK) (nmF (delF FV 0))) := srtE_eq h1 h2 hp
 rw [e2]
 refine can_ren ?_ ?_ ?_ (nmF_del0 FV) ?_ ?_
 ·intro a hka b hkb q
  have m : ∀ a, a ∈ sesE (s.map txE) → a ∈ sesE (h.map txE) := fun a ha => by unfold sesE at ha ⊢; exact ((hs.1.map txE).map _).mem_iff.1 ha
  exact ha.2.2.1.2.1 a (m a hka) b (m b hkb) q
 ·intro a hka b hkb q
  have m : ∀ a, a ∈ stE (s.map txE) → a ∈ stL h := fun a ha => by
   rw [stE_txE] at ha
   obtain ⟨t, ht, hm⟩ := List.mem_flatMap.1 ha
   exact List.mem_flatMap.2 ⟨t, hs.1.mem_iff.1 ht, hm⟩
  exact app_st ha a (m a hka) b (m b hkb) q
 ·intro a hka b hkb q
  exact app_key ha a b ((keyE_iff.1 hka).perm hs.1.symm) ((keyE_iff.1 hkb).perm hs.1.symm) q
 ·intro a hka q
  have m := valA_iff.1 hka
  obtain ⟨t, ht, r⟩ := m
  exact app_zero ha ⟨t, hs.1.mem_iff.1 ht, r⟩ q
 ·intro a hka b hkb q
  have m : ∀ a, a ∈ valA (s.map txE) → ValIn h a := fun a ha => by
   obtain ⟨t, ht, r⟩ := valA_iff.1 ha
   exact .inr ⟨t, hs.1.mem_iff.1 ht, r⟩
  exact app_val ha a b (m a hka) (m b hkb) q
end
end

section
open Go.RowKit
theorem ok_ofI {x : Int} (h : InI x) : IntOk x := by
 have q : (Lit.int .i64 x).wf = true := h
 simp [Lit.wf, IntKind.min, IntKind.max, IntKind.signed, IntKind.bits] at q
 unfold IntOk
 omega
theorem keyE_len (h : List TxnV) : (keyE (h.map txE)).length = opsN h := by
 induction h with
 | nil => rfl
 | cons t r ih => unfold keyE opsN at *; simp only [List.map_cons, List.flatMap_cons, List.length_append, List.length_map, List.sum_cons, txE] at *; omega
def OkN (F : Int → Option Int) : Prop := ∀ x, IntOk x → IntOk (nmF F x)
theorem OkN.inF {F : Int → Option Int} (h : OkN F) : InF F := fun x hx => inI_of (h x (ok_ofI hx))
theorem OkN.del {F : Int → Option Int} (h : OkN F) (k : Int) : OkN (delF F k) := fun x hx => by
 by_cases e : x = k
 ·have q : nmF (delF F k) x = x := by unfold nmF delF; rw [if_pos e]; rfl
  rw [q]; exact hx
 ·have q : nmF (delF F k) x = nmF F x := by unfold nmF delF; rw [if_neg e]
  rw [q]; exact h x hx
set_option linter.unusedSimpArgs false in
theorem rapply_any (hv vK vS vV vT vO : Value) (FK FS FV FT : Int → Option Int) (L : List Int) (h : List TxnV) (w : World) (hN : NmA w vK vS vV vT FK FS FV FT) (hO : Ints w vO L) (hLn : L.length ≤ 100000) (hT : Txns w hv h) (hok : ∀ t ∈ h, t.ok) (hsh : Short h)
  (fk : OkN FK) (fs : OkN FS) (fv : OkN FV) (ft : OkN FT) :
  Calls Tryz.prog 10 #[hv, .agg #[vK, vS, vV, vT, vO]] w fun e w' => ((appP FK FS FV FT L h ∧ ∃ v, e = .returned (.tuple #[v, .bool true]) ∧ ∃ c, OwnH w' w.heap.size v c ∧ c.map txE = namL (nmF FS) (nmF FT) (nmF FK) (nmF (delF FV 0)) L h) ∨ (¬ appP FK FS FV FT L h ∧ e = .returned (.tuple #[.slice none 0 0, .bool false]))) ∧ Below w.heap.size w w' := by
 have HT := hid (fun wx (hx : Below w.heap.size w wx) => hT.below hx)
 have HN := hid (fun wx (hx : Below w.heap.size w wx) => hN.below hx)
 have CC := hid (fun wx (hx : Below w.heap.size w wx) => hcheck_any hv h wx (hT.below hx) hok hsh)
 have CW := hid (fun wx (hx : Below w.heap.size w wx) => rwhole_any vO L h.length wx (hO.below hx) hLn)
 have CM := hid (fun wx (hx : Below w.heap.size w wx) => mclone_any vV FV wx (hN.v.below hx))
 have COF := hid (fun (hc : checkI h = 0) wx (hx : Below w.heap.size w wx) => rof21_any hv h wx (hT.below hx) (checkI_right hc).1 (checkI_right hc).2.1)
 have HK : Hid (∀ u', checkI h = 0 → ∀ pk ps pv pt wx wy, Below w.heap.size w wx → NmI wx u' (delF FV 0) → Below wx.heap.size wx wy → ∀ b, R4 wy b pk ps pv pt (keyE (h.map txE)) (sesE (h.map txE)) (valA (h.map txE)) (stL h) → Calls Tryz.prog 32 #[.agg #[vK, vS, u', vT, vO], .agg #[pk, ps, pv, pt]] wy fun e w' => e = .returned (.bool (decide (keepP FK FS (delF FV 0) FT (keyE (h.map txE)) (sesE (h.map txE)) (valA (h.map txE)) (stL h)))) ∧ Below wy.heap.size wy w') := hid (by
  intro u' hc pk ps pv pt wx wy hx hu hxy b hR
  have hy := below_then hx hxy
  obtain ⟨h64, hop, _⟩ := checkI_right hc
  have q := hN.below hy
  have hl1 := keyE_len h
  have hl2 := valA_len h
  have hl3 : (sesE (h.map txE)).length = h.length := by unfold sesE; simp
  have hl4 := stL_len h
  have hi : ∀ t ∈ h, t.ok := hok
  refine rnkeeps_any vK vS u' vT vO pk ps pv pt FK FS (delF FV 0) FT _ _ _ _ wy ⟨q.k, q.s, hu.below hxy, q.t⟩ (by obtain ⟨a, c, e, _⟩ := hO.form; exact ⟨a, _, c, e⟩) hR.o0.ints hR.o1.ints hR.o2.ints hR.o3.ints ?_ ?_ ?_ ?_ fk.inF fs.inF (fv.del 0).inF (by omega) (by omega) (by omega) (by omega)
  ·intro x hx
   unfold keyE at hx
   obtain ⟨e, he, hx⟩ := List.mem_flatMap.1 hx
   obtain ⟨t, ht, rfl⟩ := List.mem_map.1 he
   obtain ⟨o, ho, rfl⟩ := List.mem_map.1 hx
   exact inI_of ((hok t ht).2 o ho).1
  ·intro x hx
   unfold sesE at hx
   obtain ⟨e, he, rfl⟩ := List.mem_map.1 hx
   obtain ⟨t, ht, rfl⟩ := List.mem_map.1 he
   exact inI_of (hok t ht).1.1
  ·intro x hx
   unfold valA at hx
   obtain ⟨e, he, hx⟩ := List.mem_flatMap.1 hx
   obtain ⟨t, ht, rfl⟩ := List.mem_map.1 he
   obtain ⟨o, ho, rfl⟩ := List.mem_map.1 hx
   exact inI_of ((hok t ht).2 o ho).2
  ·intro x hx
   unfold stL at hx
   obtain ⟨t, ht, hx⟩ := List.mem_flatMap.1 hx
   rcases List.mem_cons.1 hx with rfl | hx
   ·exact inI_of (hok t ht).1.2.1
   ·rw [List.mem_singleton] at hx
    subst hx
    exact inI_of (hok t ht).1.2.2)
 have HNM : Hid (∀ u', checkI h = 0 → wholeP L h.length → ∀ wx wy, Below w.heap.size w wx → NmI wx u' (delF FV 0) → Below wx.heap.size wx wy → Calls Tryz.prog 34 #[hv, .agg #[vK, vS, u', vT, vO]] wy fun e w' => ∃ v c, e = .returned v ∧ OwnH w' wy.heap.size v c ∧ c.map txE = namL (nmF FS) (nmF FT) (nmF FK) (nmF (delF FV 0)) L h ∧ Below wy.heap.size wy w') := hid (by
  intro u' hc hw wx wy hx hu hxy
  have hy := below_then hx hxy
  obtain ⟨h64, hop, _⟩ := checkI_right hc
  have q := hN.below hy
  exact rnamed_any hv vK vS u' vT vO FK FS (delF FV 0) FT L h wy ⟨q.k, q.s, hu.below hxy, q.t⟩ (hO.below hy) (hT.below hy) (whole_ord hw) (by omega) (fun t ht => by
   obtain ⟨⟨o1, o2, o3⟩, o4⟩ := hok t ht
   refine ⟨inI_of o1, inI_of o2, inI_of o3, ?_, fun o ho => ⟨inI_of (o4 o ho).1, inI_of (o4 o ho).2⟩⟩
   obtain ⟨i, hi, rfl⟩ := List.getElem_of_mem ht
   have h1 := opsN_take h i hi
   have h2 := opsN_le h (i + 1)
   omega))
 have HNO : Hid (wholeP L h.length → ∀ c : List TxnV, c.map txE = namL (nmF FS) (nmF FT) (nmF FK) (nmF (delF FV 0)) L h → (∀ t ∈ c, t.ok) ∧ Short c) := hid (fun hw c hce => named_ok (whole_ord hw) hce fs ft fk (fv.del 0) hok hsh)
 obtain ⟨mK, rfl⟩ := hN.k.form
 obtain ⟨mS, rfl⟩ := hN.s.form
 obtain ⟨mV, rfl⟩ := hN.v.form
 obtain ⟨mT, rfl⟩ := hN.t.form
 obtain ⟨qa, qc, rfl, _⟩ := hO.form
 obtain ⟨ao, cap, rfl, _⟩ := hT.form
 have hbx := BoxN.new w 33 #[.map mK, .map mS, .map mV, .map mT, .slice qa L.length qc]
 have hb1 := box_below w (.cells #[.map mK, .map mS, .map mV, .map mT, .slice qa L.length qc] 33)
 have hsw : w.heap.size < (w.alloc (.cells #[.map mK, .map mS, .map mV, .map mT, .slice qa L.length qc] 33)).heap.size := by simp
 clear hN hO hT hok hsh fk fs fv ft hLn
 go_enter Tryz.func10, Tryz.ntmps10
 go_upto_region 1 with fail
 generalize w.alloc (.cells #[.map mK, .map mS, .map mV, .map mT, .slice qa L.length qc] 33) = w1 at *
 have HX1 := hid hbx
 have CC1 := hid (CC.out _ hb1)
 clear hbx CC
 by_cases hc : checkI h = 0
 ·rw [hc] at CC1
  have HCC := hid hc
  have COF1 := hid (COF.out hc)
  have HK' := hid (fun u' => HK.out u' hc)
  have HNM' := hid (fun u' => HNM.out u' hc)
  clear hc COF HK HNM
  go_wp2_with fail
  refine CC1.out.mono ?_
  rintro e w2 ⟨rfl, h2⟩
  have hb2 := below_then hb1 h2
  have HX2 := hid (HX1.out.below h2)
  have y4 := HX2.out.cell (i := 4) rfl
  have CW1 := hid (CW.out _ hb2)
  obtain ⟨q, hq⟩ : ∃ q, decide (wholeP L h.length) = q := ⟨_, rfl⟩
  rw [hq] at CW1
  have HQ := hid hq
  have h12 : w1.heap.size ≤ w2.heap.size := h2.size
  clear hq CC1 HX1 CW h2
  go_wp2_with fail
  refine CW1.out.mono ?_
  rintro e w3 ⟨rfl, h3⟩
  have hb3 := below_then hb2 h3
  cases q with
  | false =>
   have HF := hid (of_decide_eq_false HQ.out)
   clear HQ
   go_wp2_with fail
   go_ret2
   exact ⟨.inr ⟨fun a => HF.out a.2.1, rfl⟩, hb3⟩
  | true =>
   have HWP := hid (of_decide_eq_true HQ.out)
   have HNM2 := hid (fun u' => HNM'.out u' HWP.out)
   have HNO := hid (HNO.out HWP.out)
   have HX3 := hid (HX2.out.below h3)
   have h13 : w.heap.size < w3.heap.size := by have := h3.size; omega
   have y2 := HX3.out.cell (i := 2) rfl
   have CM1 := hid (CM.out _ hb3)
   clear HQ CW1 HX2 y4 CM h3 HNM'
   go_wp2_with fail
   refine CM1.out.mono ?_
   rintro e w4 ⟨hcl, h4⟩
   obtain ⟨o, rfl, HQ⟩ : ∃ o, e = .returned (.map o) ∧ Hid ((o = none ∧ FV = fun _ => none) ∨ ∃ n c, o = some w3.heap.size ∧ MapI eI Tryz.prog 3 w4 w3.heap.size n FV c) := by
    rcases hcl with ⟨rfl, q⟩ | ⟨n, c, rfl, q⟩
    ·exact ⟨_, rfl, hid (.inl ⟨rfl, q⟩)⟩
    ·exact ⟨_, rfl, hid (.inr ⟨n, c, rfl, q⟩)⟩
   have hb4 := below_then hb3 h4
   have HX4 := hid (HX3.out.below h4)
   have z2 := HX4.out.cell (i := 2) rfl
   have zf2 := HX4.out.free 2
   clear hcl CM1 HX3 y2 h4
   go_upto_region 4 with fail
   have HX5 : Hid (BoxN (w4.setCell ⟨w.heap.size, 2, none⟩ (.map o)) w.heap.size 33 #[.map mK, .map mS, .map o, .map mT, .slice qa L.length qc]) := hid (HX4.out.set 2 (.map o))
   have hb5 := hb4.setCell (p := ⟨w.heap.size, 2, none⟩) (Nat.le_refl _) (.map o)
   have HQ5 : Hid ((o = none ∧ FV = fun _ => none) ∨ ∃ n c, o = some w3.heap.size ∧ MapI eI Tryz.prog 3 (w4.setCell ⟨w.heap.size, 2, none⟩ (.map o)) w3.heap.size n FV c) := hid (HQ.out.imp id (fun ⟨n, c, q1, q2⟩ => ⟨n, c, q1, q2.kept (grown_set w4 ⟨w.heap.size, 2, none⟩ (.map o)) (fun e => by injection e with e; exact absurd e (by show w3.heap.size ≠ w.heap.size; omega))⟩))
   clear HQ HX4 z2 zf2 hb4
   generalize w4.setCell ⟨w.heap.size, 2, none⟩ (.map o) = w5 at *
   have z2 := HX5.out.cell (i := 2) rfl
   go_cut [23] from 22 to 23 (fun u wx => ∃ m2 : Option Nat, Hid (NmI wx (.map m2) (delF FV 0)) ∧ Hid (BoxN wx w.heap.size 33 #[.map mK, .map mS, .map m2, .map mT, .slice qa L.length qc]) ∧ Hid (Below w.heap.size w wx))
   case first =>
    rcases HQ5.out with ⟨rfl, q⟩ | ⟨n, c, rfl, q⟩
    ·have HD : Hid (delF FV 0 = fun _ => none) := hid (by rw [q]; funext y; unfold delF; split <;> rfl)
     clear q
     go_wp2_with (first | (at_delete; refine wpList_delN _ rfl _ _ 31 3 rfl 3 keyI mapII rfl 0 rfl rfl ?_) | go_in)
     go_meet
     case rel => exact ⟨none, hid (.inl ⟨rfl, HD.out⟩), HX5, hid hb5⟩
    ·go_wp2_with (first | (at_delete; refine wpList_delI _ rfl _ _ 31 3 rfl 3 keyI mapII _ _ _ _ rfl q 0 rfl rfl ?_; intro w6 c6 hM6 hg6) | go_in)
     go_meet
     case rel => exact ⟨_, hid (.inr ⟨_, _, _, rfl, hM6⟩), hid (HX5.out.kept hg6 (fun e => by injection e with e; omega)), hid (hb5.grown hg6 hb5.size (fun k hk => by injection hk with e; omega))⟩
   case rest =>
    obtain ⟨m2, HV2, HX5, HB5⟩ := hcut
    obtain ⟨q2, hq2⟩ : ∃ q, decide (keepP FK FS (delF FV 0) FT (keyE (h.map txE)) (sesE (h.map txE)) (valA (h.map txE)) (stL h)) = q := ⟨_, rfl⟩
    have CK := hid (fun pk ps pv pt wy (hx : Below w.heap.size w wy) (hxy : Below wc.heap.size wc wy) b hR => HK'.out (.map m2) pk ps pv pt wc wy HB5.out HV2.out hxy b hR)
    rw [hq2] at CK
    have HK1 := hid (fun (e : q2 = true) => of_decide_eq_true (hq2.trans e))
    have HK0 := hid (fun (e : q2 = false) => of_decide_eq_false (hq2.trans e))
    have CN := hid (fun wy (hx : Below w.heap.size w wy) (hxy : Below wc.heap.size wc wy) => HNM2.out (.map m2) wc wy HB5.out HV2.out hxy)
    clear hq2 HK' HNM2 HV2
    go_upto_region 5 with fail
    have kd := (Below.refl wc.heap.size wc).drew
    have hb5d := HB5.out.drew
    have HX5d := hid (HX5.out.below kd)
    clear HX5 HB5
    refine wp_region_held_drew (S := fun wx => BoxN wx w.heap.size 33 #[.map mK, .map mS, .map m2, .map mT, .slice qa L.length qc]) (by kernel_rfl) HX5d.out (fun hS0 => ?_)
    generalize wc.drew = w6 at *
    refine tG (some 24) 0 ?vha0x1 rfl rfl (Or.inl ⟨by rfl, ?hha0x1⟩) hS0 ?rha0x1
    case hha0x1 => (intro w hw; have y0 := hw.cell (i := 0) rfl; have y1 := hw.cell (i := 1) rfl; have y2 := hw.cell (i := 2) rfl; have y3 := hw.cell (i := 3) rfl; have y4 := hw.cell (i := 4) rfl; go_simp; try (with_reducible rfl))
    try simp only [Act.put, zA, zB, zC]
    refine tG (some 25) 1 ?vha1x2 rfl rfl (Or.inl ⟨by rfl, ?hha1x2⟩) hS0 ?rha1x2
    case hha1x2 => (intro w hw; have y0 := hw.cell (i := 0) rfl; have y1 := hw.cell (i := 1) rfl; have y2 := hw.cell (i := 2) rfl; have y3 := hw.cell (i := 3) rfl; have y4 := hw.cell (i := 4) rfl; go_simp; try (with_reducible rfl))
    try simp only [Act.put, zA, zB, zC]
    refine rD 2 rfl (fun K hK => ?_)
    go_simp
    refine (COF1.out _ hb5d).mono ?_
    rintro e w7 ⟨⟨vk, vs, vv, vt, rfl, hR⟩, h7⟩
    have hb7 := below_then hb5d h7
    have s7 := BoxN.below hS0 h7
    have CKP := hid (CK.out vk vs vv vt w7 hb7 (below_then kd h7) _ hR)
    clear hR
    show K _ _
    refine hK.out _ _ s7 (fun _ => ?_)
    clear hK K
    refine rD 3 rfl (fun K hK => ?_)
    go_simp
    refine CKP.out.mono ?_
    rintro e w8 ⟨rfl, h8⟩
    have hb8 := below_then hb7 h8
    have hb5w := below_then (below_then kd h7) h8
    have s8 := BoxN.below s7 h8
    show K _ _
    refine hK.out _ _ s8 (fun _ => ?_)
    clear hK K
    refine tG (some 28) 4 ?vha4x5 rfl rfl (Or.inl ⟨by rfl, ?hha4x5⟩) s8 ?rha4x5
    case hha4x5 => (intro w hw; have y0 := hw.cell (i := 0) rfl; have y1 := hw.cell (i := 1) rfl; have y2 := hw.cell (i := 2) rfl; have y3 := hw.cell (i := 3) rfl; have y4 := hw.cell (i := 4) rfl; go_simp; try (with_reducible rfl))
    try simp only [Act.put, zA, zB, zC]
    refine wpAnyH_done (by kernel_rfl) ?_ _
    try simp only [Act.put]
    cases q2 with
    | false =>
     have HKF := hid (HK0.out rfl)
     clear HK0 HK1
     go_wp2_with fail
     go_ret2
     exact ⟨.inr ⟨fun a => HKF.out a.2.2.1, rfl⟩, hb8⟩
    | true =>
     have HKY := hid (HK1.out rfl)
     have HX8 := hid s8
     have CN1 := hid (CN.out w8 hb8 hb5w)
     have y0 := HX8.out.cell (i := 0) rfl; have y1 := HX8.out.cell (i := 1) rfl; have y2 := HX8.out.cell (i := 2) rfl; have y3 := HX8.out.cell (i := 3) rfl; have y4 := HX8.out.cell (i := 4) rfl
     clear s7 s8 CKP h7 h8 hb7 hb5d COF1 CK HK0 HK1 CN
     go_wp2_with fail
     refine CN1.out.mono ?_
     rintro e w9 ⟨v, c, rfl, hM, hce, h9⟩
     have hb9 := below_then hb8 h9
     have HOK := hid (HNO.out c hce)
     have CX := hid (hcheck_any v c w9 hM.txns HOK.out.1 HOK.out.2)
     have HXE : Hid (checkI c = checkI ((namL (nmF FS) (nmF FT) (nmF FK) (nmF (delF FV 0)) L h).map tx0)) := hid (checkI_txE (by rw [tx0_txE, hce]))
     rw [HXE.out] at CX
     obtain ⟨av, cv, rfl⟩ : ∃ a cp, v = .slice a c.length cp := by
      obtain ⟨a, cp, e, _⟩ := hM.txns.form
      exact ⟨a, cp, e⟩
     have HM := hid (fun wx (hx : Below w9.heap.size w9 wx) => hM.below hx)
     have HS8 := hid hb8.size
     have HCE := hid hce
     clear hM hce HOK HXE CN1 h9 HX8 y0 y1 y2 y3 y4
     by_cases hz : checkI ((namL (nmF FS) (nmF FT) (nmF FK) (nmF (delF FV 0)) L h).map tx0) = 0
     ·rw [hz] at CX
      have HZ := hid hz
      clear hz
      go_wp2_with fail
      refine CX.out.mono ?_
      rintro e w10 ⟨rfl, h10⟩
      have hb10 := below_then hb9 h10
      have hM := HM.out _ h10
      go_wp2_with fail
      go_ret2
      exact ⟨.inl ⟨⟨HCC.out, HWP.out, HKY.out, HZ.out⟩, _, rfl, c, ⟨owns_weak hM.1 HS8.out, fun t ht => owns_weak (hM.2.1 t ht) HS8.out, hM.2.2⟩, HCE.out⟩, hb10⟩
     ·have HZ := hid hz
      obtain ⟨z, hzz⟩ : ∃ z, checkI ((namL (nmF FS) (nmF FT) (nmF FK) (nmF (delF FV 0)) L h).map tx0) = z := ⟨_, rfl⟩
      rw [hzz] at CX hz
      clear hzz
      have hz2 : (z == 0) = false := by rw [beq_eq_false_iff_ne]; exact hz
      go_wp2_with fail
      refine CX.out.mono ?_
      rintro e w10 ⟨rfl, h10⟩
      have hb10 := below_then hb9 h10
      go_wp2_with fail
      go_ret2
      exact ⟨.inr ⟨fun a => HZ.out a.2.2.2, rfl⟩, hb10⟩
 ·have HF := hid hc
  obtain ⟨z, hz⟩ : ∃ z, checkI h = z := ⟨_, rfl⟩
  rw [hz] at CC1 hc
  clear hz COF HK HNM
  have hz2 : (z == 0) = false := by rw [beq_eq_false_iff_ne]; exact hc
  go_wp2_with fail
  refine CC1.out.mono ?_
  rintro e w2 ⟨rfl, h2⟩
  have hb2 := below_then hb1 h2
  go_wp2_with fail
  go_ret2
  exact ⟨.inr ⟨fun a => HF.out a.1, rfl⟩, hb2⟩
end

section
open Go.RowKit
def nF : Int → Option Int := fun _ => none
theorem okN_none : OkN nF := fun _ hx => hx
end

section
open Go.RowKit
def bigN (lk ls lv lt : List (Int × Int)) (L : List Int) : Prop := 50 < lk.length ∨ 50 < ls.length ∨ 50 < lv.length ∨ 50 < lt.length ∨ 100 < L.length
instance (lk ls lv lt : List (Int × Int)) (L : List Int) : Decidable (bigN lk ls lv lt L) := by unfold bigN; infer_instance
theorem NmI.box {w w' : World} {v : Value} {F : Int → Option Int} {p : Nat} {t : TypeId} {cs : Array Value} (h : NmI w v F) (hp : BoxN w p t cs) (hg : w.grownBy w' (some p)) : NmI w' v F := by
 rcases h with ⟨rfl, rfl⟩ | ⟨b, n, c, rfl, hM⟩
 ·exact .inl ⟨rfl, rfl⟩
 ·refine .inr ⟨b, n, c, rfl, hM.kept hg (fun e => ?_)⟩
  injection e with e
  subst e
  obtain ⟨D, ⟨es, clock, hb, _⟩, _⟩ := hM
  unfold BoxN at hp
  rw [hp] at hb
  cases hb
set_option linter.unusedSimpArgs false in
theorem map21_any (vk vs vv vt vo : Value) (lk ls lv lt : List (Int × Int)) (L : List Int) (w : World) (hk : PrN w vk lk) (hs : PrN w vs ls) (hv : PrN w vv lv) (ht : PrN w vt lt) (ho : Ints w vo L)
  (ik : ∀ p ∈ lk, InI p.1) (is : ∀ p ∈ ls, InI p.1) (iv : ∀ p ∈ lv, InI p.1) (it : ∀ p ∈ lt, InI p.1) (nk : lk.length ≤ 100000) (ns : ls.length ≤ 100000) (nv : lv.length ≤ 100000) (nt : lt.length ≤ 100000) :
  Calls Tryz.prog 11 #[.agg #[vk, vs, vv, vt, vo]] w fun e w' => (∃ uK uS uV uT, e = .returned (.agg #[uK, uS, uV, uT, vo]) ∧ NmA w' uK uS uV uT (ofF lk) (ofF ls) (ofF lv) (ofF lt)) ∧ Below w.heap.size w w' := by
 have Ck := hid (fun wx (hx : Below w.heap.size w wx) => lof21_any vk lk wx (hk.below hx) ik nk)
 have Cs := hid (fun wx (hx : Below w.heap.size w wx) => lof21_any vs ls wx (hs.below hx) is ns)
 have Cv := hid (fun wx (hx : Below w.heap.size w wx) => lof21_any vv lv wx (hv.below hx) iv nv)
 have Ct := hid (fun wx (hx : Below w.heap.size w wx) => lof21_any vt lt wx (ht.below hx) it nt)
 obtain ⟨ak, ck, rfl, _⟩ := hk.form
 obtain ⟨az, cs, rfl, _⟩ := hs.form
 obtain ⟨av, cv, rfl, _⟩ := hv.form
 obtain ⟨at_, ct, rfl, _⟩ := ht.form
 obtain ⟨ao, co, rfl, _⟩ := ho.form
 have hx1 := BoxN.new w 26 #[.slice ak lk.length ck, .slice az ls.length cs, .slice av lv.length cv, .slice at_ lt.length ct, .slice ao L.length co]
 have hz1 := BoxN.new (w.alloc (.cells #[.slice ak lk.length ck, .slice az ls.length cs, .slice av lv.length cv, .slice at_ lt.length ct, .slice ao L.length co] 26)) 33 #[.map none, .map none, .map none, .map none, .slice none 0 0]
 rw [show (w.alloc (.cells #[.slice ak lk.length ck, .slice az ls.length cs, .slice av lv.length cv, .slice at_ lt.length ct, .slice ao L.length co] 26)).heap.size = w.heap.size + 1 from by simp] at hz1
 have hb1 := box_below w (.cells #[.slice ak lk.length ck, .slice az ls.length cs, .slice av lv.length cv, .slice at_ lt.length ct, .slice ao L.length co] 26)
 have hb2 := hb1.alloc hb1.size (.cells #[.map none, .map none, .map none, .map none, .slice none 0 0] 33)
 have hx2 := hx1.below (box_below _ (.cells #[.map none, .map none, .map none, .map none, .slice none 0 0] 33))
 clear hk hs hv ht ho ik is iv it nk ns nv nt hx1 hb1
 obtain ⟨p2, hp2⟩ : ∃ p, w.heap.size + 1 = p := ⟨_, rfl⟩
 have HP2 := hid hp2
 rw [hp2] at hz1
 have hq2 : w.heap.size ≤ p2 := by omega
 have hq3 : w.heap.size < p2 := by omega
 clear hp2
 go_enter Tryz.func11, Tryz.ntmps11
 go_upto_region 1 with fail
 generalize (w.alloc (.cells #[.slice ak lk.length ck, .slice az ls.length cs, .slice av lv.length cv, .slice at_ lt.length ct, .slice ao L.length co] 26)).alloc (.cells #[.map none, .map none, .map none, .map none, .slice none 0 0] 33) = w2 at *
 rw [HP2.out]
 have HX := hid hx2
 have HZ := hid hz1
 clear hx2 hz1
 have kd := (Below.refl w2.heap.size w2).drew
 have HX := hid (HX.out.below kd)
 have HZ := hid (HZ.out.below kd)
 have hbd := hb2.drew
 clear kd hb2
 refine wp_region_held_drew (S := fun wx => BoxN wx w.heap.size 26 #[.slice ak lk.length ck, .slice az ls.length cs, .slice av lv.length cv, .slice at_ lt.length ct, .slice ao L.length co]) (by kernel_rfl) HX.out (fun hS0 => ?_)
 generalize w2.drew = wd at *
 refine tG (some 3) 0 ?vha0x1 rfl rfl (Or.inl ⟨by rfl, ?hha0x1⟩) hS0 ?rha0x1
 case hha0x1 => (intro w hw; have y0 := hw.cell (i := 0) rfl; have y1 := hw.cell (i := 1) rfl; have y2 := hw.cell (i := 2) rfl; have y3 := hw.cell (i := 3) rfl; have y4 := hw.cell (i := 4) rfl; go_simp; try (with_reducible rfl))
 try simp only [Act.put, zA, zB, zC]
 refine tG (some 4) 1 ?vha1x2 rfl rfl (Or.inl ⟨by rfl, ?hha1x2⟩) hS0 ?rha1x2
 case hha1x2 => (intro w hw; have y0 := hw.cell (i := 0) rfl; have y1 := hw.cell (i := 1) rfl; have y2 := hw.cell (i := 2) rfl; have y3 := hw.cell (i := 3) rfl; have y4 := hw.cell (i := 4) rfl; go_simp; try (with_reducible rfl))
 try simp only [Act.put, zA, zB, zC]
 refine tG (some 6) 3 ?vha3x3 rfl rfl (Or.inl ⟨by rfl, ?hha3x3⟩) hS0 ?rha3x3
 case hha3x3 => (intro w hw; have y0 := hw.cell (i := 0) rfl; have y1 := hw.cell (i := 1) rfl; have y2 := hw.cell (i := 2) rfl; have y3 := hw.cell (i := 3) rfl; have y4 := hw.cell (i := 4) rfl; go_simp; try (with_reducible rfl))
 try simp only [Act.put, zA, zB, zC]
 refine tG (some 7) 4 ?vha4x4 rfl rfl (Or.inl ⟨by rfl, ?hha4x4⟩) hS0 ?rha4x4
 case hha4x4 => (intro w hw; have y0 := hw.cell (i := 0) rfl; have y1 := hw.cell (i := 1) rfl; have y2 := hw.cell (i := 2) rfl; have y3 := hw.cell (i := 3) rfl; have y4 := hw.cell (i := 4) rfl; go_simp; try (with_reducible rfl))
 try simp only [Act.put, zA, zB, zC]
 refine tG (some 9) 6 ?vha6x5 rfl rfl (Or.inl ⟨by rfl, ?hha6x5⟩) hS0 ?rha6x5
 case hha6x5 => (intro w hw; have y0 := hw.cell (i := 0) rfl; have y1 := hw.cell (i := 1) rfl; have y2 := hw.cell (i := 2) rfl; have y3 := hw.cell (i := 3) rfl; have y4 := hw.cell (i := 4) rfl; go_simp; try (with_reducible rfl))
 try simp only [Act.put, zA, zB, zC]
 refine tG (some 10) 7 ?vha7x6 rfl rfl (Or.inl ⟨by rfl, ?hha7x6⟩) hS0 ?rha7x6
 case hha7x6 => (intro w hw; have y0 := hw.cell (i := 0) rfl; have y1 := hw.cell (i := 1) rfl; have y2 := hw.cell (i := 2) rfl; have y3 := hw.cell (i := 3) rfl; have y4 := hw.cell (i := 4) rfl; go_simp; try (with_reducible rfl))
 try simp only [Act.put, zA, zB, zC]
 refine tG (some 12) 9 ?vha9x7 rfl rfl (Or.inl ⟨by rfl, ?hha9x7⟩) hS0 ?rha9x7
 case hha9x7 => (intro w hw; have y0 := hw.cell (i := 0) rfl; have y1 := hw.cell (i := 1) rfl; have y2 := hw.cell (i := 2) rfl; have y3 := hw.cell (i := 3) rfl; have y4 := hw.cell (i := 4) rfl; go_simp; try (with_reducible rfl))
 try simp only [Act.put, zA, zB, zC]
 refine tG (some 13) 10 ?vha10x8 rfl rfl (Or.inl ⟨by rfl, ?hha10x8⟩) hS0 ?rha10x8
 case hha10x8 => (intro w hw; have y0 := hw.cell (i := 0) rfl; have y1 := hw.cell (i := 1) rfl; have y2 := hw.cell (i := 2) rfl; have y3 := hw.cell (i := 3) rfl; have y4 := hw.cell (i := 4) rfl; go_simp; try (with_reducible rfl))
 try simp only [Act.put, zA, zB, zC]
 refine tG (some 15) 12 ?vha12x9 rfl rfl (Or.inl ⟨by rfl, ?hha12x9⟩) hS0 ?rha12x9
 case hha12x9 => (intro w hw; have y0 := hw.cell (i := 0) rfl; have y1 := hw.cell (i := 1) rfl; have y2 := hw.cell (i := 2) rfl; have y3 := hw.cell (i := 3) rfl; have y4 := hw.cell (i := 4) rfl; go_simp; try (with_reducible rfl))
 try simp only [Act.put, zA, zB, zC]
 refine tG (some 16) 13 ?vha13x10 rfl rfl (Or.inl ⟨by rfl, ?hha13x10⟩) hS0 ?rha13x10
 case hha13x10 => (intro w hw; have y0 := hw.cell (i := 0) rfl; have y1 := hw.cell (i := 1) rfl; have y2 := hw.cell (i := 2) rfl; have y3 := hw.cell (i := 3) rfl; have y4 := hw.cell (i := 4) rfl; go_simp; try (with_reducible rfl))
 try simp only [Act.put, zA, zB, zC]
 refine rD 2 rfl (fun K hK => ?_)
 go_simp
 refine (Ck.out _ hbd).mono ?_
 rintro e w3 ⟨⟨b0, n0, c0, rfl, _, _, hm0⟩, h0⟩
 have hb3 := below_then hbd h0
 have HM0 := hid (show NmI w3 (.map (some b0)) (ofF lk) from .inr ⟨_, _, _, rfl, hm0⟩)
 have HZ := hid (HZ.out.below h0)
 have s0 := BoxN.below hS0 h0
 clear Ck hm0 h0
 show K _ _
 refine hK.out _ _ s0 (fun _ => ?_)
 clear hK K
 refine rD 5 rfl (fun K hK => ?_)
 go_simp
 refine (Cs.out _ hb3).mono ?_
 rintro e w4 ⟨⟨b1, n1, c1, rfl, _, _, hm1⟩, h1⟩
 have hb4 := below_then hb3 h1
 have HM1 := hid (show NmI w4 (.map (some b1)) (ofF ls) from .inr ⟨_, _, _, rfl, hm1⟩)
 have HM0 := hid (HM0.out.below h1)
 have HZ := hid (HZ.out.below h1)
 have s1 := BoxN.below s0 h1
 clear Cs hm1 h1
 show K _ _
 refine hK.out _ _ s1 (fun _ => ?_)
 clear hK K
 refine rD 8 rfl (fun K hK => ?_)
 go_simp
 refine (Cv.out _ hb4).mono ?_
 rintro e w5 ⟨⟨b2, n2, c2, rfl, _, _, hm2⟩, h2⟩
 have hb5 := below_then hb4 h2
 have HM2 := hid (show NmI w5 (.map (some b2)) (ofF lv) from .inr ⟨_, _, _, rfl, hm2⟩)
 have HM0 := hid (HM0.out.below h2)
 have HM1 := hid (HM1.out.below h2)
 have HZ := hid (HZ.out.below h2)
 have s2 := BoxN.below s1 h2
 clear Cv hm2 h2
 show K _ _
 refine hK.out _ _ s2 (fun _ => ?_)
 clear hK K
 refine rD 11 rfl (fun K hK => ?_)
 go_simp
 refine (Ct.out _ hb5).mono ?_
 rintro e w6 ⟨⟨b3, n3, c3, rfl, _, _, hm3⟩, h3⟩
 have hb6 := below_then hb5 h3
 have HM3 := hid (show NmI w6 (.map (some b3)) (ofF lt) from .inr ⟨_, _, _, rfl, hm3⟩)
 have HM0 := hid (HM0.out.below h3)
 have HM1 := hid (HM1.out.below h3)
 have HM2 := hid (HM2.out.below h3)
 have HZ := hid (HZ.out.below h3)
 have s3 := BoxN.below s2 h3
 clear Ct hm3 h3
 show K _ _
 refine hK.out _ _ s3 (fun _ => ?_)
 clear hK K
 refine tG (some 17) 14 ?vha14x15 rfl rfl (Or.inl ⟨by rfl, ?hha14x15⟩) s3 ?rha14x15
 case hha14x15 => (intro w hw; have y0 := hw.cell (i := 0) rfl; have y1 := hw.cell (i := 1) rfl; have y2 := hw.cell (i := 2) rfl; have y3 := hw.cell (i := 3) rfl; have y4 := hw.cell (i := 4) rfl; go_simp; try (with_reducible rfl))
 try simp only [Act.put, zA, zB, zC]
 refine rD 15 rfl (fun K hK => ?_)
 have hbP := hid (below_setRow hb6 hq2 #[.map (some b0), .map (some b1), .map (some b2), .map (some b3), .slice ao L.length co])
 have hgr := grown_setRow w6 p2 #[.map (some b0), .map (some b1), .map (some b2), .map (some b3), .slice ao L.length co]
 have hinf : (Tryz.prog.info? 33).map (·.size) = some (#[.map (some b0), .map (some b1), .map (some b2), .map (some b3), .slice ao L.length co] : Array Value).size := (show (Tryz.prog.info? 33).map (·.size) = some 5 by kernel_rfl)
 have HNA : Hid (NmA (w6.setRow p2 #[.map (some b0), .map (some b1), .map (some b2), .map (some b3), .slice ao L.length co]) (.map (some b0)) (.map (some b1)) (.map (some b2)) (.map (some b3)) (ofF lk) (ofF ls) (ofF lv) (ofF lt)) := hid ⟨HM0.out.box HZ.out hgr, HM1.out.box HZ.out hgr, HM2.out.box HZ.out hgr, HM3.out.box HZ.out hgr⟩
 have HPB := hid HZ.out
 rw [if_pos (by rfl)]
 refine wp_store_row 33 _ _ rfl p2 #[.map (some b0), .map (some b1), .map (some b2), .map (some b3), .slice ao L.length co] rfl rfl _ _ HZ.out hinf rfl (by simp [Value.oneCell']) ?_
 have s9 := (setRow_other w6 p2 w.heap.size #[.map (some b0), .map (some b1), .map (some b2), .map (some b3), .slice ao L.length co] (by omega)).trans s3
 refine hK.out _ _ s9 (fun _ => ?_)
 clear hK K hgr
 refine wpAnyH_done (by kernel_rfl) ?_ _
 try simp only [Act.put]
 go_wp2_with fail
 refine bodyPost_ret (v := .agg #[.map (some b0), .map (some b1), .map (some b2), .map (some b3), .slice ao L.length co]) (results_cell_row rfl _ _ p2 _ #[.map (some b0), .map (some b1), .map (some b2), .map (some b3), .slice ao L.length co] _ _ rfl (setRow_heap _ _ _ _ _ _ HPB.out) Tryz.underlying33 rfl hinf) rfl ?_
 exact ⟨⟨_, _, _, _, rfl, HNA.out⟩, hbP.out⟩
end

section
open Go.RowKit
theorem okN_putF {F : Int → Option Int} (hF : OkN F) {k v : Int} (hv : IntOk v) : OkN (putF F k v) := fun x hx => by
 have q := hF x hx
 unfold nmF putF at *
 by_cases e : x = k
 ·rw [if_pos e]; exact hv
 ·rw [if_neg e]; exact q
theorem okN_fold : ∀ (l : List (Int × Int)) (F : Int → Option Int), OkN F → (∀ p ∈ l, IntOk p.2) → OkN (l.foldl (fun f p => putF f p.1 p.2) F)
 | [], _, hF, _ => hF
 | p :: l, _, hF, h => okN_fold l _ (okN_putF hF (h p List.mem_cons_self)) (fun q hq => h q (List.mem_cons_of_mem _ hq))
theorem okN_of {l : List (Int × Int)} (h : ∀ p ∈ l, IntOk p.2) : OkN (ofF l) := okN_fold l _ okN_none h
end

section
open Go.RowKit
theorem wsum {a b : Nat} (h : a + b ≤ 36000000000000) : wrap64 ((a : Int) + (b : Int)) = ((a + b : Nat) : Int) := by
 have := wrap64_small (a := (a : Int) + (b : Int)) (by omega) (by omega)
 rw [this]; omega
theorem nm_sum {a b c d : Nat} (ha : a ≤ 9000000000000) (hb : b ≤ 9000000000000) (hc : c ≤ 9000000000000) (hd : d ≤ 9000000000000) :
  wrap64 ((a : Int) + (b : Int)) = ((a + b : Nat) : Int) ∧ wrap64 (((a + b : Nat) : Int) + (c : Int)) = ((a + b + c : Nat) : Int) ∧ wrap64 (((a + b + c : Nat) : Int) + (d : Int)) = ((a + b + c + d : Nat) : Int) :=
 ⟨wsum (by omega), wsum (by omega), wsum (by omega)⟩
theorem nm_sum2 {a b c d : Nat} (ha : a ≤ 9000000000000) (hb : b ≤ 9000000000000) (hc : c ≤ 9000000000000) (hd : d ≤ 9000000000000) :
  wrap64 ((a : Int) + (b : Int)) = (a : Int) + (b : Int) ∧ wrap64 ((a : Int) + (b : Int) + (c : Int)) = (a : Int) + (b : Int) + (c : Int) ∧ wrap64 ((a : Int) + (b : Int) + (c : Int) + (d : Int)) = (a : Int) + (b : Int) + (c : Int) + (d : Int) := by
 obtain ⟨h1, h2, h3⟩ := nm_sum ha hb hc hd
 simp only [Int.natCast_add] at h1 h2 h3
 exact ⟨h1, h2, h3⟩
theorem nm_gt {a b c d : Nat} (h : 200 < a + b + c + d) : (200 : Int) < (a : Int) + (b : Int) + (c : Int) + (d : Int) := by omega
theorem nm_le {a b c d : Nat} (h : ¬ 200 < a + b + c + d) : ¬ (200 : Int) < (a : Int) + (b : Int) + (c : Int) + (d : Int) := by omega
theorem nm_few {a b c d e : Nat} (h : ¬ 200 < a + b + c + d) (k : ¬ 50 < e) : a ≤ 200 ∧ b ≤ 200 ∧ c ≤ 200 ∧ d ≤ 200 ∧ e ≤ 100 := by omega
theorem le5 {a n : Nat} (h : a ≤ n) (k : n ≤ 100000 := by decide) : a ≤ 100000 := by omega
end

end Go.Proofs.YtipmfhgdeghmjaaGreat
