/- Walks and plain facts that the proof of the statement WholeEnough uses, joined: SeaH SeaI OrdL PlaN SeaJ VecB SeaK LesC OrdAB AxhB AxhC BruJ BruP BruQ BruR BruU BruF BruG BruH BruI PlaP ArgC LeaI LeaJ TopA BruK BruV BruZ BrcA BrcC BruW BruX AxhN BruY BrcB SeaL VecC VecD TblM TblB. Conditions: each theorem's own. -/
import Derived.Deep.RegionHeld
import Derived.Deep.CutRange
import Derived.Deep.MidRow
import Derived.Deep.RegionHeld3
import Derived.Deep.Upon
import Derived.ChangeKeysEq
import Derived.Test.YtnhkjehfmbfmmaaGreatDoorPWholeEnough0
import Derived.Test.YtnhkjehfmbfmmaaGreatDoorPWholeEnough1
import Derived.Test.YtnhkjehfmbfmmaaGreatDoorPWholeEnough2
import Derived.Test.YtnhkjehfmbfmmaaGreatDoorPWholeEnough3
import Derived.Test.YtnhkjehfmbfmmaaGreatDoorPWholeEnough4
import Derived.Test.YtnhkjehfmbfmmaaGreatDoorPWholeEnough5
import Derived.Test.YtnhkjehfmbfmmaaGreatDoorPWholeEnough6
namespace Go.Proofs.YtnhkjehfmbfmmaaGreatDoor
set_option maxHeartbeats 32000000
set_option maxRecDepth 100000
set_option linter.unusedSimpArgs false
set_option linter.unusedVariables false
open Lib (hid)
section
open Go.RowKit
def decN (h : List TxnV) (lv : Int) : Srch := if isLv lv = true ∧ soundTo h h.length = true then srch h (clI ((askN lv : Nat) : Int)) h.length h.length [] [] else (none, [], 0)
theorem dec_first {h : List TxnV} (hc : checkI h = 0) (lv : Int) : (decN h lv).1.map List.reverse = (ordersN h.length).find? (keptL h lv) := by
 rw [first_kept]
 unfold decN
 split
 ·rw [(srch_right hc rfl h.length [] [] RowG.nil (by simp) Bad.nil).1]
 ·rfl
theorem dec_tries (h : List TxnV) (lv : Int) : (decN h lv).2.2 ≤ trN h.length := by
 unfold decN
 split
 ·exact srch_tries h.length [] [] List.nodup_nil (fun _ hi => (by cases hi)) (by simp) rfl
 ·exact Nat.zero_le _
def OwnW (w : World) (b0 : Nat) (vo vs : Value) (l : List Int) (LL : List (List Int)) : Prop := w.ownsRow b0 3 1 vo l.length (l.map (Value.int .i64)) ∧ ∃ KL, OwnK b0 w vs KL ∧ KL.map (fun p : KRow => p.2) = LL
def SdRes (h : List TxnV) (lv : Int) (T F U : Nat) (w : World) (e : Ending) (w' : World) : Prop :=
 w.grownBy w' (some T) ∧
  ((Lasts F U (decN h lv).2.2 ∧ MtAt w' T F (U + (decN h lv).2.2) ∧
    (((decN h lv).1 = none ∧ e = .returned (.tuple #[.agg #[.slice none 0 0, .slice none 0 0], .bool false, .int .i64 0])) ∨
     ∃ r vo vs, (decN h lv).1 = some r ∧ RowG h (clI ((askN lv : Nat) : Int)) r ∧ r.length = h.length ∧ e = .returned (.tuple #[.agg #[vo, vs], .bool true, .int .i64 0]) ∧ Ints w' vo (r.reverse.map Int.ofNat) ∧ Lists w' vs (seesL (seesR h (clI ((askN lv : Nat) : Int)) r) h.length) ∧ OwnW w' w.heap.size vo vs (r.reverse.map Int.ofNat) (seesL (seesR h (clI ((askN lv : Nat) : Int)) r) h.length))) ∨
   (¬ Lasts F U (decN h lv).2.2 ∧ MtAt w' T F F ∧ e = .returned (.tuple #[.agg #[.slice none 0 0, .slice none 0 0], .bool false, .int .i64 4])))
theorem run_iface (x : Option Addr) (w : World) : (Instr.makeInterface 152 (.pointer x)).run Tryz.prog w = .ok (.iface 152 (.pointer x)) w := by kernel_rfl
theorem SrAt.made (w : World) (S B Mb T : Nat) : SrAt (w.alloc (.cells #[.pointer (some ⟨S, 0, none⟩), .pointer (some ⟨B, 0, none⟩), .map (some Mb), .iface 152 (.pointer (some ⟨T, 0, none⟩))] 209)) w.heap.size S B Mb T := by
 have hn := heap_alloc_new w (.cells #[.pointer (some ⟨S, 0, none⟩), .pointer (some ⟨B, 0, none⟩), .map (some Mb), .iface 152 (.pointer (some ⟨T, 0, none⟩))] 209)
 refine ⟨?_, ?_, ?_, ?_⟩ <;> (rw [cell_of_row _ _ _ _ _ _ hn]; rfl)
theorem Sea.made {w0 w1 : World} {S B b : Nat} {h : List TxnV} {C T F U N : Nat} {vb : Value} {aF sF : Nat → Nat} (p : PlX w0 N S B b h C [] vb (.slice none 0 0) aF sF w1) (hN : T < N) (hT : w0.heap.size ≤ T) (hm : MtAt w1 T F U) :
  Sea w0 N S B b h C (w1.heap.size + 1) w1.heap.size T F vb [] (.slice none 0 0) aF sF [] U ((w1.alloc (.map #[] 0)).alloc (.cells #[.pointer (some ⟨S, 0, none⟩), .pointer (some ⟨B, 0, none⟩), .map (some w1.heap.size), .iface 152 (.pointer (some ⟨T, 0, none⟩))] 209)) := by
 have b1 := box_below w1 (.map #[] 0)
 have hs1 : (w1.alloc (.map #[] 0)).heap.size = w1.heap.size + 1 := by simp
 have b2 := box_below (w1.alloc (.map #[] 0)) (.cells #[.pointer (some ⟨S, 0, none⟩), .pointer (some ⟨B, 0, none⟩), .map (some w1.heap.size), .iface 152 (.pointer (some ⟨T, 0, none⟩))] 209)
 have hb := below_then b1 b2
 have hl := p.lowS
 have hx := SrAt.made (w1.alloc (.map #[] 0)) S B w1.heap.size T
 rw [hs1] at hx
 have hmm := (MemM.made w1).below b2 (by rw [hs1]; omega)
 refine ⟨p.below hb, hx, ?_, hm.below hb hm.lt, fun g hg => ?_, ?_, ?_⟩
 ·rw [memF_nil]; exact hmm
 ·have h1 := p.of hg
  rcases hg with e | e | e
  ·omega
  ·have := (p.own.1 g e).1; omega
  ·cases e
 ·have := hm.lt; omega
 ·have := hm.lt; omega
theorem grown_setc {w wx : World} {row : Option Nat} (hg : w.grownBy wx row) {p : Addr} (hp : w.heap.size ≤ p.block) (u : Value) : w.grownBy (wx.setCell p u) row := by
 have hs : Below 0 wx (wx.setCell p u) := (Below.refl 0 wx).setCell (Nat.zero_le _) u
 exact ⟨hs.os.trans hg.os, hs.tape.trans hg.tape, hs.output.trans hg.output, Nat.le_trans hg.size hs.size, fun k hk hne => (Below.heap_setCell wx p u k (by omega)).trans (hg.block k hk hne)⟩
theorem grown_below {w wx wy : World} {row : Option Nat} (hg : w.grownBy wx row) (hb : Below wx.heap.size wx wy) : w.grownBy wy row :=
 ⟨hb.os.trans hg.os, hb.tape.trans hg.tape, hb.output.trans hg.output, Nat.le_trans hg.size hb.size, fun k hk hne => (hb.block k (Nat.lt_of_lt_of_le hk hg.size)).trans (hg.block k hk hne)⟩
theorem grown_sea {w wx wy : World} {S Mb T : Nat} {vr' : Value} (hg : w.grownBy wx (some T)) (k : SeaStep S Mb T (.slice none 0 0) vr' wx wy) (hS : w.heap.size ≤ S) (hM : w.heap.size ≤ Mb) : w.grownBy wy (some T) :=
 ⟨k.os.trans hg.os, k.tape.trans hg.tape, k.output.trans hg.output, Nat.le_trans hg.size k.size, fun j hj hne => (k.block j (Nat.lt_of_lt_of_le hj hg.size) (by omega) (by omega) (fun e => hne (by rw [e])) (by simp [Value.ownBlock])).trans (hg.block j hj hne)⟩
theorem sdecide_any {w0 w : World} {B b : Nat} {h : List TxnV} (lv : Int) (T F U : Nat) (hO : OrdIs w0 B b h) (ht : Tab w0) (hK : Kinds w0) (hc : checkI h = 0) (hb : Below w0.heap.size w0 w) (hT : w0.heap.size ≤ T) (hm : MtAt w T F U)
  (hM : (decN h lv).2.2 + 2 ≤ 1099511627776) (hU : F = 4611686018427387904 → U + (decN h lv).2.2 ≤ 4611686018427387904) :
  Calls Tryz.prog 96 #[.pointer (some ⟨B, 0, none⟩), .int .i64 lv, .pointer (some ⟨T, 0, none⟩)] w fun e w' => SdRes h lv T F U w e w' := by
 have h64 := (check_zero hc).1
 have hTw := hm.lt
 have hbx := box_below w (.cells #[.slice none 0 0, .slice none 0 0] 41)
 have hsx : (w.alloc (.cells #[.slice none 0 0, .slice none 0 0] 41)).heap.size = w.heap.size + 1 := by simp
 have hwk := WkAt.made w
 have hm1 := hm.below hbx hm.lt
 have hb1 : Below w0.heap.size w0 (w.alloc (.cells #[.slice none 0 0, .slice none 0 0] 41)) := hb.trans (hbx.mono hb.size)
 have n0 := (hO.below hb1).blk.cS
 have hg1 : w.grownBy (w.alloc (.cells #[.slice none 0 0, .slice none 0 0] 41)) (some T) := World.grownBy_alloc _ _ _
 have CI := hid (fun wx => lis_any lv wx)
 have CA := hid (fun wx (hx : Below w0.heap.size w0 wx) => lasks_any lv wx (hK.below hx))
 have HB1 := hid hb1
 have HMT := hid hm1
 have HGW := hid hg1
 have HWK := hid hwk
 go_enter Tryz.func96, Tryz.ntmps96
 go_upto_region 1 with fail
 clear hb1 hm1 hg1 hwk hbx
 generalize w.alloc (.cells #[.slice none 0 0, .slice none 0 0] 41) = w1 at *
 have hrun := run_iface (some ⟨T, 0, none⟩)
 have hmk := @run_makeMap Tryz.prog
 cases hs : soundTo h h.length with
 | false =>
  have hd : decN h lv = (none, [], 0) := by unfold decN; rw [if_neg (by rw [hs]; simp)]
  have HF : Hid (∀ wx, w.grownBy wx (some T) → MtAt wx T F U → SdRes h lv T F U w (.returned (.tuple #[.agg #[.slice none 0 0, .slice none 0 0], .bool false, .int .i64 0])) wx) := hid (fun wx hg hm => by
   unfold SdRes
   rw [hd]
   refine ⟨hg, .inl ⟨?_, hm, .inl ⟨rfl, rfl⟩⟩⟩
   by_cases e : F = 4611686018427387904
   ·exact .inl e
   ·exact .inr (hm.ue e))
  rw [hs] at n0
  clear hs hd hM hU hm
  have HW9 := hid (HWK.out.set (.slice none 0 0) (.slice none 0 0))
  have HG9 := hid (grown_setc (grown_setc HGW.out (p := ⟨w.heap.size, 0, none⟩) (Nat.le_refl _) (.slice none 0 0)) (p := ⟨w.heap.size, 1, none⟩) (Nat.le_refl _) (.slice none 0 0))
  have HM9 := hid (fun u (hm : MtAt w1 T F u) => (hm.block (Below.heap_setCell w1 ⟨w.heap.size, 0, none⟩ (.slice none 0 0) T (by show T ≠ w.heap.size; omega))).block (Below.heap_setCell _ ⟨w.heap.size, 1, none⟩ (.slice none 0 0) T (by show T ≠ w.heap.size; omega)))
  obtain ⟨k0, k1, k2, k3⟩ := HWK.out
  go_wp2_with fail
  obtain ⟨d0, d1, _, _⟩ := HW9.out
  refine bodyPost_ret (v := .tuple #[.agg #[.slice none 0 0, .slice none 0 0], .bool false, .int .i64 0]) ?_ rfl (HF.out _ HG9.out (HM9.out _ HMT.out))
  simp [results, Tryz.results96, go_sem, d0, d1]
 | true =>
  rw [hs] at n0
  cases hlv : isLv lv with
  | false =>
   have hd : decN h lv = (none, [], 0) := by unfold decN; rw [if_neg (by rw [hlv]; simp)]
   have HF : Hid (∀ wx, w.grownBy wx (some T) → MtAt wx T F U → SdRes h lv T F U w (.returned (.tuple #[.agg #[.slice none 0 0, .slice none 0 0], .bool false, .int .i64 0])) wx) := hid (fun wx hg hm => by
    unfold SdRes
    rw [hd]
    refine ⟨hg, .inl ⟨?_, hm, .inl ⟨rfl, rfl⟩⟩⟩
    by_cases e : F = 4611686018427387904
    ·exact .inl e
    ·exact .inr (hm.ue e))
   rw [hlv] at CI
   clear hs hlv hd hM hU hm
   go_wp2_with fail
   refine (CI.out _).mono ?_
   rintro e wq ⟨rfl, rfl⟩
   have HW9 := hid (HWK.out.set (.slice none 0 0) (.slice none 0 0))
   have HG9 := hid (grown_setc (grown_setc HGW.out (p := ⟨w.heap.size, 0, none⟩) (Nat.le_refl _) (.slice none 0 0)) (p := ⟨w.heap.size, 1, none⟩) (Nat.le_refl _) (.slice none 0 0))
   have HM9 := hid (fun u (hm : MtAt w1 T F u) => (hm.block (Below.heap_setCell w1 ⟨w.heap.size, 0, none⟩ (.slice none 0 0) T (by show T ≠ w.heap.size; omega))).block (Below.heap_setCell _ ⟨w.heap.size, 1, none⟩ (.slice none 0 0) T (by show T ≠ w.heap.size; omega)))
   obtain ⟨k0, k1, k2, k3⟩ := HWK.out
   go_wp2_with fail
   obtain ⟨d0, d1, _, _⟩ := HW9.out
   refine bodyPost_ret (v := .tuple #[.agg #[.slice none 0 0, .slice none 0 0], .bool false, .int .i64 0]) ?_ rfl (HF.out _ HG9.out (HM9.out _ HMT.out))
   simp [results, Tryz.results96, go_sem, d0, d1]
  | true =>
   have hd : decN h lv = srch h (clI ((askN lv : Nat) : Int)) h.length h.length [] [] := by unfold decN; rw [if_pos ⟨hlv, hs⟩]
   have HDF := hid (dec_first hc lv)
   have hC : clI ((askN lv : Nat) : Int) < 9223372036854775808 := by have := clI_lt ((askN lv : Nat) : Int); omega
   rw [hlv] at CI
   have CN := hid (xnew_any ((askN lv : Nat) : Int) hO hc ht HB1.out)
   have HD := hid hd
   have HU := hid hU
   have HMM := hid hM
   have HC := hid hc
   have HOT : Hid (OrdIs w0 B b h ∧ Tab w0 ∧ w0.heap.size ≤ T ∧ clI ((askN lv : Nat) : Int) < 9223372036854775808) := hid ⟨hO, ht, hT, hC⟩
   clear hs hlv hd hM hU hm hO ht hc hT hC hb
   go_wp2_with fail
   refine (CI.out _).mono ?_
   rintro e wq ⟨rfl, rfl⟩
   go_wp2_with fail
   refine (CA.out _ HB1.out).mono ?_
   rintro e wq ⟨rfl, rfl⟩
   go_wp2_with fail
   refine CN.out.mono ?_
   rintro e w2 ⟨S, vb, aF, sF, rfl, p, hb2⟩
   have hSl := p.lowS.1
   have hM2 := HMT.out.below hb2 HMT.out.lt
   have SEA := hid (Sea.made p (by omega) HOT.out.2.2.1 hM2)
   have hg3 : w.grownBy ((w2.alloc (.map #[] 0)).alloc (.cells #[.pointer (some ⟨S, 0, none⟩), .pointer (some ⟨B, 0, none⟩), .map (some w2.heap.size), .iface 152 (.pointer (some ⟨T, 0, none⟩))] 209)) (some T) := grown_below (grown_below (grown_below HGW.out hb2) (box_below _ _)) (box_below _ _)
   have hwk3 : WkAt ((w2.alloc (.map #[] 0)).alloc (.cells #[.pointer (some ⟨S, 0, none⟩), .pointer (some ⟨B, 0, none⟩), .map (some w2.heap.size), .iface 152 (.pointer (some ⟨T, 0, none⟩))] 209)) w.heap.size (.slice none 0 0) (.slice none 0 0) := by
    have h1 := HWK.out.below hb2 HWK.out.lt
    have h2 := h1.below (box_below w2 (.map #[] 0)) h1.lt
    exact h2.below (box_below _ _) h2.lt
   have hw12 := hb2.size
   clear p hb2 hM2 CN CI CA HB1 HGW HWK HMT n0
   have HGW := hid hg3
   have HWK := hid hwk3
   clear hg3 hwk3
   go_upto_region 4 with fail
   generalize (w2.alloc (.map #[] 0)).alloc (.cells #[.pointer (some ⟨S, 0, none⟩), .pointer (some ⟨B, 0, none⟩), .map (some w2.heap.size), .iface 152 (.pointer (some ⟨T, 0, none⟩))] 209) = w3 at *
   have CF := hid (sfurther_any HOT.out.1 HOT.out.2.1 HC.out HOT.out.2.2.2 h.length [] (.slice none 0 0) aF sF [] U w3 SEA.out (by simp) (by have := HMM.out; rw [HD.out] at this; simp only [List.length_nil]; omega) (fun e => by have := HU.out e; rw [HD.out] at this; exact this))
   rw [← HD.out] at CF
   have hSz : w.heap.size ≤ S := by omega
   have hMz : w.heap.size ≤ w2.heap.size := by omega
   generalize w2.heap.size = Mb at *
   clear SEA hrun hmk
   go_wp2_with fail
   refine CF.out.mono ?_
   rintro e w4 ⟨vr4, hst, hres⟩
   have hg4 := grown_sea HGW.out hst hSz hMz
   have hwk4 : WkAt w4 w.heap.size (.slice none 0 0) (.slice none 0 0) := HWK.out.block (hst.block w.heap.size HWK.out.lt (by omega) (by omega) (by omega) (by simp [Value.ownBlock]))
   clear hst CF HGW HWK
   have HGW := hid hg4
   have HWK := hid hwk4
   clear hg4 hwk4
   rcases hres with ⟨hla, rfl, aF4, sF4, q4⟩ | ⟨hla, rfl, hm4⟩
   ·have Q4 := hid q4
    have HMT := hid q4.t
    have HLA := hid hla
    clear q4 hla
    cases hfd : (decN h lv).1 with
    | none =>
     have HF : Hid (∀ wx, w.grownBy wx (some T) → MtAt wx T F (U + (decN h lv).2.2) → SdRes h lv T F U w (.returned (.tuple #[.agg #[.slice none 0 0, .slice none 0 0], .bool false, .int .i64 0])) wx) := hid (fun wx hg hm => ⟨hg, .inl ⟨HLA.out, hm, .inl ⟨hfd, rfl⟩⟩⟩)
     clear hfd Q4
     have HW9 := hid (HWK.out.set (.slice none 0 0) (.slice none 0 0))
     have HG9 := hid (grown_setc (grown_setc HGW.out (p := ⟨w.heap.size, 0, none⟩) (Nat.le_refl _) (.slice none 0 0)) (p := ⟨w.heap.size, 1, none⟩) (Nat.le_refl _) (.slice none 0 0))
     have HM9 := hid (fun u (hm : MtAt w4 T F u) => (hm.block (Below.heap_setCell w4 ⟨w.heap.size, 0, none⟩ (.slice none 0 0) T (by show T ≠ w.heap.size; omega))).block (Below.heap_setCell _ ⟨w.heap.size, 1, none⟩ (.slice none 0 0) T (by show T ≠ w.heap.size; omega)))
     obtain ⟨k0, k1, k2, k3⟩ := HWK.out
     go_wp2_with fail
     obtain ⟨d0, d1, _, _⟩ := HW9.out
     refine bodyPost_ret (v := .tuple #[.agg #[.slice none 0 0, .slice none 0 0], .bool false, .int .i64 0]) ?_ rfl (HF.out _ HG9.out (HM9.out _ HMT.out))
     simp [results, Tryz.results96, go_sem, d0, d1]
    | some r =>
     have q4 := Q4.out
     rw [hfd] at q4
     have q4 : Sea w0 w1.heap.size S B b h (clI ((askN lv : Nat) : Int)) (Mb + 1) Mb T F vb r vr4 aF4 sF4 (decN h lv).2.1 (U + (decN h lv).2.2) w4 := q4
     have hrl : r.length = h.length := by
      have e := HDF.out
      rw [hfd, Option.map_some] at e
      have := (orders_perm (List.mem_of_find?_eq_some e.symm)).length_eq
      simpa using this
     have CWT := hid (switness_any q4 HC.out hrl)
     have HRG := hid (q4.p.rowG HC.out)
     have HF : Hid (∀ vo vs wx, Ints wx vo (r.reverse.map Int.ofNat) → Lists wx vs (seesL (seesR h (clI ((askN lv : Nat) : Int)) r) h.length) → OwnW wx w.heap.size vo vs (r.reverse.map Int.ofNat) (seesL (seesR h (clI ((askN lv : Nat) : Int)) r) h.length) → w.grownBy wx (some T) → MtAt wx T F (U + (decN h lv).2.2) → SdRes h lv T F U w (.returned (.tuple #[.agg #[vo, vs], .bool true, .int .i64 0])) wx) := hid (fun vo vs wx hI hL hW hg hm => ⟨hg, .inl ⟨HLA.out, hm, .inr ⟨r, vo, vs, hfd, HRG.out, hrl, rfl, hI, hL, hW⟩⟩⟩)
     have HRL := hid hrl
     clear hfd q4 Q4 hrl
     go_wp2_with fail
     refine CWT.out.mono ?_
     rintro e w5 ⟨⟨vo, vs, KL, rfl, hI5, hL5, hK5⟩, hb5⟩
     obtain ⟨oa, oc, rfl⟩ := own_form hI5
     obtain ⟨sa, sc, rfl⟩ := own_form hL5.kr
     have hwk5 := HWK.out.below hb5 HWK.out.lt
     have hlo : w.heap.size < w4.heap.size + 1 := by have := HWK.out.lt; omega
     have HW9 := hid (hwk5.set (.slice oa (r.reverse.map Int.ofNat).length oc) (.slice sa KL.length sc))
     have HI9 := hid (Ints.of_owns (pl_far (pl_far hI5 (p := ⟨w.heap.size, 0, none⟩) hlo (.slice oa (r.reverse.map Int.ofNat).length oc)) (p := ⟨w.heap.size, 1, none⟩) hlo (.slice sa KL.length sc)))
     have HL9 := hid (OwnK.lists ((hL5.far (p := ⟨w.heap.size, 0, none⟩) hlo (.slice oa (r.reverse.map Int.ofNat).length oc)).far (p := ⟨w.heap.size, 1, none⟩) hlo (.slice sa KL.length sc)))
     have HO9 : Hid (OwnW _ w.heap.size _ _ _ _) := hid ⟨own_base' (pl_far (pl_far hI5 (p := ⟨w.heap.size, 0, none⟩) hlo (.slice oa (r.reverse.map Int.ofNat).length oc)) (p := ⟨w.heap.size, 1, none⟩) hlo (.slice sa KL.length sc)) (show w.heap.size ≤ w4.heap.size + 1 by omega), KL, ((hL5.far (p := ⟨w.heap.size, 0, none⟩) hlo (.slice oa (r.reverse.map Int.ofNat).length oc)).far (p := ⟨w.heap.size, 1, none⟩) hlo (.slice sa KL.length sc)).base (show w.heap.size ≤ w4.heap.size + 1 by omega), hK5⟩
     rw [hK5] at HL9
     have HG9 := hid (grown_setc (grown_setc (grown_below HGW.out hb5) (p := ⟨w.heap.size, 0, none⟩) (Nat.le_refl _) (.slice oa (r.reverse.map Int.ofNat).length oc)) (p := ⟨w.heap.size, 1, none⟩) (Nat.le_refl _) (.slice sa KL.length sc))
     have HM9 := hid (((HMT.out.below hb5 HMT.out.lt).block (Below.heap_setCell w5 ⟨w.heap.size, 0, none⟩ (.slice oa (r.reverse.map Int.ofNat).length oc) T (by show T ≠ w.heap.size; omega))).block (Below.heap_setCell _ ⟨w.heap.size, 1, none⟩ (.slice sa KL.length sc) T (by show T ≠ w.heap.size; omega)))
     simp only [List.length_map, List.length_reverse] at HW9 HI9 HL9 HO9 HG9 HM9 ⊢
     obtain ⟨k0, k1, k2, k3⟩ := hwk5
     clear hI5 hL5 hK5 hb5 CWT
     go_wp2_with fail
     obtain ⟨d0, d1, _, _⟩ := HW9.out
     refine bodyPost_ret (v := .tuple #[.agg #[.slice oa r.length oc, .slice sa KL.length sc], .bool true, .int .i64 0]) ?_ rfl (HF.out _ _ _ HI9.out HL9.out HO9.out HG9.out HM9.out)
     simp [results, Tryz.results96, go_sem, d0, d1]
   ·have HMT := hid hm4
    have HF : Hid (∀ wx, w.grownBy wx (some T) → MtAt wx T F F → SdRes h lv T F U w (.returned (.tuple #[.agg #[.slice none 0 0, .slice none 0 0], .bool false, .int .i64 4])) wx) := hid (fun wx hg hm => ⟨hg, .inr ⟨hla, hm, rfl⟩⟩)
    clear hm4 hla
    have HW9 := hid (HWK.out.set (.slice none 0 0) (.slice none 0 0))
    have HG9 := hid (grown_setc (grown_setc HGW.out (p := ⟨w.heap.size, 0, none⟩) (Nat.le_refl _) (.slice none 0 0)) (p := ⟨w.heap.size, 1, none⟩) (Nat.le_refl _) (.slice none 0 0))
    have HM9 := hid (fun u (hm : MtAt w4 T F u) => (hm.block (Below.heap_setCell w4 ⟨w.heap.size, 0, none⟩ (.slice none 0 0) T (by show T ≠ w.heap.size; omega))).block (Below.heap_setCell _ ⟨w.heap.size, 1, none⟩ (.slice none 0 0) T (by show T ≠ w.heap.size; omega)))
    obtain ⟨k0, k1, k2, k3⟩ := HWK.out
    go_wp2_with fail
    obtain ⟨d0, d1, _, _⟩ := HW9.out
    refine bodyPost_ret (v := .tuple #[.agg #[.slice none 0 0, .slice none 0 0], .bool false, .int .i64 4]) ?_ rfl (HF.out _ HG9.out (HM9.out _ HMT.out))
    simp [results, Tryz.results96, go_sem, d0, d1]
end

section
open Go.RowKit
structure WitT (g : Nat) (vo vs : Value) (w : World) : Prop where
 c0 : w.cell? ⟨g, 0, none⟩ = some vo
 c1 : w.cell? ⟨g, 1, none⟩ = some vs
theorem WitT.below {g : Nat} {vo vs : Value} {w w' : World} (h : WitT g vo vs w) (hb : Below w.heap.size w w') : WitT g vo vs w' := by
 have hl := block_lt h.c0
 exact ⟨(hb.cell (p := ⟨g, 0, none⟩) hl).trans h.c0, (hb.cell (p := ⟨g, 1, none⟩) hl).trans h.c1⟩
theorem WitT.made (w : World) (vo vs : Value) (t : TypeId) : WitT w.heap.size vo vs (w.alloc (.cells #[vo, vs] t)) := by
 have hn := heap_alloc_new w (.cells #[vo, vs] t)
 refine ⟨?_, ?_⟩ <;> (rw [cell_of_row _ _ _ _ _ _ hn]; rfl)
end

section
open Go.RowKit
theorem takeQ {P : Program} {ops : Array Oper} {Q : Exit → Act → World → Prop} {md : Region.Mode} {S : World → Prop} (d : Option Tmp) {i : Nat} {oi : Oper} {v : Value} {fuel : Nat} {listed : Array Bool} {a : Act} {w : World} (hi : ops[i]? = some oi) (hd : oi.dst = d)
  (hs : Region.noSelect ops = true) (hf : Region.free md ops listed i = true) (hr : (Region.ready md ops listed).contains i = true)
  (hQ : ∀ c a w, Q (.panic c) (a.put oi.dst v) w → Q (.panic c) a w) (hy : YieldsIf P ops S oi v a) (hS : S w)
  (h : wpAnyH P md ops Q S fuel (listed.setIfInBounds i true) (a.put d v) w) : wpAnyH P md ops Q S (fuel + 1) listed a w := by
 subst hd; exact wpAnyH_take hi hs hf hr hQ hy hS h
theorem of_done (va : Value) (h : List TxnV) (w : World) (hT : Txns w va h) (hok : ∀ t ∈ h, t.ok) (hsh : Short h) (hc : checkI h = 0) :
  Calls Tryz.prog 25 #[va] w fun e w' => (∃ B, e = .returned (.tuple #[.pointer (some ⟨B, 0, none⟩), .int .i64 0]) ∧ w.heap.size ≤ B ∧ OrdIs w' B (B + 2) h) ∧ Below w.heap.size w w' := by
 obtain ⟨ao, cap, rfl, hal⟩ := hT.form
 obtain ⟨hlen, hops, hW, hks⟩ := check_zero hc
 have hb0 := box_below w (.cells #[.slice ao h.length cap] 22)
 have CH := hid (hcheck_any _ h _ (hT.below hb0) hok hsh)
 rw [hc] at CH
 have CW := hid (fun wx (hx : Below w.heap.size w wx) => hwrites_any _ h wx (hT.below hx) hok hks (by omega) (by omega))
 have HT := hid (fun wx (hx : Below w.heap.size w wx) => hT.below hx)
 have HOK := hid hok
 have HKS := hid hks
 have HW := hid hW
 have HOPS := hid hops
 obtain ⟨i1, hi1, hza1, hzb1, hzc1⟩ := info_parts infoLI
 obtain ⟨i2, hi2, hza2, hzb2, hzc2⟩ := info_parts infoLR
 have hA0 : (w.alloc (.cells #[.slice ao h.length cap] 22)).cell? ⟨w.heap.size, 0, none⟩ = some (.slice ao h.length cap) := by rw [cell_of_row _ _ _ _ _ _ (heap_alloc_new w _)]; rfl
 clear hT hok hsh hks hW hc hops
 go_enter Tryz.func25, Tryz.ntmps25
 go_wp2_with fail
 refine (CH.out).mono ?_
 rintro e w1 ⟨rfl, hb1⟩
 have hA1 := (hb1.cell (p := ⟨w.heap.size, 0, none⟩) (block_lt hA0)).trans hA0
 have hb2 := below_then hb0 hb1
 clear CH hb1 hb0 hA0
 go_wp2_with fail
 refine (CW.out _ hb2).mono ?_
 rintro e w2 ⟨hb3, ⟨hno, _⟩ | ⟨_, bm, m, rfl, hbm, hM⟩⟩
 ·exact absurd hno (by rw [HW.out]; simp)
 have hA2 := (hb3.cell (p := ⟨w.heap.size, 0, none⟩) (block_lt hA1)).trans hA1
 have hb4 := below_then hb2 hb3
 clear CW hb3 hb2 hA1
 have hlt := block_lt hA2
 simp only at hlt
 have hO3 := (OrdAt.made w2 (h.length : Int) 112 rfl rfl).alloc (.cells #[.pointer (some ⟨w2.heap.size, 0, none⟩)] 36)
 have hb3 := ((Below.refl w2.heap.size w2).alloc (Nat.le_refl _) (.cells ((Tryz.zeroCells112.setIfInBounds 0 (.int .i64 h.length)).setIfInBounds 196 (.bool true)) 112)).alloc (by simp) (.cells #[.pointer (some ⟨w2.heap.size, 0, none⟩)] 36)
 have hA3 := (hb3.cell (p := ⟨w.heap.size, 0, none⟩) hlt).trans hA2
 have hC3 : ((w2.alloc (.cells ((Tryz.zeroCells112.setIfInBounds 0 (.int .i64 h.length)).setIfInBounds 196 (.bool true)) 112)).alloc (.cells #[.pointer (some ⟨w2.heap.size, 0, none⟩)] 36)).cell? ⟨w2.heap.size + 1, 0, none⟩ = some (.pointer (some ⟨w2.heap.size, 0, none⟩)) := by
  rw [cell_of_row _ _ _ _ _ _ (heap_alloc2_new w2 _ _)]; rfl
 have hs3 : w2.heap.size + 2 ≤ ((w2.alloc (.cells ((Tryz.zeroCells112.setIfInBounds 0 (.int .i64 h.length)).setIfInBounds 196 (.bool true)) 112)).alloc (.cells #[.pointer (some ⟨w2.heap.size, 0, none⟩)] 36)).heap.size := by simp
 go_wp2_with fail
 generalize ((w2.alloc (.cells ((Tryz.zeroCells112.setIfInBounds 0 (.int .i64 h.length)).setIfInBounds 196 (.bool true)) 112)).alloc (.cells #[.pointer (some ⟨w2.heap.size, 0, none⟩)] 36)) = w3 at *
 generalize (Tryz.zeroCells112.setIfInBounds 0 (.int .i64 h.length)).setIfInBounds 196 (.bool true) = Z at *
 go_loopw [26] (fun i wr => ∃ (k : Nat) (vk vr : Value) (sd : Bool) (K : List KRow) (R : List RRow), k ≤ h.length ∧ i = .int .i64 k ∧ K.map (·.2) = keysTo h k ∧ R.map (·.2) = readsTo h k ∧ sd = soundTo h k ∧ OrdAt wr w2.heap.size h.length noR noR noR (.map none) vk vr sd ∧
   wr.cell? ⟨w2.heap.size + 1, 0, none⟩ = some (.pointer (some ⟨w2.heap.size, 0, none⟩)) ∧ OfR (w2.heap.size + 2) wr vk vr K R ∧ Below w2.heap.size w2 wr ∧ w2.heap.size + 2 ≤ wr.heap.size) (fun i _ => h.length - (intOf i).toNat)
 case atStart => exact ⟨0, _, _, _, [], [], by omega, rfl, rfl, rfl, rfl, hO3, hC3, OfR.nil _ _, hb3, hs3⟩
 case round =>
  clear hO3 hC3 hb3 hs3 hA3
  obtain ⟨k, vk, vr, sd, K, R, hk, rfl, hK, hR, hsd, hO, hC, hF, hb, hsz⟩ := hrel
  have HK := hid (And.intro hK (And.intro hR hsd))
  clear hK hR hsd
  by_cases hlk : k < h.length
  ·have hki : (k : Int) < (h.length : Int) := by omega
   have hbw := below_then hb4 hb
   obtain ⟨g, o, hao, c0, c1, c2, c3⟩ := (HT.out _ hbw).at hlk
   cases hao
   have hOps := (HT.out _ hbw).ops hlk
   have HOPF := hid (fun wx (hx : Below w2.heap.size w2 wx) => (HT.out wx (below_then hb4 hx)).ops hlk)
   generalize h[k].s = ts at *
   generalize h[k].b = tb at *
   generalize h[k].c = tc at *
   have HLK : Hid (opsAt h k = h[k].l) := hid (opsAt_eq hlk)
   have hll : h[k].l.length ≤ 1024 := by
    have h1 := opsN_take h k hlk
    have h2 := opsN_le h (k + 1)
    have h3 := HOPS.out
    omega
   have HOL := hid (HOK.out _ (List.getElem_mem hlk)).2
   have HKL := hid (HKS.out _ (List.getElem_mem hlk))
   generalize h[k].v = tv at *
   generalize h[k].l = l at *
   obtain ⟨a2, cap2, rfl, hl2⟩ := hOps.form
   obtain ⟨b0, b1, b2, b3⟩ := txnBlock wr (.int .i64 ts) (.int .i64 tb) (.int .i64 tc) (.slice a2 l.length cap2) 83
   have hbx := (Below.refl wr.heap.size wr).alloc (Nat.le_refl _) (.cells #[.int .i64 ts, .int .i64 tb, .int .i64 tc, .slice a2 l.length cap2] 83)
   have hOps1 := hOps.below hbx
   have hO1 := hO.below hbx hO.lt
   have hC1 := (hbx.cell (p := ⟨w2.heap.size + 1, 0, none⟩) (block_lt hC)).trans hC
   have hF1 := hF.below hbx
   have hb1 := hb.trans (hbx.mono hb.size)
   have hs1 : w2.heap.size + 2 ≤ (wr.alloc (.cells #[.int .i64 ts, .int .i64 tb, .int .i64 tc, .slice a2 l.length cap2] 83)).heap.size := by simp; omega
   have hgx : w2.heap.size + 2 ≤ wr.heap.size := hsz
   have hX1 := heap_alloc_new wr (.cells #[.int .i64 ts, .int .i64 tb, .int .i64 tc, .slice a2 l.length cap2] 83)
   have hX : OfS w2 wr.heap.size ts tb tc (.slice a2 l.length cap2) h.length vk vr sd K R (wr.alloc (.cells #[.int .i64 ts, .int .i64 tb, .int .i64 tc, .slice a2 l.length cap2] 83)) := ⟨hO1, ⟨hC1, b0, b1, b2, b3⟩, hF1, hb1, hs1, ⟨_, hX1⟩, hgx⟩
   have hTf := fun wx (hx : Below w2.heap.size w2 wx) => HT.out wx (below_then hb4 hx)
   go_upto_region 9 with fail
   clear hOps hO hC hF hb hbx hbw hsz c0 c1 c2 c3 hO1 hC1 hF1 hb1 hs1 hX1 b0 b1 b2 b3
   generalize wr.alloc (.cells #[.int .i64 ts, .int .i64 tb, .int .i64 tc, .slice a2 l.length cap2] 83) = w4 at *
   generalize wr.heap.size = gx at *
   clear wr
   have hKl : K.length ≤ 64 := by have := congrArg List.length HK.out.1; simp [keysTo] at this; omega
   have hRl : R.length ≤ 64 := by have := congrArg List.length HK.out.2.1; simp [readsTo] at this; omega
   obtain ⟨aK, cK, rfl⟩ := owns_form hX.r.kr
   obtain ⟨aR, cR, rfl⟩ := owns_form hX.r.rr
   go_cut [41] from 31 to 41 (fun u wx => ∃ (v5 : Value) (vx : Value), u = .pointer (some ⟨w2.heap.size, 194, none⟩) ∧ OfS w2 gx ts tb tc (.slice a2 l.length cap2) h.length v5 (.slice aR R.length cR) sd (K ++ [(vx, keysOf l)]) R wx)
   case first =>
    have kd := (Below.refl w4.heap.size w4).drew
    have CK : Hid (∀ wx, Below w4.heap.size w4 wx → Calls Tryz.prog 53 #[.agg #[.int .i64 ts, .int .i64 tb, .int .i64 tc, .slice a2 l.length cap2]] wx fun e w' => ∃ v, e = .returned v ∧ w'.ownsRow (w2.heap.size + 2) 3 1 v (keysOf l).length ((keysOf l).map (Value.int .i64)) ∧ Below wx.heap.size wx w') := hid (fun wx hx => (okeys_any ts tb tc _ l wx (hOps1.below hx) HOL.out (by omega)).mono (fun e w' ⟨v, out, he, ho, hr, _, hbb⟩ => by
     obtain rfl := hr.eq (refWrites_rise HKL.out)
     refine ⟨v, he, own_base' ?_ (show w2.heap.size + 2 ≤ wx.heap.size by have h1 := hx.size; have h2 := hX.z; omega), hbb⟩
     unfold keysOf
     rw [List.length_map, List.map_map]
     exact ho))
    have HS : Hid (∀ wx, Below w4.heap.size w4 wx → SB (w2.heap.size + 1) w2.heap.size gx ts tb tc (.slice a2 l.length cap2) wx) := hid (fun wx hx => hX.s.below hx)
    have hc0 := hX.o.cK
    have HCL : Hid (∀ wx, Below w4.heap.size w4 wx → wx.cell? ⟨w2.heap.size, 194, none⟩ = some (.slice aK K.length cK)) := hid (fun wx hx => (hx.cell (p := ⟨w2.heap.size, 194, none⟩) (block_lt hc0)).trans hc0)
    have HCA : Hid (∀ wx, Below w4.heap.size w4 wx → ∀ o, (wx.alloc o).cell? ⟨w2.heap.size, 194, none⟩ = some (.slice aK K.length cK)) := hid (fun wx hx o => HCL.out _ (hx.alloc hx.size o))
    have HRO : Hid (∀ wx, Below w4.heap.size w4 wx → wx.ownsRow (w2.heap.size + 2) 24 1 (.slice aK K.length cK) K.length (K.map (·.1))) := hid (fun wx hx => owns_below hX.r.kr hx)
    have HSZ : Hid (∀ wx (o : Obj), Below w4.heap.size w4 wx → w2.heap.size + 2 ≤ (wx.alloc o).heap.size) := hid (fun wx o hx => by have h1 := hx.size; have h2 := hX.z; simp; omega)
    have HFIN := hid (fun wx w5 v v5 hx => hX.addK (wx := wx) (w5 := w5) (v := v) (v5 := v5) (t := 24) (l := keysOf l) hx)
    have n3 : Hid (K.length + 1 ≤ maxLen) := hid (by unfold maxLen; omega)
    have n4 : Hid ((K.length + 1) * 24 ≤ 140737488355328) := hid (by omega)
    refine wp_region_held_drew (S := SB (w2.heap.size + 1) w2.heap.size gx ts tb tc (.slice a2 l.length cap2)) (by kernel_rfl) hX.s.drew (fun hS0 => ?_)
    refine takeQ (some 31) (i := 0) (v := ?v1) rfl rfl (by kernel_rfl) (by kernel_rfl) (by kernel_rfl) (fun _ _ _ h => h) (Or.inl ⟨by rfl, ?h1⟩) hS0 ?r1
    case h1 => (intro w hw; obtain ⟨q0, q1, q2, q3, q4⟩ := hw; go_simp; try (with_reducible rfl))
    try simp only [Act.put, zA, zB, zC]
    refine takeQ (some 32) (i := 1) (v := ?v2) rfl rfl (by kernel_rfl) (by kernel_rfl) (by kernel_rfl) (fun _ _ _ h => h) (Or.inl ⟨by rfl, ?h2⟩) hS0 ?r2
    case h2 => (intro w hw; obtain ⟨q0, q1, q2, q3, q4⟩ := hw; go_simp; try (with_reducible rfl))
    try simp only [Act.put, zA, zB, zC]
    refine takeQ (some 36) (i := 5) (v := ?v3) rfl rfl (by kernel_rfl) (by kernel_rfl) (by kernel_rfl) (fun _ _ _ h => h) (Or.inl ⟨by rfl, ?h3⟩) hS0 ?r3
    case h3 => (intro w hw; obtain ⟨q0, q1, q2, q3, q4⟩ := hw; go_simp; try (with_reducible rfl))
    try simp only [Act.put, zA, zB, zC]
    refine takeQ (some 33) (i := 2) (v := ?v4) rfl rfl (by kernel_rfl) (by kernel_rfl) (by kernel_rfl) (fun _ _ _ h => h) (Or.inl ⟨by rfl, ?h4⟩) hS0 ?r4
    case h4 => (intro w hw; obtain ⟨q0, q1, q2, q3, q4⟩ := hw; go_simp; try (with_reducible rfl))
    try simp only [Act.put, zA, zB, zC]
    refine takeQ (some 34) (i := 3) (v := ?v5) rfl rfl (by kernel_rfl) (by kernel_rfl) (by kernel_rfl) (fun _ _ _ h => h) (Or.inl ⟨by rfl, ?h5⟩) hS0 ?r5
    case h5 => (intro w hw; obtain ⟨q0, q1, q2, q3, q4⟩ := hw; go_simp; try (with_reducible rfl))
    try simp only [Act.put, zA, zB, zC]
    refine wpAnyH_ready (rs := [4, 6]) (by kernel_rfl) (by simp) ?_
    refine AllReadyH.cons rfl ?_ (AllReadyH.cons rfl ?_ AllReadyH.nil)
    ·intro KK hKK
     go_simp
     refine hKK.out _ _ hS0 (fun _ => ?_)
     clear hKK KK
     refine wpAnyH_ready (rs := [6]) (by kernel_rfl) (by simp) ?_
     refine AllReadyH.cons rfl ?_ AllReadyH.nil
     intro KK hKK
     go_simp
     refine (CK.out _ kd).mono ?_
     rintro e wx ⟨vx, rfl, hox, hbx⟩
     obtain ⟨ax, cx, hvx⟩ := owns_form hox
     subst hvx
     show KK _ _
     have kk := below_then kd hbx
     have hS1 := HS.out _ kk
     have hcw := HCL.out _ kk
     refine hKK.out _ _ hS1 (fun _ => ?_)
     clear hKK KK
     refine wpAnyH_ready (rs := [7]) (by kernel_rfl) (by simp) ?_
     refine AllReadyH.cons rfl ?_ AllReadyH.nil
     intro KK hKK
     go_simp
     have hS2 := hS1.alloc (.cells #[.slice ax (keysOf l).length cx] 24)
     have hcw := HCA.out _ kk (.cells #[.slice ax (keysOf l).length cx] 24)
     refine hKK.out _ _ hS2 (fun _ => ?_)
     clear hKK KK
     refine wpAnyH_ready (rs := [8]) (by kernel_rfl) (by simp) ?_
     refine AllReadyH.cons rfl ?_ AllReadyH.nil
     intro KK hKK
     refine step_app _ rfl (.tmp 35) (.tmp 38) 39 rfl (w2.heap.size + 2) 24 i1 (.slice none 0 0) 1 24 Tryz.underlying39 hi1 hza1 hzb1 hzc1 rfl (by decide) (.slice aK K.length cK) K.length (K.map (·.1)) (by simp [Act.eval]) ((HRO.out _ kk).alloc _) ⟨_, 0, none⟩ 1 1 [.slice ax (keysOf l).length cx] (by rfl) rfl (cell_one_new _ _ _) (by intro u hu; simp at hu; subst hu; rfl) n3.out n4.out (HSZ.out _ _ kk) ?_
     intro v5 w5 hown5 hg5
     obtain ⟨a5, c5, hv5⟩ := owns_form hown5
     subst hv5
     obtain ⟨hfin, hS5, hfz, hcz⟩ := HFIN.out _ _ _ _ kk hox hown5 hg5
     show KK _ _
     refine hKK.out _ _ hS5 (fun _ => ?_)
     clear hKK KK
     refine takeQ (some 40) (i := 9) (v := ?v6) rfl rfl (by kernel_rfl) (by kernel_rfl) (by kernel_rfl) (fun _ _ _ h => h) (Or.inl ⟨by rfl, ?h6⟩) hS5 ?r6
     case h6 => (intro w hw; obtain ⟨q0, q1, q2, q3, q4⟩ := hw; go_simp; try (with_reducible rfl))
     try simp only [Act.put, List.setIfInBounds_toArray]
     refine takeQ (some 41) (i := 10) (v := ?v7) rfl rfl (by kernel_rfl) (by kernel_rfl) (by kernel_rfl) (fun _ _ _ h => h) (Or.inl ⟨by rfl, ?h7⟩) hS5 ?r7
     case h7 => (intro w hw; obtain ⟨q0, q1, q2, q3, q4⟩ := hw; go_simp; try (with_reducible rfl))
     try simp only [Act.put]
     refine wpAnyH_ready (rs := [11]) (by kernel_rfl) (by simp) ?_
     refine AllReadyH.cons rfl ?_ AllReadyH.nil
     intro KK hKK
     go_simp
     refine hKK.out _ _ hfin.s (fun _ => ?_)
     clear hKK KK
     refine wpAnyH_done (by kernel_rfl) ?_ _
     go_wp2_with fail
     go_meet
     exact ⟨_, _, rfl, hfin⟩
    ·intro KK hKK
     go_simp
     refine (CK.out _ kd).mono ?_
     rintro e wx ⟨vx, rfl, hox, hbx⟩
     obtain ⟨ax, cx, hvx⟩ := owns_form hox
     subst hvx
     show KK _ _
     have kk := below_then kd hbx
     have hS1 := HS.out _ kk
     have hcw := HCL.out _ kk
     refine hKK.out _ _ hS1 (fun _ => ?_)
     clear hKK KK
     refine wpAnyH_ready (rs := [4, 7]) (by kernel_rfl) (by simp) ?_
     refine AllReadyH.cons rfl ?_ (AllReadyH.cons rfl ?_ AllReadyH.nil)
     ·intro KK hKK
      go_simp
      refine hKK.out _ _ hS1 (fun _ => ?_)
      clear hKK KK
      refine wpAnyH_ready (rs := [7]) (by kernel_rfl) (by simp) ?_
      refine AllReadyH.cons rfl ?_ AllReadyH.nil
      intro KK hKK
      go_simp
      have hS2 := hS1.alloc (.cells #[.slice ax (keysOf l).length cx] 24)
      have hcw := HCA.out _ kk (.cells #[.slice ax (keysOf l).length cx] 24)
      refine hKK.out _ _ hS2 (fun _ => ?_)
      clear hKK KK
      refine wpAnyH_ready (rs := [8]) (by kernel_rfl) (by simp) ?_
      refine AllReadyH.cons rfl ?_ AllReadyH.nil
      intro KK hKK
      refine step_app _ rfl (.tmp 35) (.tmp 38) 39 rfl (w2.heap.size + 2) 24 i1 (.slice none 0 0) 1 24 Tryz.underlying39 hi1 hza1 hzb1 hzc1 rfl (by decide) (.slice aK K.length cK) K.length (K.map (·.1)) (by simp [Act.eval]) ((HRO.out _ kk).alloc _) ⟨_, 0, none⟩ 1 1 [.slice ax (keysOf l).length cx] (by rfl) rfl (cell_one_new _ _ _) (by intro u hu; simp at hu; subst hu; rfl) n3.out n4.out (HSZ.out _ _ kk) ?_
      intro v5 w5 hown5 hg5
      obtain ⟨a5, c5, hv5⟩ := owns_form hown5
      subst hv5
      obtain ⟨hfin, hS5, hfz, hcz⟩ := HFIN.out _ _ _ _ kk hox hown5 hg5
      show KK _ _
      refine hKK.out _ _ hS5 (fun _ => ?_)
      clear hKK KK
      refine takeQ (some 40) (i := 9) (v := ?v8) rfl rfl (by kernel_rfl) (by kernel_rfl) (by kernel_rfl) (fun _ _ _ h => h) (Or.inl ⟨by rfl, ?h8⟩) hS5 ?r8
      case h8 => (intro w hw; obtain ⟨q0, q1, q2, q3, q4⟩ := hw; go_simp; try (with_reducible rfl))
      try simp only [Act.put, List.setIfInBounds_toArray]
      refine takeQ (some 41) (i := 10) (v := ?v9) rfl rfl (by kernel_rfl) (by kernel_rfl) (by kernel_rfl) (fun _ _ _ h => h) (Or.inl ⟨by rfl, ?h9⟩) hS5 ?r9
      case h9 => (intro w hw; obtain ⟨q0, q1, q2, q3, q4⟩ := hw; go_simp; try (with_reducible rfl))
      try simp only [Act.put]
      refine wpAnyH_ready (rs := [11]) (by kernel_rfl) (by simp) ?_
      refine AllReadyH.cons rfl ?_ AllReadyH.nil
      intro KK hKK
      go_simp
      refine hKK.out _ _ hfin.s (fun _ => ?_)
      clear hKK KK
      refine wpAnyH_done (by kernel_rfl) ?_ _
      go_wp2_with fail
      go_meet
      exact ⟨_, _, rfl, hfin⟩
     ·intro KK hKK
      go_simp
      have hS2 := hS1.alloc (.cells #[.slice ax (keysOf l).length cx] 24)
      have hcw := HCA.out _ kk (.cells #[.slice ax (keysOf l).length cx] 24)
      refine hKK.out _ _ hS2 (fun _ => ?_)
      clear hKK KK
      refine wpAnyH_ready (rs := [4]) (by kernel_rfl) (by simp) ?_
      refine AllReadyH.cons rfl ?_ AllReadyH.nil
      intro KK hKK
      go_simp
      refine hKK.out _ _ hS2 (fun _ => ?_)
      clear hKK KK
      refine wpAnyH_ready (rs := [8]) (by kernel_rfl) (by simp) ?_
      refine AllReadyH.cons rfl ?_ AllReadyH.nil
      intro KK hKK
      refine step_app _ rfl (.tmp 35) (.tmp 38) 39 rfl (w2.heap.size + 2) 24 i1 (.slice none 0 0) 1 24 Tryz.underlying39 hi1 hza1 hzb1 hzc1 rfl (by decide) (.slice aK K.length cK) K.length (K.map (·.1)) (by simp [Act.eval]) ((HRO.out _ kk).alloc _) ⟨_, 0, none⟩ 1 1 [.slice ax (keysOf l).length cx] (by rfl) rfl (cell_one_new _ _ _) (by intro u hu; simp at hu; subst hu; rfl) n3.out n4.out (HSZ.out _ _ kk) ?_
      intro v5 w5 hown5 hg5
      obtain ⟨a5, c5, hv5⟩ := owns_form hown5
      subst hv5
      obtain ⟨hfin, hS5, hfz, hcz⟩ := HFIN.out _ _ _ _ kk hox hown5 hg5
      show KK _ _
      refine hKK.out _ _ hS5 (fun _ => ?_)
      clear hKK KK
      refine takeQ (some 40) (i := 9) (v := ?v10) rfl rfl (by kernel_rfl) (by kernel_rfl) (by kernel_rfl) (fun _ _ _ h => h) (Or.inl ⟨by rfl, ?h10⟩) hS5 ?r10
      case h10 => (intro w hw; obtain ⟨q0, q1, q2, q3, q4⟩ := hw; go_simp; try (with_reducible rfl))
      try simp only [Act.put, List.setIfInBounds_toArray]
      refine takeQ (some 41) (i := 10) (v := ?v11) rfl rfl (by kernel_rfl) (by kernel_rfl) (by kernel_rfl) (fun _ _ _ h => h) (Or.inl ⟨by rfl, ?h11⟩) hS5 ?r11
      case h11 => (intro w hw; obtain ⟨q0, q1, q2, q3, q4⟩ := hw; go_simp; try (with_reducible rfl))
      try simp only [Act.put]
      refine wpAnyH_ready (rs := [11]) (by kernel_rfl) (by simp) ?_
      refine AllReadyH.cons rfl ?_ AllReadyH.nil
      intro KK hKK
      go_simp
      refine hKK.out _ _ hfin.s (fun _ => ?_)
      clear hKK KK
      refine wpAnyH_done (by kernel_rfl) ?_ _
      go_wp2_with fail
      go_meet
      exact ⟨_, _, rfl, hfin⟩
   case rest =>
    obtain ⟨vk5, vx, rfl, hX5⟩ := hcut
    clear hX hOps1
    have hX := hX5
    clear hX5
    have HRD : Hid (∃ rd, rd = rdFr (wrTo h h.length) (k : Int) (refReads l)) := hid ⟨_, rfl⟩
    obtain ⟨rd, hrd⟩ := HRD.out
    have HRD2 := hid hrd
    clear hrd HRD
    go_upto_region 10 with fail
    go_cut [54] from 42 to 54 (fun u wx => ∃ (v5 : Value) (vy : Value), u = .pointer (some ⟨w2.heap.size, 195, none⟩) ∧ OfS w2 gx ts tb tc (.slice a2 l.length cap2) h.length vk5 v5 sd (K ++ [(vx, keysOf l)]) (R ++ [(vy, rd)]) wx)
    case first =>
     have hOps1 := HOPF.out wc hX.b
     have hMc := hM.below hX.b
     have kd := (Below.refl wc.heap.size wc).drew
     have CK : Hid (∀ wx, Below wc.heap.size wc wx → Calls Tryz.prog 54 #[.int .i64 k, .agg #[.int .i64 ts, .int .i64 tb, .int .i64 tc, .slice a2 l.length cap2], .map (some bm)] wx fun e w' => ∃ v, e = .returned v ∧ w'.ownsRow (w2.heap.size + 2) 121 2 v rd.length (frV rd) ∧ Below wx.heap.size wx w') := hid (fun wx hx => (oreads_any (k : Int) ts tb tc _ l (wrTo h h.length) bm _ _ wx (hOps1.below hx) HOL.out (by omega) (hMc.below hx)).mono (fun e w' ⟨v, out, he, ho, hr, _, hbb⟩ => by
      obtain rfl := hr.eq (refReads_rise HKL.out)
      rw [← HRD2.out] at ho
      exact ⟨v, he, own_base' ho (show w2.heap.size + 2 ≤ wx.heap.size by have h1 := hx.size; have h2 := hX.z; omega), hbb⟩))
     have HS : Hid (∀ wx, Below wc.heap.size wc wx → SB (w2.heap.size + 1) w2.heap.size gx ts tb tc (.slice a2 l.length cap2) wx) := hid (fun wx hx => hX.s.below hx)
     have hc0 := hX.o.cR
     have HCL : Hid (∀ wx, Below wc.heap.size wc wx → wx.cell? ⟨w2.heap.size, 195, none⟩ = some (.slice aR R.length cR)) := hid (fun wx hx => (hx.cell (p := ⟨w2.heap.size, 195, none⟩) (block_lt hc0)).trans hc0)
     have HCA : Hid (∀ wx, Below wc.heap.size wc wx → ∀ o, (wx.alloc o).cell? ⟨w2.heap.size, 195, none⟩ = some (.slice aR R.length cR)) := hid (fun wx hx o => HCL.out _ (hx.alloc hx.size o))
     have HRO : Hid (∀ wx, Below wc.heap.size wc wx → wx.ownsRow (w2.heap.size + 2) 114 1 (.slice aR R.length cR) R.length (R.map (·.1))) := hid (fun wx hx => owns_below hX.r.rr hx)
     have HSZ : Hid (∀ wx (o : Obj), Below wc.heap.size wc wx → w2.heap.size + 2 ≤ (wx.alloc o).heap.size) := hid (fun wx o hx => by have h1 := hx.size; have h2 := hX.z; simp; omega)
     have HFIN := hid (fun wx w5 v v5 hx => hX.addR (wx := wx) (w5 := w5) (v := v) (v5 := v5) (t := 114) (l := rd) hx)
     have n3 : Hid (R.length + 1 ≤ maxLen) := hid (by unfold maxLen; omega)
     have n4 : Hid ((R.length + 1) * 24 ≤ 140737488355328) := hid (by omega)
     refine wp_region_held_drew (S := SB (w2.heap.size + 1) w2.heap.size gx ts tb tc (.slice a2 l.length cap2)) (by kernel_rfl) hX.s.drew (fun hS0 => ?_)
     refine takeQ (some 42) (i := 0) (v := ?v101) rfl rfl (by kernel_rfl) (by kernel_rfl) (by kernel_rfl) (fun _ _ _ h => h) (Or.inl ⟨by rfl, ?h101⟩) hS0 ?r101
     case h101 => (intro w hw; obtain ⟨q0, q1, q2, q3, q4⟩ := hw; go_simp; try (with_reducible rfl))
     try simp only [Act.put, zA, zB, zC]
     refine takeQ (some 43) (i := 1) (v := ?v102) rfl rfl (by kernel_rfl) (by kernel_rfl) (by kernel_rfl) (fun _ _ _ h => h) (Or.inl ⟨by rfl, ?h102⟩) hS0 ?r102
     case h102 => (intro w hw; obtain ⟨q0, q1, q2, q3, q4⟩ := hw; go_simp; try (with_reducible rfl))
     try simp only [Act.put, zA, zB, zC]
     refine takeQ (some 47) (i := 5) (v := ?v103) rfl rfl (by kernel_rfl) (by kernel_rfl) (by kernel_rfl) (fun _ _ _ h => h) (Or.inl ⟨by rfl, ?h103⟩) hS0 ?r103
     case h103 => (intro w hw; obtain ⟨q0, q1, q2, q3, q4⟩ := hw; go_simp; try (with_reducible rfl))
     try simp only [Act.put, zA, zB, zC]
     refine takeQ (some 48) (i := 6) (v := ?v104) rfl rfl (by kernel_rfl) (by kernel_rfl) (by kernel_rfl) (fun _ _ _ h => h) (Or.inl ⟨by rfl, ?h104⟩) hS0 ?r104
     case h104 => (intro w hw; obtain ⟨q0, q1, q2, q3, q4⟩ := hw; go_simp; try (with_reducible rfl))
     try simp only [Act.put, zA, zB, zC]
     refine takeQ (some 49) (i := 7) (v := ?v105) rfl rfl (by kernel_rfl) (by kernel_rfl) (by kernel_rfl) (fun _ _ _ h => h) (Or.inl ⟨by rfl, ?h105⟩) hS0 ?r105
     case h105 => (intro w hw; obtain ⟨q0, q1, q2, q3, q4⟩ := hw; go_simp; try (with_reducible rfl))
     try simp only [Act.put, zA, zB, zC]
     refine takeQ (some 44) (i := 2) (v := ?v106) rfl rfl (by kernel_rfl) (by kernel_rfl) (by kernel_rfl) (fun _ _ _ h => h) (Or.inl ⟨by rfl, ?h106⟩) hS0 ?r106
     case h106 => (intro w hw; obtain ⟨q0, q1, q2, q3, q4⟩ := hw; go_simp; try (with_reducible rfl))
     try simp only [Act.put, zA, zB, zC]
     refine takeQ (some 45) (i := 3) (v := ?v107) rfl rfl (by kernel_rfl) (by kernel_rfl) (by kernel_rfl) (fun _ _ _ h => h) (Or.inl ⟨by rfl, ?h107⟩) hS0 ?r107
     case h107 => (intro w hw; obtain ⟨q0, q1, q2, q3, q4⟩ := hw; go_simp; try (with_reducible rfl))
     try simp only [Act.put, zA, zB, zC]
     refine wpAnyH_ready (rs := [4, 8]) (by kernel_rfl) (by simp) ?_
     refine AllReadyH.cons rfl ?_ (AllReadyH.cons rfl ?_ AllReadyH.nil)
     ·intro KK hKK
      go_simp
      refine hKK.out _ _ hS0 (fun _ => ?_)
      clear hKK KK
      refine wpAnyH_ready (rs := [8]) (by kernel_rfl) (by simp) ?_
      refine AllReadyH.cons rfl ?_ AllReadyH.nil
      intro KK hKK
      go_simp
      refine (CK.out _ kd).mono ?_
      rintro e wx ⟨vx, rfl, hox, hbx⟩
      obtain ⟨ax, cx, hvx⟩ := owns_form hox
      subst hvx
      show KK _ _
      have kk := below_then kd hbx
      have hS1 := HS.out _ kk
      have hcw := HCL.out _ kk
      refine hKK.out _ _ hS1 (fun _ => ?_)
      clear hKK KK
      refine wpAnyH_ready (rs := [9]) (by kernel_rfl) (by simp) ?_
      refine AllReadyH.cons rfl ?_ AllReadyH.nil
      intro KK hKK
      go_simp
      have hS2 := hS1.alloc (.cells #[.slice ax rd.length cx] 114)
      have hcw := HCA.out _ kk (.cells #[.slice ax rd.length cx] 114)
      refine hKK.out _ _ hS2 (fun _ => ?_)
      clear hKK KK
      refine wpAnyH_ready (rs := [10]) (by kernel_rfl) (by simp) ?_
      refine AllReadyH.cons rfl ?_ AllReadyH.nil
      intro KK hKK
      refine step_app _ rfl (.tmp 46) (.tmp 51) 110 rfl (w2.heap.size + 2) 114 i2 (.slice none 0 0) 1 24 Tryz.underlying110 hi2 hza2 hzb2 hzc2 rfl (by decide) (.slice aR R.length cR) R.length (R.map (·.1)) (by simp [Act.eval]) ((HRO.out _ kk).alloc _) ⟨_, 0, none⟩ 1 1 [.slice ax rd.length cx] (by rfl) rfl (cell_one_new _ _ _) (by intro u hu; simp at hu; subst hu; rfl) n3.out n4.out (HSZ.out _ _ kk) ?_
      intro v5 w5 hown5 hg5
      obtain ⟨a5, c5, hv5⟩ := owns_form hown5
      subst hv5
      obtain ⟨hfin, hS5, hfz, hcz⟩ := HFIN.out _ _ _ _ kk hox hown5 hg5
      show KK _ _
      refine hKK.out _ _ hS5 (fun _ => ?_)
      clear hKK KK
      refine takeQ (some 53) (i := 11) (v := ?v108) rfl rfl (by kernel_rfl) (by kernel_rfl) (by kernel_rfl) (fun _ _ _ h => h) (Or.inl ⟨by rfl, ?h108⟩) hS5 ?r108
      case h108 => (intro w hw; obtain ⟨q0, q1, q2, q3, q4⟩ := hw; go_simp; try (with_reducible rfl))
      try simp only [Act.put, List.setIfInBounds_toArray]
      refine takeQ (some 54) (i := 12) (v := ?v109) rfl rfl (by kernel_rfl) (by kernel_rfl) (by kernel_rfl) (fun _ _ _ h => h) (Or.inl ⟨by rfl, ?h109⟩) hS5 ?r109
      case h109 => (intro w hw; obtain ⟨q0, q1, q2, q3, q4⟩ := hw; go_simp; try (with_reducible rfl))
      try simp only [Act.put]
      refine wpAnyH_ready (rs := [13]) (by kernel_rfl) (by simp) ?_
      refine AllReadyH.cons rfl ?_ AllReadyH.nil
      intro KK hKK
      go_simp
      refine hKK.out _ _ hfin.s (fun _ => ?_)
      clear hKK KK
      refine wpAnyH_done (by kernel_rfl) ?_ _
      go_wp2_with fail
      go_meet
      exact ⟨_, _, rfl, hfin⟩
     ·intro KK hKK
      go_simp
      refine (CK.out _ kd).mono ?_
      rintro e wx ⟨vx, rfl, hox, hbx⟩
      obtain ⟨ax, cx, hvx⟩ := owns_form hox
      subst hvx
      show KK _ _
      have kk := below_then kd hbx
      have hS1 := HS.out _ kk
      have hcw := HCL.out _ kk
      refine hKK.out _ _ hS1 (fun _ => ?_)
      clear hKK KK
      refine wpAnyH_ready (rs := [4, 9]) (by kernel_rfl) (by simp) ?_
      refine AllReadyH.cons rfl ?_ (AllReadyH.cons rfl ?_ AllReadyH.nil)
      ·intro KK hKK
       go_simp
       refine hKK.out _ _ hS1 (fun _ => ?_)
       clear hKK KK
       refine wpAnyH_ready (rs := [9]) (by kernel_rfl) (by simp) ?_
       refine AllReadyH.cons rfl ?_ AllReadyH.nil
       intro KK hKK
       go_simp
       have hS2 := hS1.alloc (.cells #[.slice ax rd.length cx] 114)
       have hcw := HCA.out _ kk (.cells #[.slice ax rd.length cx] 114)
       refine hKK.out _ _ hS2 (fun _ => ?_)
       clear hKK KK
       refine wpAnyH_ready (rs := [10]) (by kernel_rfl) (by simp) ?_
       refine AllReadyH.cons rfl ?_ AllReadyH.nil
       intro KK hKK
       refine step_app _ rfl (.tmp 46) (.tmp 51) 110 rfl (w2.heap.size + 2) 114 i2 (.slice none 0 0) 1 24 Tryz.underlying110 hi2 hza2 hzb2 hzc2 rfl (by decide) (.slice aR R.length cR) R.length (R.map (·.1)) (by simp [Act.eval]) ((HRO.out _ kk).alloc _) ⟨_, 0, none⟩ 1 1 [.slice ax rd.length cx] (by rfl) rfl (cell_one_new _ _ _) (by intro u hu; simp at hu; subst hu; rfl) n3.out n4.out (HSZ.out _ _ kk) ?_
       intro v5 w5 hown5 hg5
       obtain ⟨a5, c5, hv5⟩ := owns_form hown5
       subst hv5
       obtain ⟨hfin, hS5, hfz, hcz⟩ := HFIN.out _ _ _ _ kk hox hown5 hg5
       show KK _ _
       refine hKK.out _ _ hS5 (fun _ => ?_)
       clear hKK KK
       refine takeQ (some 53) (i := 11) (v := ?v110) rfl rfl (by kernel_rfl) (by kernel_rfl) (by kernel_rfl) (fun _ _ _ h => h) (Or.inl ⟨by rfl, ?h110⟩) hS5 ?r110
       case h110 => (intro w hw; obtain ⟨q0, q1, q2, q3, q4⟩ := hw; go_simp; try (with_reducible rfl))
       try simp only [Act.put, List.setIfInBounds_toArray]
       refine takeQ (some 54) (i := 12) (v := ?v111) rfl rfl (by kernel_rfl) (by kernel_rfl) (by kernel_rfl) (fun _ _ _ h => h) (Or.inl ⟨by rfl, ?h111⟩) hS5 ?r111
       case h111 => (intro w hw; obtain ⟨q0, q1, q2, q3, q4⟩ := hw; go_simp; try (with_reducible rfl))
       try simp only [Act.put]
       refine wpAnyH_ready (rs := [13]) (by kernel_rfl) (by simp) ?_
       refine AllReadyH.cons rfl ?_ AllReadyH.nil
       intro KK hKK
       go_simp
       refine hKK.out _ _ hfin.s (fun _ => ?_)
       clear hKK KK
       refine wpAnyH_done (by kernel_rfl) ?_ _
       go_wp2_with fail
       go_meet
       exact ⟨_, _, rfl, hfin⟩
      ·intro KK hKK
       go_simp
       have hS2 := hS1.alloc (.cells #[.slice ax rd.length cx] 114)
       have hcw := HCA.out _ kk (.cells #[.slice ax rd.length cx] 114)
       refine hKK.out _ _ hS2 (fun _ => ?_)
       clear hKK KK
       refine wpAnyH_ready (rs := [4]) (by kernel_rfl) (by simp) ?_
       refine AllReadyH.cons rfl ?_ AllReadyH.nil
       intro KK hKK
       go_simp
       refine hKK.out _ _ hS2 (fun _ => ?_)
       clear hKK KK
       refine wpAnyH_ready (rs := [10]) (by kernel_rfl) (by simp) ?_
       refine AllReadyH.cons rfl ?_ AllReadyH.nil
       intro KK hKK
       refine step_app _ rfl (.tmp 46) (.tmp 51) 110 rfl (w2.heap.size + 2) 114 i2 (.slice none 0 0) 1 24 Tryz.underlying110 hi2 hza2 hzb2 hzc2 rfl (by decide) (.slice aR R.length cR) R.length (R.map (·.1)) (by simp [Act.eval]) ((HRO.out _ kk).alloc _) ⟨_, 0, none⟩ 1 1 [.slice ax rd.length cx] (by rfl) rfl (cell_one_new _ _ _) (by intro u hu; simp at hu; subst hu; rfl) n3.out n4.out (HSZ.out _ _ kk) ?_
       intro v5 w5 hown5 hg5
       obtain ⟨a5, c5, hv5⟩ := owns_form hown5
       subst hv5
       obtain ⟨hfin, hS5, hfz, hcz⟩ := HFIN.out _ _ _ _ kk hox hown5 hg5
       show KK _ _
       refine hKK.out _ _ hS5 (fun _ => ?_)
       clear hKK KK
       refine takeQ (some 53) (i := 11) (v := ?v112) rfl rfl (by kernel_rfl) (by kernel_rfl) (by kernel_rfl) (fun _ _ _ h => h) (Or.inl ⟨by rfl, ?h112⟩) hS5 ?r112
       case h112 => (intro w hw; obtain ⟨q0, q1, q2, q3, q4⟩ := hw; go_simp; try (with_reducible rfl))
       try simp only [Act.put, List.setIfInBounds_toArray]
       refine takeQ (some 54) (i := 12) (v := ?v113) rfl rfl (by kernel_rfl) (by kernel_rfl) (by kernel_rfl) (fun _ _ _ h => h) (Or.inl ⟨by rfl, ?h113⟩) hS5 ?r113
       case h113 => (intro w hw; obtain ⟨q0, q1, q2, q3, q4⟩ := hw; go_simp; try (with_reducible rfl))
       try simp only [Act.put]
       refine wpAnyH_ready (rs := [13]) (by kernel_rfl) (by simp) ?_
       refine AllReadyH.cons rfl ?_ AllReadyH.nil
       intro KK hKK
       go_simp
       refine hKK.out _ _ hfin.s (fun _ => ?_)
       clear hKK KK
       refine wpAnyH_done (by kernel_rfl) ?_ _
       go_wp2_with fail
       go_meet
       exact ⟨_, _, rfl, hfin⟩
    case rest =>
     obtain ⟨vr5, vy, rfl, hX5⟩ := hcut
     clear hX
     have hX := hX5
     clear hX5
     have hOps1 := HOPF.out wc hX.b
     have hMc := hM.below hX.b
     have kd := (Below.refl wc.heap.size wc).drew
     have HSO : Hid (∃ so, so = (!(refReads l).any (badFr (wrTo h h.length) (k : Int)) && steadyL l)) := hid ⟨_, rfl⟩
     obtain ⟨so, hso⟩ := HSO.out
     have HSO2 := hid hso
     clear hso HSO
     have CK : Hid (∀ wx, Below wc.heap.size wc wx → Calls Tryz.prog 55 #[.int .i64 k, .agg #[.int .i64 ts, .int .i64 tb, .int .i64 tc, .slice a2 l.length cap2], .map (some bm)] wx fun e w' => e = .returned (.bool so) ∧ Below wx.heap.size wx w') := hid (fun wx hx => (osound_any (k : Int) ts tb tc _ l (wrTo h h.length) bm _ _ wx (hOps1.below hx) HOL.out (by omega) (hMc.below hx)).mono (fun e w' ⟨out, he, hr, _, hbb⟩ => by
      obtain rfl := hr.eq (refReads_rise HKL.out)
      rw [← HSO2.out] at he
      exact ⟨he, hbb⟩))
     have HK0 : Hid ((K ++ [(vx, keysOf l)]).map (·.2) = keysTo h (k + 1) ∧ (R ++ [(vy, rd)]).map (·.2) = readsTo h (k + 1) ∧ (sd && so) = soundTo h (k + 1)) := hid (by
      refine ⟨?_, ?_, ?_⟩
      ·rw [List.map_append, keysTo_succ, ← HK.out.1, HLK.out]; rfl
      ·rw [List.map_append, readsTo_succ, ← HK.out.2.1]
       unfold readsOf
       rw [HLK.out, ← HRD2.out]; rfl
      ·rw [soundTo_succ, ← HK.out.2.2]
       unfold soundOf
       rw [HLK.out, ← HSO2.out])
     go_upto_region 11 with fail
     cases sd
     ·have HK1 : Hid ((K ++ [(vx, keysOf l)]).map (·.2) = keysTo h (k + 1) ∧ (R ++ [(vy, rd)]).map (·.2) = readsTo h (k + 1) ∧ false = soundTo h (k + 1)) := hid HK0.out
      clear HK0
      refine wp_region_held_drew (S := SB (w2.heap.size + 1) w2.heap.size gx ts tb tc (.slice a2 l.length cap2)) (by kernel_rfl) hX.s.drew (fun hS0 => ?_)
      have hc0 := hX.o.cS
      refine takeQ (some 55) (i := 0) (v := ?v201) rfl rfl (by kernel_rfl) (by kernel_rfl) (by kernel_rfl) (fun _ _ _ h => h) (Or.inl ⟨by rfl, ?h201⟩) hS0 ?r201
      case h201 => (intro w hw; obtain ⟨q0, q1, q2, q3, q4⟩ := hw; go_simp; try (with_reducible rfl))
      try simp only [Act.put, zA, zB, zC]
      refine takeQ (some 56) (i := 1) (v := ?v202) rfl rfl (by kernel_rfl) (by kernel_rfl) (by kernel_rfl) (fun _ _ _ h => h) (Or.inl ⟨by rfl, ?h202⟩) hS0 ?r202
      case h202 => (intro w hw; obtain ⟨q0, q1, q2, q3, q4⟩ := hw; go_simp; try (with_reducible rfl))
      try simp only [Act.put, zA, zB, zC]
      refine takeQ (some 57) (i := 2) (v := ?v203) rfl rfl (by kernel_rfl) (by kernel_rfl) (by kernel_rfl) (fun _ _ _ h => h) (Or.inl ⟨by rfl, ?h203⟩) hS0 ?r203
      case h203 => (intro w hw; obtain ⟨q0, q1, q2, q3, q4⟩ := hw; go_simp; try (with_reducible rfl))
      try simp only [Act.put, zA, zB, zC]
      refine takeQ (some 58) (i := 3) (v := ?v204) rfl rfl (by kernel_rfl) (by kernel_rfl) (by kernel_rfl) (fun _ _ _ h => h) (Or.inl ⟨by rfl, ?h204⟩) hS0 ?r204
      case h204 => (intro w hw; obtain ⟨q0, q1, q2, q3, q4⟩ := hw; go_simp; try (with_reducible rfl))
      try simp only [Act.put, zA, zB, zC]
      refine wpAnyH_ready (rs := [4]) (by kernel_rfl) (by simp) ?_
      refine AllReadyH.cons rfl ?_ AllReadyH.nil
      intro KK hKK
      go_simp
      refine hKK.out _ _ hS0 (fun _ => ?_)
      clear hKK KK
      refine takeQ (some 60) (i := 5) (v := ?v205) rfl rfl (by kernel_rfl) (by kernel_rfl) (by kernel_rfl) (fun _ _ _ h => h) (Or.inl ⟨by rfl, ?h205⟩) hS0 ?r205
      case h205 => (intro w hw; obtain ⟨q0, q1, q2, q3, q4⟩ := hw; go_simp; try (with_reducible rfl))
      try simp only [Act.put, zA, zB, zC]
      refine takeQ (some 61) (i := 6) (v := undef) rfl rfl (by kernel_rfl) (by kernel_rfl) (by kernel_rfl) (fun _ _ _ h => h) (Or.inr ⟨by rfl, rfl⟩) hS0 ?_
      try simp only [Act.put, zA, zB, zC]
      refine takeQ (some 62) (i := 7) (v := undef) rfl rfl (by kernel_rfl) (by kernel_rfl) (by kernel_rfl) (fun _ _ _ h => h) (Or.inr ⟨by rfl, rfl⟩) hS0 ?_
      try simp only [Act.put, zA, zB, zC]
      refine takeQ (some 63) (i := 8) (v := undef) rfl rfl (by kernel_rfl) (by kernel_rfl) (by kernel_rfl) (fun _ _ _ h => h) (Or.inr ⟨by rfl, rfl⟩) hS0 ?_
      try simp only [Act.put, zA, zB, zC]
      refine wpAnyH_ready (rs := [9]) (by kernel_rfl) (by simp) ?_
      refine AllReadyH.cons rfl ?_ AllReadyH.nil
      intro KK hKK
      go_simp
      have hY := hX.below kd
      have hf := hY.o.free (i := 196) (by omega)
      have hc := hY.o.cS
      refine hKK.out _ _ hS0 (fun _ => ?_)
      clear hKK KK
      refine takeQ (some 65) (i := 10) (v := ?v206) rfl rfl (by kernel_rfl) (by kernel_rfl) (by kernel_rfl) (fun _ _ _ h => h) (Or.inl ⟨by rfl, ?h206⟩) hS0 ?r206
      case h206 => (intro w hw; obtain ⟨q0, q1, q2, q3, q4⟩ := hw; go_simp; try (with_reducible rfl))
      try simp only [Act.put, zA, zB, zC]
      refine takeQ (some 66) (i := 11) (v := ?v207) rfl rfl (by kernel_rfl) (by kernel_rfl) (by kernel_rfl) (fun _ _ _ h => h) (Or.inl ⟨by rfl, ?h207⟩) hS0 ?r207
      case h207 => (intro w hw; obtain ⟨q0, q1, q2, q3, q4⟩ := hw; go_simp; try (with_reducible rfl))
      try simp only [Act.put, zA, zB, zC]
      refine takeQ (some 67) (i := 12) (v := ?v208) rfl rfl (by kernel_rfl) (by kernel_rfl) (by kernel_rfl) (fun _ _ _ h => h) (Or.inl ⟨by rfl, ?h208⟩) hS0 ?r208
      case h208 => (intro w hw; obtain ⟨q0, q1, q2, q3, q4⟩ := hw; go_simp; try (with_reducible rfl))
      try simp only [Act.put, zA, zB, zC]
      refine wpAnyH_ready (rs := [13]) (by kernel_rfl) (by simp) ?_
      refine AllReadyH.cons rfl ?_ AllReadyH.nil
      intro KK hKK
      go_simp
      have hZ := hY.setS false
      refine hKK.out _ _ hZ.s (fun _ => ?_)
      clear hKK KK
      refine wpAnyH_done (by kernel_rfl) ?_ _
      clear hX hY CK kd hc hf hS0
      go_wp2_with fail
      go_roundw
      case rel => exact ⟨k + 1, _, _, _, _, _, by omega, by go_num, HK1.out.1, HK1.out.2.1, HK1.out.2.2, hZ.o, hZ.s.1, hZ.r, hZ.b, hZ.z⟩
      case measure => simp [intOf]; omega
     ·have HK1 : Hid ((K ++ [(vx, keysOf l)]).map (·.2) = keysTo h (k + 1) ∧ (R ++ [(vy, rd)]).map (·.2) = readsTo h (k + 1) ∧ so = soundTo h (k + 1)) := hid HK0.out
      clear HK0
      refine wp_region_held_drew (S := SB (w2.heap.size + 1) w2.heap.size gx ts tb tc (.slice a2 l.length cap2)) (by kernel_rfl) hX.s.drew (fun hS0 => ?_)
      have hc0 := hX.o.cS
      refine takeQ (some 55) (i := 0) (v := ?v301) rfl rfl (by kernel_rfl) (by kernel_rfl) (by kernel_rfl) (fun _ _ _ h => h) (Or.inl ⟨by rfl, ?h301⟩) hS0 ?r301
      case h301 => (intro w hw; obtain ⟨q0, q1, q2, q3, q4⟩ := hw; go_simp; try (with_reducible rfl))
      try simp only [Act.put, zA, zB, zC]
      refine takeQ (some 56) (i := 1) (v := ?v302) rfl rfl (by kernel_rfl) (by kernel_rfl) (by kernel_rfl) (fun _ _ _ h => h) (Or.inl ⟨by rfl, ?h302⟩) hS0 ?r302
      case h302 => (intro w hw; obtain ⟨q0, q1, q2, q3, q4⟩ := hw; go_simp; try (with_reducible rfl))
      try simp only [Act.put, zA, zB, zC]
      refine takeQ (some 57) (i := 2) (v := ?v303) rfl rfl (by kernel_rfl) (by kernel_rfl) (by kernel_rfl) (fun _ _ _ h => h) (Or.inl ⟨by rfl, ?h303⟩) hS0 ?r303
      case h303 => (intro w hw; obtain ⟨q0, q1, q2, q3, q4⟩ := hw; go_simp; try (with_reducible rfl))
      try simp only [Act.put, zA, zB, zC]
      refine takeQ (some 58) (i := 3) (v := ?v304) rfl rfl (by kernel_rfl) (by kernel_rfl) (by kernel_rfl) (fun _ _ _ h => h) (Or.inl ⟨by rfl, ?h304⟩) hS0 ?r304
      case h304 => (intro w hw; obtain ⟨q0, q1, q2, q3, q4⟩ := hw; go_simp; try (with_reducible rfl))
      try simp only [Act.put, zA, zB, zC]
      refine wpAnyH_ready (rs := [4]) (by kernel_rfl) (by simp) ?_
      refine AllReadyH.cons rfl ?_ AllReadyH.nil
      intro KK hKK
      go_simp
      refine hKK.out _ _ hS0 (fun _ => ?_)
      clear hKK KK
      refine takeQ (some 60) (i := 5) (v := ?v305) rfl rfl (by kernel_rfl) (by kernel_rfl) (by kernel_rfl) (fun _ _ _ h => h) (Or.inl ⟨by rfl, ?h305⟩) hS0 ?r305
      case h305 => (intro w hw; obtain ⟨q0, q1, q2, q3, q4⟩ := hw; go_simp; try (with_reducible rfl))
      try simp only [Act.put, zA, zB, zC]
      refine takeQ (some 61) (i := 6) (v := ?v306) rfl rfl (by kernel_rfl) (by kernel_rfl) (by kernel_rfl) (fun _ _ _ h => h) (Or.inl ⟨by rfl, ?h306⟩) hS0 ?r306
      case h306 => (intro w hw; obtain ⟨q0, q1, q2, q3, q4⟩ := hw; go_simp; try (with_reducible rfl))
      try simp only [Act.put, zA, zB, zC]
      refine takeQ (some 62) (i := 7) (v := ?v307) rfl rfl (by kernel_rfl) (by kernel_rfl) (by kernel_rfl) (fun _ _ _ h => h) (Or.inl ⟨by rfl, ?h307⟩) hS0 ?r307
      case h307 => (intro w hw; obtain ⟨q0, q1, q2, q3, q4⟩ := hw; go_simp; try (with_reducible rfl))
      try simp only [Act.put, zA, zB, zC]
      refine takeQ (some 63) (i := 8) (v := ?v308) rfl rfl (by kernel_rfl) (by kernel_rfl) (by kernel_rfl) (fun _ _ _ h => h) (Or.inl ⟨by rfl, ?h308⟩) hS0 ?r308
      case h308 => (intro w hw; obtain ⟨q0, q1, q2, q3, q4⟩ := hw; go_simp; try (with_reducible rfl))
      try simp only [Act.put, zA, zB, zC]
      refine wpAnyH_ready (rs := [9]) (by kernel_rfl) (by simp) ?_
      refine AllReadyH.cons rfl ?_ AllReadyH.nil
      intro KK hKK
      go_simp
      refine (CK.out _ kd).mono ?_
      rintro e wx ⟨rfl, hbx⟩
      show KK _ _
      have kk := below_then kd hbx
      have hY := hX.below kk
      have hf := hY.o.free (i := 196) (by omega)
      have hc := hY.o.cS
      refine hKK.out _ _ hY.s (fun _ => ?_)
      clear hKK KK
      refine takeQ (some 65) (i := 10) (v := ?v309) rfl rfl (by kernel_rfl) (by kernel_rfl) (by kernel_rfl) (fun _ _ _ h => h) (Or.inl ⟨by rfl, ?h309⟩) hY.s ?r309
      case h309 => (intro w hw; obtain ⟨q0, q1, q2, q3, q4⟩ := hw; go_simp; try (with_reducible rfl))
      try simp only [Act.put, zA, zB, zC]
      refine takeQ (some 66) (i := 11) (v := ?v310) rfl rfl (by kernel_rfl) (by kernel_rfl) (by kernel_rfl) (fun _ _ _ h => h) (Or.inl ⟨by rfl, ?h310⟩) hY.s ?r310
      case h310 => (intro w hw; obtain ⟨q0, q1, q2, q3, q4⟩ := hw; go_simp; try (with_reducible rfl))
      try simp only [Act.put, zA, zB, zC]
      refine takeQ (some 67) (i := 12) (v := ?v311) rfl rfl (by kernel_rfl) (by kernel_rfl) (by kernel_rfl) (fun _ _ _ h => h) (Or.inl ⟨by rfl, ?h311⟩) hY.s ?r311
      case h311 => (intro w hw; obtain ⟨q0, q1, q2, q3, q4⟩ := hw; go_simp; try (with_reducible rfl))
      try simp only [Act.put, zA, zB, zC]
      refine wpAnyH_ready (rs := [13]) (by kernel_rfl) (by simp) ?_
      refine AllReadyH.cons rfl ?_ AllReadyH.nil
      intro KK hKK
      go_simp
      have hZ := hY.setS so
      refine hKK.out _ _ hZ.s (fun _ => ?_)
      clear hKK KK
      refine wpAnyH_done (by kernel_rfl) ?_ _
      clear hX hY CK kd hc hf hS0 kk hbx
      go_wp2_with fail
      go_roundw
      case rel => exact ⟨k + 1, _, _, _, _, _, by omega, by go_num, HK1.out.1, HK1.out.2.1, HK1.out.2.2, hZ.o, hZ.s.1, hZ.r, hZ.b, hZ.z⟩
      case measure => simp [intOf]; omega
  ·have hkl : k = h.length := by omega
   subst hkl
   have hA4 := (hb.cell (p := ⟨w.heap.size, 0, none⟩) hlt).trans hA2
   have hbw := below_then hb4 hb
   have hX : OfT w2 w.heap.size (.slice ao h.length cap) h.length noR noR noR (.map none) vk vr sd K R wr := ⟨hO, ⟨hC, hA4⟩, hF, hb, hlt⟩
   have hKl : K.length ≤ 64 := by have := congrArg List.length HK.out.1; simp [keysTo] at this; omega
   obtain ⟨aK, cK, rfl⟩ := owns_form hX.r.kr
   obtain ⟨aR, cR, rfl⟩ := owns_form hX.r.rr
   have HKE : Hid (∀ p ∈ K, p.2.length ≤ 64 ∧ ∀ x ∈ p.2, InI x) := hid (fun p hp => by
    have hm : p.2 ∈ keysTo h h.length := by rw [← HK.out.1]; exact List.mem_map.2 ⟨p, hp, rfl⟩
    unfold keysTo at hm
    obtain ⟨i, hi, he⟩ := List.mem_map.1 hm
    have hil := List.mem_range.1 hi
    rw [← he]
    unfold keysOf
    refine ⟨by rw [List.length_map]; exact upTo_len _ 64, fun x hx => ?_⟩
    obtain ⟨q, hq, rfl⟩ := List.mem_map.1 hx
    have hq2 := lastW_key ((((refWrites_rise (by rw [opsAt_eq hil]; exact HKS.out _ (List.getElem_mem hil))).2 q).1 hq).1)
    exact inI_of (((HOK.out _ (List.getElem_mem hil)).2 q (by rw [← opsAt_eq hil]; exact hq2.2.2)).1))
   have kd := (Below.refl wr.heap.size wr).drew
   have CWR : Hid (∀ wx, Below wr.heap.size wr wx → Calls Tryz.prog 56 #[.slice aK K.length cK] wx fun e w' => ∃ b n c, e = .returned (.map (some b)) ∧ wx.heap.size ≤ b ∧ MapI eS Tryz.prog 3 w' b n (wrsTo K K.length) c ∧ AllSet (wrsTo K K.length) ∧ Below wx.heap.size wx w') := hid (fun wx hx => owriters_any _ K wx ((hX.r.below hx).rws) (by omega) (fun p hp => by have := (HKE.out p hp).1; omega) (fun p hp => (HKE.out p hp).2))
   have hmf : ∀ (fn : Fn) (first cap : Array Value) (w : World), (Instr.makeFunc fn first cap).run Tryz.prog w = .ok (.func fn first cap) w := fun _ _ _ _ => rfl
   clear hO hC hF hb hA4 hbw
   go_wp2_with fail
   refine wp_region_held_drew (S := SA (w2.heap.size + 1) w2.heap.size w.heap.size (.slice ao h.length cap)) (by kernel_rfl) hX.drew.s (fun hS0 => ?_)
   have hc0 := hX.o.cK
   refine takeQ (some 69) (i := 0) (v := ?v401) rfl rfl (by kernel_rfl) (by kernel_rfl) (by kernel_rfl) (fun _ _ _ h => h) (Or.inl ⟨by rfl, ?h401⟩) hS0 ?r401
   case h401 => (intro w hw; obtain ⟨q0, q1⟩ := hw; go_simp; try (with_reducible rfl))
   try simp only [Act.put, zA, zB, zC]
   refine takeQ (some 70) (i := 1) (v := ?v402) rfl rfl (by kernel_rfl) (by kernel_rfl) (by kernel_rfl) (fun _ _ _ h => h) (Or.inl ⟨by rfl, ?h402⟩) hS0 ?r402
   case h402 => (intro w hw; obtain ⟨q0, q1⟩ := hw; go_simp; try (with_reducible rfl))
   try simp only [Act.put, zA, zB, zC]
   refine takeQ (some 71) (i := 2) (v := ?v403) rfl rfl (by kernel_rfl) (by kernel_rfl) (by kernel_rfl) (fun _ _ _ h => h) (Or.inl ⟨by rfl, ?h403⟩) hS0 ?r403
   case h403 => (intro w hw; obtain ⟨q0, q1⟩ := hw; go_simp; try (with_reducible rfl))
   try simp only [Act.put, zA, zB, zC]
   refine takeQ (some 72) (i := 3) (v := ?v404) rfl rfl (by kernel_rfl) (by kernel_rfl) (by kernel_rfl) (fun _ _ _ h => h) (Or.inl ⟨by rfl, ?h404⟩) hS0 ?r404
   case h404 => (intro w hw; obtain ⟨q0, q1⟩ := hw; go_simp; try (with_reducible rfl))
   try simp only [Act.put, zA, zB, zC]
   refine wpAnyH_ready (rs := [4]) (by kernel_rfl) (by simp) ?_
   refine AllReadyH.cons rfl ?_ AllReadyH.nil
   intro KK hKK
   go_simp
   refine hKK.out _ _ hS0 (fun _ => ?_)
   clear hKK KK
   refine wpAnyH_ready (rs := [5]) (by kernel_rfl) (by simp) ?_
   refine AllReadyH.cons rfl ?_ AllReadyH.nil
   intro KK hKK
   go_simp
   refine (CWR.out _ kd).mono ?_
   rintro e wx ⟨bw, nw, cw, rfl, hbw, hMw, hAw, hbx⟩
   show KK _ _
   have hY := hX.below (below_then kd hbx)
   have hbB : w2.heap.size < bw := by have h1 := hX.b.size; have h2 := hX.o.lt; have h3 := kd.size; omega
   have hf := hY.o.free (i := 193) (by omega)
   have hc := hY.o.cM
   refine hKK.out _ _ hY.s (fun _ => ?_)
   clear hKK KK
   refine takeQ (some 75) (i := 6) (v := ?v405) rfl rfl (by kernel_rfl) (by kernel_rfl) (by kernel_rfl) (fun _ _ _ h => h) (Or.inl ⟨by rfl, ?h405⟩) hY.s ?r405
   case h405 => (intro w hw; obtain ⟨q0, q1⟩ := hw; go_simp; try (with_reducible rfl))
   try simp only [Act.put, zA, zB, zC]
   refine takeQ (some 76) (i := 7) (v := ?v406) rfl rfl (by kernel_rfl) (by kernel_rfl) (by kernel_rfl) (fun _ _ _ h => h) (Or.inl ⟨by rfl, ?h406⟩) hY.s ?r406
   case h406 => (intro w hw; obtain ⟨q0, q1⟩ := hw; go_simp; try (with_reducible rfl))
   try simp only [Act.put, zA, zB, zC]
   refine wpAnyH_ready (rs := [8]) (by kernel_rfl) (by simp) ?_
   refine AllReadyH.cons rfl ?_ AllReadyH.nil
   intro KK hKK
   go_simp
   have hX13 := hY.setM (.map (some bw))
   have hM13 := hMw.cell (a := ⟨w2.heap.size, 193, none⟩) (by simp; omega) (.map (some bw))
   refine hKK.out _ _ hX13.s (fun _ => ?_)
   clear hKK KK
   refine wpAnyH_done (by kernel_rfl) ?_ _
   clear hX hY kd CWR hc hf hc0 hS0 hMw
   generalize wx.setCell ⟨w2.heap.size, 193, none⟩ (.map (some bw)) = w3 at *
   have hX := hX13
   have hM3 := hM13
   clear hX13 hM13
   have kd := (Below.refl w3.heap.size w3).drew
   have CP : Hid (∀ wx, Below w3.heap.size w3 wx → Calls Tryz.prog 57 #[.int .i64 h.length, .func (.func 58) #[] #[.pointer (some ⟨w.heap.size, 0, none⟩)]] wx fun e w' => e = .returned (.agg (rowsA (sesM h))) ∧ Below wx.heap.size wx w') := hid (fun wx hx => pairs_any (sesP h) h.length (by omega) _ _ wx enters_ses (fun a b wy ha hb hy => ses_calls _ h _ a b wy ((hX.below (below_then hx hy)).s.2) (HT.out _ (below_then hb4 (hX.below (below_then hx hy)).b)) ha hb))
   go_wp2_with fail
   refine wp_region_held_drew (S := SA (w2.heap.size + 1) w2.heap.size w.heap.size (.slice ao h.length cap)) (by kernel_rfl) hX.drew.s (fun hS0 => ?_)
   refine takeQ (some 77) (i := 0) (v := ?v501) rfl rfl (by kernel_rfl) (by kernel_rfl) (by kernel_rfl) (fun _ _ _ h => h) (Or.inl ⟨by rfl, ?h501⟩) hS0 ?r501
   case h501 => (intro w hw; obtain ⟨q0, q1⟩ := hw; go_simp; try (with_reducible rfl))
   try simp only [Act.put, zA, zB, zC]
   refine takeQ (some 78) (i := 1) (v := ?v502) rfl rfl (by kernel_rfl) (by kernel_rfl) (by kernel_rfl) (fun _ _ _ h => h) (Or.inl ⟨by rfl, ?h502⟩) hS0 ?r502
   case h502 => (intro w hw; obtain ⟨q0, q1⟩ := hw; go_simp; try (with_reducible rfl))
   try simp only [Act.put, zA, zB, zC]
   refine takeQ (some 79) (i := 2) (v := ?v503) rfl rfl (by kernel_rfl) (by kernel_rfl) (by kernel_rfl) (fun _ _ _ h => h) (Or.inl ⟨by rfl, ?h503⟩) hS0 ?r503
   case h503 => (intro w hw; obtain ⟨q0, q1⟩ := hw; go_simp; try (with_reducible rfl))
   try simp only [Act.put, zA, zB, zC]
   refine takeQ (some 80) (i := 3) (v := ?v504) rfl rfl (by kernel_rfl) (by kernel_rfl) (by kernel_rfl) (fun _ _ _ h => h) (Or.inl ⟨by rfl, ?h504⟩) hS0 ?r504
   case h504 => (intro w hw; obtain ⟨q0, q1⟩ := hw; go_simp; try (with_reducible rfl))
   try simp only [Act.put, zA, zB, zC]
   refine wpAnyH_ready (rs := [4]) (by kernel_rfl) (by simp) ?_
   refine AllReadyH.cons rfl ?_ AllReadyH.nil
   intro KK hKK
   go_simp
   refine (CP.out _ kd).mono ?_
   rintro e wx ⟨rfl, hbx⟩
   show KK _ _
   have kk := below_then kd hbx
   have hY := hX.below kk
   have hMY := hM3.below kk
   refine hKK.out _ _ hY.s (fun _ => ?_)
   clear hKK KK
   refine takeQ (some 82) (i := 5) (v := ?v505) rfl rfl (by kernel_rfl) (by kernel_rfl) (by kernel_rfl) (fun _ _ _ h => h) (Or.inl ⟨by rfl, ?h505⟩) hY.s ?r505
   case h505 => (intro w hw; obtain ⟨q0, q1⟩ := hw; go_simp; try (with_reducible rfl))
   try simp only [Act.put, List.setIfInBounds_toArray]
   refine takeQ (some 83) (i := 6) (v := ?v506) rfl rfl (by kernel_rfl) (by kernel_rfl) (by kernel_rfl) (fun _ _ _ h => h) (Or.inl ⟨by rfl, ?h506⟩) hY.s ?r506
   case h506 => (intro w hw; obtain ⟨q0, q1⟩ := hw; go_simp; try (with_reducible rfl))
   try simp only [Act.put]
   refine wpAnyH_ready (rs := [7]) (by kernel_rfl) (by simp) ?_
   refine AllReadyH.cons rfl ?_ AllReadyH.nil
   intro KK hKK
   rw [if_pos (by rfl)]
   refine wp_store_mid 108 (.tmp 83) (.tmp 81) rfl w2.heap.size 1 (rowsA (sesM h)) rfl rfl (by rw [rowsA_size]; exact hY.o.there 1 (by omega)) (infoRel' _) (rows_one _) ?_
   have hXn := hY.setS (sesM h)
   have hMn := MapI.cells (g := w2.heap.size) (by omega) (rowsA (sesM h)).toList 1 _ hMY
   refine hKK.out _ _ hXn.s (fun _ => ?_)
   clear hKK KK
   refine wpAnyH_done (by kernel_rfl) ?_ _
   clear hX hM3 hY kd CP hS0 hMY kk hbx
   generalize wx.setCells w2.heap.size 1 (rowsA (sesM h)).toList = w3 at *
   have hX := hXn
   have hM3 := hMn
   clear hXn hMn
   have kd := (Below.refl w3.heap.size w3).drew
   have CP : Hid (∀ wx, Below w3.heap.size w3 wx → Calls Tryz.prog 57 #[.int .i64 h.length, .func (.func 59) #[] #[.pointer (some ⟨w.heap.size, 0, none⟩)]] wx fun e w' => e = .returned (.agg (rowsA (timM h))) ∧ Below wx.heap.size wx w') := hid (fun wx hx => pairs_any (timP h) h.length (by omega) _ _ wx enters_tim (fun a b wy ha hb hy => tim_calls _ h _ a b wy ((hX.below (below_then hx hy)).s.2) (HT.out _ (below_then hb4 (hX.below (below_then hx hy)).b)) ha hb))
   go_wp2_with fail
   refine wp_region_held_drew (S := SA (w2.heap.size + 1) w2.heap.size w.heap.size (.slice ao h.length cap)) (by kernel_rfl) hX.drew.s (fun hS0 => ?_)
   refine takeQ (some 84) (i := 0) (v := ?v601) rfl rfl (by kernel_rfl) (by kernel_rfl) (by kernel_rfl) (fun _ _ _ h => h) (Or.inl ⟨by rfl, ?h601⟩) hS0 ?r601
   case h601 => (intro w hw; obtain ⟨q0, q1⟩ := hw; go_simp; try (with_reducible rfl))
   try simp only [Act.put, zA, zB, zC]
   refine takeQ (some 85) (i := 1) (v := ?v602) rfl rfl (by kernel_rfl) (by kernel_rfl) (by kernel_rfl) (fun _ _ _ h => h) (Or.inl ⟨by rfl, ?h602⟩) hS0 ?r602
   case h602 => (intro w hw; obtain ⟨q0, q1⟩ := hw; go_simp; try (with_reducible rfl))
   try simp only [Act.put]
   refine takeQ (some 86) (i := 2) (v := ?v603) rfl rfl (by kernel_rfl) (by kernel_rfl) (by kernel_rfl) (fun _ _ _ h => h) (Or.inl ⟨by rfl, ?h603⟩) hS0 ?r603
   case h603 => (intro w hw; obtain ⟨q0, q1⟩ := hw; go_simp; try (with_reducible rfl))
   try simp only [Act.put]
   refine takeQ (some 87) (i := 3) (v := ?v604) rfl rfl (by kernel_rfl) (by kernel_rfl) (by kernel_rfl) (fun _ _ _ h => h) (Or.inl ⟨by rfl, ?h604⟩) hS0 ?r604
   case h604 => (intro w hw; obtain ⟨q0, q1⟩ := hw; go_simp; try (with_reducible rfl))
   try simp only [Act.put]
   refine wpAnyH_ready (rs := [4]) (by kernel_rfl) (by simp) ?_
   refine AllReadyH.cons rfl ?_ AllReadyH.nil
   intro KK hKK
   go_simp
   refine (CP.out _ kd).mono ?_
   rintro e wx ⟨rfl, hbx⟩
   show KK _ _
   have kk := below_then kd hbx
   have hY := hX.below kk
   have hMY := hM3.below kk
   refine hKK.out _ _ hY.s (fun _ => ?_)
   clear hKK KK
   refine takeQ (some 89) (i := 5) (v := ?v605) rfl rfl (by kernel_rfl) (by kernel_rfl) (by kernel_rfl) (fun _ _ _ h => h) (Or.inl ⟨by rfl, ?h605⟩) hY.s ?r605
   case h605 => (intro w hw; obtain ⟨q0, q1⟩ := hw; go_simp; try (with_reducible rfl))
   try simp only [Act.put, List.setIfInBounds_toArray]
   refine takeQ (some 90) (i := 6) (v := ?v606) rfl rfl (by kernel_rfl) (by kernel_rfl) (by kernel_rfl) (fun _ _ _ h => h) (Or.inl ⟨by rfl, ?h606⟩) hY.s ?r606
   case h606 => (intro w hw; obtain ⟨q0, q1⟩ := hw; go_simp; try (with_reducible rfl))
   try simp only [Act.put]
   refine wpAnyH_ready (rs := [7]) (by kernel_rfl) (by simp) ?_
   refine AllReadyH.cons rfl ?_ AllReadyH.nil
   intro KK hKK
   rw [if_pos (by rfl)]
   refine wp_store_mid 108 (.tmp 90) (.tmp 88) rfl w2.heap.size 65 (rowsA (timM h)) rfl rfl (by rw [rowsA_size]; exact hY.o.there 65 (by omega)) (infoRel' _) (rows_one _) ?_
   have hXn := hY.setT (timM h)
   have hMn := MapI.cells (g := w2.heap.size) (by omega) (rowsA (timM h)).toList 65 _ hMY
   refine hKK.out _ _ hXn.s (fun _ => ?_)
   clear hKK KK
   refine wpAnyH_done (by kernel_rfl) ?_ _
   clear hX hM3 hY kd CP hS0 hMY kk hbx
   generalize wx.setCells w2.heap.size 65 (rowsA (timM h)).toList = w3 at *
   have hX := hXn
   have hM3 := hMn
   clear hXn hMn
   have kd := (Below.refl w3.heap.size w3).drew
   have CP : Hid (∀ wx, Below w3.heap.size w3 wx → Calls Tryz.prog 57 #[.int .i64 h.length, .func (.func 60) #[] #[.pointer (some ⟨w2.heap.size + 1, 0, none⟩)]] wx fun e w' => e = .returned (.agg (rowsA (froM h))) ∧ Below wx.heap.size wx w') := hid (fun wx hx => pairs_any (froP h) h.length (by omega) _ _ wx enters_fro (fun a b wy ha hb hy => fro_calls _ h R _ _ a b wy ((hX.below (below_then hx hy)).s.1) ((hX.below (below_then hx hy)).o.cR) ((hX.below (below_then hx hy)).r.frws) HK.out.2.1 hb))
   go_wp2_with fail
   refine wp_region_held_drew (S := SA (w2.heap.size + 1) w2.heap.size w.heap.size (.slice ao h.length cap)) (by kernel_rfl) hX.drew.s (fun hS0 => ?_)
   refine takeQ (some 91) (i := 0) (v := ?v701) rfl rfl (by kernel_rfl) (by kernel_rfl) (by kernel_rfl) (fun _ _ _ h => h) (Or.inl ⟨by rfl, ?h701⟩) hS0 ?r701
   case h701 => (intro w hw; obtain ⟨q0, q1⟩ := hw; go_simp; try (with_reducible rfl))
   try simp only [Act.put, zA, zB, zC]
   refine takeQ (some 92) (i := 1) (v := ?v702) rfl rfl (by kernel_rfl) (by kernel_rfl) (by kernel_rfl) (fun _ _ _ h => h) (Or.inl ⟨by rfl, ?h702⟩) hS0 ?r702
   case h702 => (intro w hw; obtain ⟨q0, q1⟩ := hw; go_simp; try (with_reducible rfl))
   try simp only [Act.put]
   refine takeQ (some 93) (i := 2) (v := ?v703) rfl rfl (by kernel_rfl) (by kernel_rfl) (by kernel_rfl) (fun _ _ _ h => h) (Or.inl ⟨by rfl, ?h703⟩) hS0 ?r703
   case h703 => (intro w hw; obtain ⟨q0, q1⟩ := hw; go_simp; try (with_reducible rfl))
   try simp only [Act.put]
   refine takeQ (some 94) (i := 3) (v := ?v704) rfl rfl (by kernel_rfl) (by kernel_rfl) (by kernel_rfl) (fun _ _ _ h => h) (Or.inl ⟨by rfl, ?h704⟩) hS0 ?r704
   case h704 => (intro w hw; obtain ⟨q0, q1⟩ := hw; go_simp; try (with_reducible rfl))
   try simp only [Act.put]
   refine wpAnyH_ready (rs := [4]) (by kernel_rfl) (by simp) ?_
   refine AllReadyH.cons rfl ?_ AllReadyH.nil
   intro KK hKK
   go_simp
   refine (CP.out _ kd).mono ?_
   rintro e wx ⟨rfl, hbx⟩
   show KK _ _
   have kk := below_then kd hbx
   have hY := hX.below kk
   have hMY := hM3.below kk
   refine hKK.out _ _ hY.s (fun _ => ?_)
   clear hKK KK
   refine takeQ (some 96) (i := 5) (v := ?v705) rfl rfl (by kernel_rfl) (by kernel_rfl) (by kernel_rfl) (fun _ _ _ h => h) (Or.inl ⟨by rfl, ?h705⟩) hY.s ?r705
   case h705 => (intro w hw; obtain ⟨q0, q1⟩ := hw; go_simp; try (with_reducible rfl))
   try simp only [Act.put, List.setIfInBounds_toArray]
   refine takeQ (some 97) (i := 6) (v := ?v706) rfl rfl (by kernel_rfl) (by kernel_rfl) (by kernel_rfl) (fun _ _ _ h => h) (Or.inl ⟨by rfl, ?h706⟩) hY.s ?r706
   case h706 => (intro w hw; obtain ⟨q0, q1⟩ := hw; go_simp; try (with_reducible rfl))
   try simp only [Act.put]
   refine wpAnyH_ready (rs := [7]) (by kernel_rfl) (by simp) ?_
   refine AllReadyH.cons rfl ?_ AllReadyH.nil
   intro KK hKK
   rw [if_pos (by rfl)]
   refine wp_store_mid 108 (.tmp 97) (.tmp 95) rfl w2.heap.size 129 (rowsA (froM h)) rfl rfl (by rw [rowsA_size]; exact hY.o.there 129 (by omega)) (infoRel' _) (rows_one _) ?_
   have hXn := hY.setF (froM h)
   have hMn := MapI.cells (g := w2.heap.size) (by omega) (rowsA (froM h)).toList 129 _ hMY
   refine hKK.out _ _ hXn.s (fun _ => ?_)
   clear hKK KK
   refine wpAnyH_done (by kernel_rfl) ?_ _
   clear hX hM3 hY kd CP hS0 hMY kk hbx
   generalize wx.setCells w2.heap.size 129 (rowsA (froM h)).toList = w3 at *
   have hq := hXn.s.1
   go_wp2_with fail
   go_ret2
   exact ⟨⟨_, rfl, by have := hb4.size; omega, _, _, _, _, _, K, R, HK.out.2.2 ▸ hXn.o, hMn, hAw, hXn.r, HK.out.1, HK.out.2.1⟩, below_then hb4 hXn.b⟩
end

section
open Go.RowKit
def decW (h : List TxnV) (lv : Int) : List Int × List (List Int) × Bool := match (decN h lv).1 with
 | none => ([], [], false)
 | some r => (r.reverse.map Int.ofNat, seesL (seesR h (clI ((askN lv : Nat) : Int)) r) h.length, true)
theorem decW_yes (h : List TxnV) (lv : Int) : (decW h lv).2.2 = (decN h lv).1.isSome := by
 unfold decW
 cases (decN h lv).1 <;> rfl
section
variable {w0 w : World} {B b : Nat} {h : List TxnV}
theorem sdecide_no (lv : Int) (T F U : Nat) (hO : OrdIs w0 B b h) (ht : Tab w0) (hK : Kinds w0) (hc : checkI h = 0) (hb : Below w0.heap.size w0 w) (hT : w0.heap.size ≤ T) (hm : MtAt w T F U)
  (hM : (decN h lv).2.2 + 2 ≤ 1099511627776) (hl : ¬ Lasts F U (decN h lv).2.2) :
  Calls Tryz.prog 96 #[.pointer (some ⟨B, 0, none⟩), .int .i64 lv, .pointer (some ⟨T, 0, none⟩)] w fun e w' =>
   e = .returned (.tuple #[.agg #[.slice none 0 0, .slice none 0 0], .bool false, .int .i64 4]) ∧ MtAt w' T F F ∧ w.grownBy w' (some T) ∧ Below w0.heap.size w0 w' := by
 refine (sdecide_any lv T F U hO ht hK hc hb hT hm hM (fun e => (hl (.inl e)).elim)).mono ?_
 rintro e w' ⟨hg, hr⟩
 have hb' : Below w0.heap.size w0 w' := hb.grown hg hb.size (fun j hj => by cases hj; exact hT)
 rcases hr with ⟨hy, _⟩ | ⟨_, hm', rfl⟩
 ·exact (hl hy).elim
 ·exact ⟨rfl, hm', hg, hb'⟩
end
end

section
open Go.RowKit
def vecStep (h : List TxnV) (s : (Nat → Bool) × Nat) (l : Nat) : (Nat → Bool) × Nat := if opn s.1 l = true then (rSet s.1 l (decW h (l : Int)).2.2, s.2 + (decN h (l : Int)).2.2) else s
def vecTo (h : List TxnV) (j : Nat) : (Nat → Bool) × Nat := (List.range j).foldl (vecStep h) (noB, 0)
theorem vecTo_zero (h : List TxnV) : vecTo h 0 = (noB, 0) := rfl
theorem vecTo_succ (h : List TxnV) (j : Nat) : vecTo h (j + 1) = vecStep h (vecTo h j) j := by unfold vecTo; rw [List.range_succ, List.foldl_append]; rfl
theorem vecTo_open {h : List TxnV} {j : Nat} (ho : opn (vecTo h j).1 j = true) : vecTo h (j + 1) = (rSet (vecTo h j).1 j (decW h (j : Int)).2.2, (vecTo h j).2 + (decN h (j : Int)).2.2) := by rw [vecTo_succ]; unfold vecStep; rw [if_pos ho]
theorem vecTo_shut {h : List TxnV} {j : Nat} (ho : opn (vecTo h j).1 j = false) : vecTo h (j + 1) = vecTo h j := by rw [vecTo_succ]; unfold vecStep; rw [if_neg (by rw [ho]; simp)]
theorem vecTo_cost (h : List TxnV) {i : Nat} : ∀ {j}, i ≤ j → (vecTo h i).2 ≤ (vecTo h j).2
 | 0, hj => by have e : i = 0 := (by omega); subst e; exact Nat.le_refl _
 | j + 1, hj => by
  by_cases e : i = j + 1
  ·rw [e]; exact Nat.le_refl _
  ·have ih := vecTo_cost h (i := i) (j := j) (by omega)
   cases ho : opn (vecTo h j).1 j with
   | true => rw [vecTo_open ho]; exact Nat.le_trans ih (Nat.le_add_right _ _)
   | false => rw [vecTo_shut ho]; exact ih
end

section
open Go.RowKit
theorem tr_le : ∀ k, k ≤ 7 → trN k ≤ 20000 := by decide +kernel
end

section
open Go.RowKit
theorem decW_some {h : List TxnV} {lv : Int} (hc : checkI h = 0) : (decW h lv).2.2 = ((ordersN h.length).find? (keptL h lv)).isSome := by
 rw [decW_yes, ← dec_first hc, Option.isSome_map]
theorem decW_none (h : List TxnV) (lv : Int) : (decW h lv).2.2 = false → (decW h lv).1 = [] ∧ (decW h lv).2.1 = [] := by
 unfold decW
 cases (decN h lv).1 with
 | none => intro _; exact ⟨rfl, rfl⟩
 | some r => intro e; cases e
end

section
open Go.RowKit
theorem least_ex (h : List TxnV) (x : Nat) (L : List Int) : ∃ X : Mat, LeastIs h x L X := by
 classical
 exact ⟨fun i j => decide (Must (startM h (x : Int) (chainR L)) (chainR L) (trB x) (pfB x) i j), fun i j _ _ => by rw [decide_eq_true_eq]⟩
section
variable {h : List TxnV}
theorem kept_implied (hc : checkI h = 0) {a b : Int} (hi : impB a b = true) {L : List Nat} (hp : L.Perm (List.range h.length)) (hk : keptL h a L = true) : keptL h b L = true := by
 obtain ⟨X, hX⟩ := least_ex h (askN a) (L.map Int.ofNat)
 obtain ⟨Y, hY⟩ := least_ex h (askN b) (L.map Int.ofNat)
 rw [← kept_holds hc a hp hX] at hk
 have hnd : (L.map Int.ofNat).Nodup := nodup_ofNat (hp.nodup_iff.2 List.nodup_range)
 have h2 := least_holds (check_zero hc).1 (implied_holds hc hnd hk hi) hY
 rwa [kept_holds hc b hp hY] at h2
theorem dec_implied (hc : checkI h = 0) {a b : Int} (hi : impB a b = true) (hk : (decW h a).2.2 = true) : (decW h b).2.2 = true := by
 rw [decW_some hc] at hk ⊢
 rw [List.find?_isSome] at hk ⊢
 obtain ⟨L, hL, hk⟩ := hk
 exact ⟨L, hL, kept_implied hc hi (orders_perm hL) hk⟩
theorem opn_no {r : Nat → Bool} {l : Nat} (ho : opn r l = false) : ∃ k, k < l ∧ r k = false ∧ impB (l : Int) (k : Int) = true := by
 unfold opn opnTo at ho
 rw [List.all_eq_false] at ho
 obtain ⟨k, hk, hn⟩ := ho
 refine ⟨k, List.mem_range.1 hk, ?_⟩
 simpa using hn
theorem shut_no (hc : checkI h = 0) {r : Nat → Bool} {l : Nat} (hr : ∀ i, i < l → r i = (decW h (i : Int)).2.2) (ho : opn r l = false) : (decW h (l : Int)).2.2 = false := by
 obtain ⟨k, hk, h1, h2⟩ := opn_no ho
 cases e : (decW h (l : Int)).2.2 with
 | false => rfl
 | true =>
  have := dec_implied hc h2 e
  rw [← hr k hk, h1] at this
  cases this
theorem vec_row (hc : checkI h = 0) : ∀ j i, (vecTo h j).1 i = (decide (i < j) && (decW h (i : Int)).2.2)
 | 0, i => by simp [vecTo_zero, noB]
 | j + 1, i => by
  have ih := vec_row hc j
  cases ho : opn (vecTo h j).1 j with
  | true =>
   rw [vecTo_open ho]
   show rSet (vecTo h j).1 j _ i = _
   unfold rSet
   by_cases e : i = j
   ·subst e; simp
   ·rw [if_neg e, ih]
    congr 1
    rw [Bool.eq_iff_iff, decide_eq_true_eq, decide_eq_true_eq]; omega
  | false =>
   rw [vecTo_shut ho, ih]
   have hn := shut_no hc (r := (vecTo h j).1) (l := j) (fun i hi => by rw [ih, decide_eq_true hi, Bool.true_and]) ho
   by_cases e : i = j
   ·subst e; rw [hn]; simp
   ·congr 1
    rw [Bool.eq_iff_iff, decide_eq_true_eq, decide_eq_true_eq]; omega
theorem vec_bound (M : Nat) (hM : ∀ l : Nat, l < 12 → (decN h (l : Int)).2.2 ≤ M) : ∀ j, j ≤ 12 → (vecTo h j).2 ≤ j * M
 | 0, _ => by rw [vecTo_zero]; exact Nat.zero_le _
 | j + 1, hj => by
  have ih := vec_bound M hM j (by omega)
  have := hM j (by omega)
  rw [Nat.succ_mul]
  cases ho : opn (vecTo h j).1 j with
  | true => rw [vecTo_open ho]; show (vecTo h j).2 + _ ≤ _; omega
  | false => rw [vecTo_shut ho]; omega
end
def accV (h : List TxnV) (i : Nat) : Bool := (decW h (i : Int)).2.2
def vecF (r : Nat → Bool) (ws : Nat → Value × Value) (i : Nat) : Value := if i < 12 then .bool (r i) else if i % 2 = 0 then (ws ((i - 12) / 2)).1 else (ws ((i - 12) / 2)).2
def vecL (r : Nat → Bool) (ws : Nat → Value × Value) : List Value := (List.range 36).map (vecF r ws)
def wZ0 : Nat → Value × Value := fun _ => (.slice none 0 0, .slice none 0 0)
def updW (ws : Nat → Value × Value) (k : Nat) (u : Value × Value) : Nat → Value × Value := fun i => if i = k then u else ws i
theorem vecL_len (r : Nat → Bool) (ws : Nat → Value × Value) : (vecL r ws).length = 36 := by unfold vecL; simp
theorem vecL_at (r : Nat → Bool) (ws : Nat → Value × Value) {i : Nat} (hi : i < 36) : (vecL r ws)[i]? = some (vecF r ws i) := by unfold vecL; simp [hi]
theorem vecL_congr {r s : Nat → Bool} {ws : Nat → Value × Value} (h : ∀ i, i < 12 → r i = s i) : vecL r ws = vecL s ws := by
 unfold vecL
 refine List.map_congr_left fun i _ => ?_
 unfold vecF
 split
 ·rename_i e; rw [h i e]
 ·rfl
theorem vecL_one {r : Nat → Bool} {ws : Nat → Value × Value} (h : ∀ i, i < 12 → (ws i).1.oneCell' = true ∧ (ws i).2.oneCell' = true) : (vecL r ws).toArray.all (·.oneCell') = true := by
 refine all_oneCell_toArray fun v hv => ?_
 unfold vecL at hv
 obtain ⟨i, hi, rfl⟩ := List.mem_map.1 hv
 have hi := List.mem_range.1 hi
 unfold vecF
 split
 ·rfl
 ·split
  ·exact (h _ (by omega)).1
  ·exact (h _ (by omega)).2
def VecAt (w : World) (g : Nat) (r : Nat → Bool) (ws : Nat → Value × Value) : Prop := ∀ i, i < 36 → w.cell? ⟨g, i, none⟩ = some (vecF r ws i) ∧ w.frozen? ⟨g, i, none⟩ = false
section
variable {w w' : World} {g : Nat} {r : Nat → Bool} {ws : Nat → Value × Value}
theorem VecAt.lt (h : VecAt w g r ws) : g < w.heap.size := block_lt (h 0 (by omega)).1
theorem VecAt.below {B : Nat} (h : VecAt w g r ws) (hb : Below B w w') (hB : g < B) : VecAt w' g r ws := fun i hi => by
 rw [hb.cell (p := ⟨g, i, none⟩) hB, hb.frozen (p := ⟨g, i, none⟩) hB]; exact h i hi
theorem VecAt.grown {row : Option Nat} (h : VecAt w g r ws) (hg : w.grownBy w' row) (hne : some g ≠ row) : VecAt w' g r ws := fun i hi => by
 obtain ⟨h1, h2⟩ := h i hi
 have hb : w'.heap[g]? = w.heap[g]? := hg.block g h.lt hne
 refine ⟨by unfold World.cell? at *; rw [hb]; exact h1, by unfold World.frozen? at *; rw [hb]; exact h2⟩
theorem VecAt.made (w : World) (t : TypeId) (r : Nat → Bool) (ws : Nat → Value × Value) : VecAt (w.alloc (.cells (vecL r ws).toArray t)) w.heap.size r ws := fun i hi => by
 have hn := heap_alloc_new w (.cells (vecL r ws).toArray t)
 refine ⟨?_, frozen_of_row _ _ _ _ _ hn⟩
 rw [cell_of_row _ _ _ _ _ _ hn]
 simpa using vecL_at r ws hi
theorem VecAt.setR (h : VecAt w g r ws) {k : Nat} (hk : k < 12) (v : Bool) : VecAt (w.setCell ⟨g, k, none⟩ (.bool v)) g (rSet r k v) ws := fun i hi => by
 rw [World.frozen?_setCell]
 refine ⟨?_, (h i hi).2⟩
 by_cases e : i = k
 ·subst e
  rw [World.cell?_setCell_same _ _ _ (h i hi).1]
  unfold vecF rSet; rw [if_pos hk, if_pos rfl]
 ·rw [World.cell?_setCell_other _ _ _ _ (fun q => by injection q with q1 q2; exact e q2.symm), (h i hi).1]
  unfold vecF rSet
  split
  ·rfl
  ·rfl
theorem VecAt.setW (h : VecAt w g r ws) {k : Nat} (hk : k < 12) (x y : Value) : VecAt (w.setCells g (12 + 2 * k) [x, y]) g r (updW ws k (x, y)) := fun i hi => by
 have e : w.setCells g (12 + 2 * k) [x, y] = (w.setCell ⟨g, 12 + 2 * k, none⟩ x).setCell ⟨g, 12 + 2 * k + 1, none⟩ y := rfl
 rw [e, World.frozen?_setCell, World.frozen?_setCell]
 refine ⟨?_, (h i hi).2⟩
 by_cases e0 : i = 12 + 2 * k
 ·subst e0
  rw [World.cell?_setCell_other _ _ _ _ (fun q => by injection q with q1 q2; omega), World.cell?_setCell_same _ _ _ (h _ hi).1]
  unfold vecF updW
  rw [if_neg (by omega), if_pos (by omega), if_pos (by omega)]
 ·by_cases e1 : i = 12 + 2 * k + 1
  ·subst e1
   have hc : (w.setCell ⟨g, 12 + 2 * k, none⟩ x).cell? ⟨g, 12 + 2 * k + 1, none⟩ = some (vecF r ws (12 + 2 * k + 1)) := by
    rw [World.cell?_setCell_other _ _ _ _ (fun q => by injection q with q1 q2; omega)]; exact (h _ hi).1
   rw [World.cell?_setCell_same _ _ _ hc]
   unfold vecF updW
   rw [if_neg (by omega), if_neg (by omega), if_pos (by omega)]
  ·rw [World.cell?_setCell_other _ _ _ _ (fun q => by injection q with q1 q2; omega), World.cell?_setCell_other _ _ _ _ (fun q => by injection q with q1 q2; omega), (h i hi).1]
   unfold vecF updW
   split
   ·rfl
   ·rw [if_neg (show ¬ (i - 12) / 2 = k by omega)]
theorem VecAt.row (h : VecAt w g r ws) : w.rangeAt g 0 (rowB r).toList := fun j v hv => by
 have hj : j < 12 := by
  have := (List.getElem?_eq_some_iff.1 hv).1
  simpa [rowB] using this
 rw [Nat.zero_add, (h j (by omega)).1, ← hv]
 unfold vecF
 rw [if_pos hj]
 simp [rowB, hj]
theorem VecAt.all (h : VecAt w g r ws) : w.rangeAt g 0 (vecL r ws) := fun j v hv => by
 have hj : j < 36 := by
  have := (List.getElem?_eq_some_iff.1 hv).1
  rwa [vecL_len] at this
 rw [Nat.zero_add, (h j hj).1, ← hv, vecL_at r ws hj]
theorem VecAt.there (h : VecAt w g r ws) {o n : Nat} (ho : o + n ≤ 36) : w.there g o n := fun j hj => by
 obtain ⟨h1, h2⟩ := h (o + j) (by omega)
 exact ⟨by rw [h1]; rfl, h2⟩
theorem VecAt.put (h : VecAt w g r ws) (s : Nat → Bool) (us : Nat → Value × Value) : VecAt (w.setCells g 0 (vecL s us)) g s us := fun i hi => by
 rw [World.frozen?_setCells]
 refine ⟨?_, (h i hi).2⟩
 have := World.cell?_setCells_in g (vecL s us) 0 w (fun j hj => by rw [vecL_len] at hj; rw [Nat.zero_add, (h j hj).1]; rfl) i (by rw [vecL_len]; exact hi)
 rw [Nat.zero_add] at this
 rw [this]
 unfold vecL; simp
end
section
variable {w w' : World} {b0 : Nat} {vo vs : Value} {l : List Int} {LL : List (List Int)}
theorem OwnW.nil (w : World) (b0 : Nat) : OwnW w b0 (.slice none 0 0) (.slice none 0 0) [] [] := ⟨World.ownsRow_nil _ _ _ _, [], OwnK.nil _ _, rfl⟩
theorem OwnW.below (h : OwnW w b0 vo vs l LL) (hb : Below w.heap.size w w') : OwnW w' b0 vo vs l LL := by
 obtain ⟨h1, KL, h2, h3⟩ := h
 exact ⟨owns_below h1 hb, KL, h2.below hb, h3⟩
theorem OwnW.base {b1 : Nat} (h : OwnW w b0 vo vs l LL) (hb : b1 ≤ b0) : OwnW w b1 vo vs l LL := by
 obtain ⟨h1, KL, h2, h3⟩ := h
 exact ⟨own_base' h1 hb, KL, h2.base hb, h3⟩
theorem own_row_ne {e : TypeId} {s n T : Nat} {v : Value} {xs : List Value} (h : w.ownsRow b0 e s v n xs) (hT : T < b0) : v.ownBlock = none ∨ v.ownBlock ≠ some T := by
 rcases h.2 with ⟨rfl, _⟩ | ⟨g, cap, cur, rfl, _, _, _⟩
 ·exact .inl rfl
 ·right
  intro e
  have := (h.lt _ e).1
  omega
theorem OwnW.kept {T : Nat} (h : OwnW w b0 vo vs l LL) (hg : w.grownBy w' (some T)) (hT : T < b0) : OwnW w' b0 vo vs l LL := by
 obtain ⟨h1, KL, h2, h3⟩ := h
 exact ⟨World.ownsRow.kept h1 hg (own_row_ne h1 hT), KL, ⟨World.ownsRow.kept h2.kr hg (own_row_ne h2.kr hT), fun p hp => World.ownsRow.kept (h2.ke p hp) hg (own_row_ne (h2.ke p hp) hT)⟩, h3⟩
theorem OwnW.far (h : OwnW w b0 vo vs l LL) {p : Addr} (hp : p.block < b0) (u : Value) : OwnW (w.setCell p u) b0 vo vs l LL := by
 obtain ⟨h1, KL, h2, h3⟩ := h
 exact ⟨pl_far h1 hp u, KL, h2.far hp u, h3⟩
theorem OwnW.cells (h : OwnW w b0 vo vs l LL) {g : Nat} (hg : g < b0) (o : Nat) (xs : List Value) : OwnW (w.setCells g o xs) b0 vo vs l LL := by
 obtain ⟨h1, KL, h2, h3⟩ := h
 exact ⟨owns_cells hg xs o w h1, KL, ⟨owns_cells hg xs o w h2.kr, fun p hp => owns_cells hg xs o w (h2.ke p hp)⟩, h3⟩
theorem OwnW.form (h : OwnW w b0 vo vs l LL) : ∃ oo n oc so m sc, vo = .slice oo n oc ∧ vs = .slice so m sc := by
 obtain ⟨h1, KL, h2, _⟩ := h
 obtain ⟨oo, oc, e1⟩ := own_form h1
 obtain ⟨so, sc, e2⟩ := own_form h2.kr
 exact ⟨oo, _, oc, so, _, sc, e1, e2⟩
end
section
variable {w0 w : World} {B b : Nat} {h : List TxnV}
theorem sdecide_own (lv : Int) (T F U : Nat) (hO : OrdIs w0 B b h) (ht : Tab w0) (hK : Kinds w0) (hc : checkI h = 0) (hb : Below w0.heap.size w0 w) (hT : w0.heap.size ≤ T) (hm : MtAt w T F U)
  (hM : (decN h lv).2.2 + 2 ≤ 1099511627776) (hU : F = 4611686018427387904 → U + (decN h lv).2.2 ≤ 4611686018427387904) (hl : Lasts F U (decN h lv).2.2) :
  Calls Tryz.prog 96 #[.pointer (some ⟨B, 0, none⟩), .int .i64 lv, .pointer (some ⟨T, 0, none⟩)] w fun e w' =>
   ∃ vo vs, e = .returned (.tuple #[.agg #[vo, vs], .bool (decW h lv).2.2, .int .i64 0]) ∧ OwnW w' w.heap.size vo vs (decW h lv).1 (decW h lv).2.1 ∧ MtAt w' T F (U + (decN h lv).2.2) ∧ w.grownBy w' (some T) := by
 refine (sdecide_any lv T F U hO ht hK hc hb hT hm hM hU).mono ?_
 rintro e w' ⟨hg, hr⟩
 rcases hr with ⟨_, hm', hr⟩ | ⟨hn, _⟩
 ·rcases hr with ⟨hd, rfl⟩ | ⟨r, vo, vs, hd, _, _, rfl, _, _, hW⟩
  ·refine ⟨_, _, by rw [decW_yes, hd]; rfl, ?_, hm', hg⟩
   unfold decW; rw [hd]; exact OwnW.nil _ _
  ·refine ⟨vo, vs, by rw [decW_yes, hd]; rfl, ?_, hm', hg⟩
   unfold decW; rw [hd]; exact hW
 ·exact (hn hl).elim
end
theorem results_vec {fn : Func} {p u : Tmp} (h : fn.results = #[.cell p 44, .tmp u]) (tmps : Array Value) (w : World) (g : Nat) (r : Nat → Bool) (ws : Nat → Value × Value)
  (hp : tmps.getD p undef = .pointer (some ⟨g, 0, none⟩)) (hg : VecAt w g r ws) : (results fn tmps).run Tryz.prog w = .ok (.tuple #[.agg (vecL r ws).toArray, tmps.getD u undef]) w := by
 have hp' : tmps[p]?.getD undef = .pointer (some ⟨g, 0, none⟩) := by simpa using hp
 simp [results, h, hp', asAddr, run_loadVar_mid w g 0 44 (vecL r ws) _ hg.all Tryz.underlying44 rfl (by kernel_rfl)]
end

section
open Go.RowKit
theorem vec_zero : #[.bool false, .bool false, .bool false, .bool false, .bool false, .bool false, .bool false, .bool false, .bool false, .bool false, .bool false, .bool false, .slice none 0 0, .slice none 0 0, .slice none 0 0, .slice none 0 0, .slice none 0 0, .slice none 0 0, .slice none 0 0, .slice none 0 0, .slice none 0 0, .slice none 0 0, .slice none 0 0, .slice none 0 0, .slice none 0 0, .slice none 0 0, .slice none 0 0, .slice none 0 0, .slice none 0 0, .slice none 0 0, .slice none 0 0, .slice none 0 0, .slice none 0 0, .slice none 0 0, .slice none 0 0, .slice none 0 0] = (vecL noB wZ0).toArray := by kernel_rfl
theorem VecAt.zero (w : World) : VecAt (w.alloc (.cells #[.bool false, .bool false, .bool false, .bool false, .bool false, .bool false, .bool false, .bool false, .bool false, .bool false, .bool false, .bool false, .slice none 0 0, .slice none 0 0, .slice none 0 0, .slice none 0 0, .slice none 0 0, .slice none 0 0, .slice none 0 0, .slice none 0 0, .slice none 0 0, .slice none 0 0, .slice none 0 0, .slice none 0 0, .slice none 0 0, .slice none 0 0, .slice none 0 0, .slice none 0 0, .slice none 0 0, .slice none 0 0, .slice none 0 0, .slice none 0 0, .slice none 0 0, .slice none 0 0, .slice none 0 0, .slice none 0 0] 44)) w.heap.size noB wZ0 := by rw [vec_zero]; exact VecAt.made w _ noB wZ0
def VofRes (h : List TxnV) (F : Nat) (w : World) (e : Ending) (w' : World) : Prop :=
 Below w.heap.size w w' ∧ ((Lasts F 0 (vecTo h 12).2 ∧ ∃ ws, e = .returned (.tuple #[.agg (vecL (accV h) ws).toArray, .int .i64 0]) ∧ ∀ i, i < 12 → OwnW w' w.heap.size (ws i).1 (ws i).2 (decW h (i : Int)).1 (decW h (i : Int)).2.1) ∨
  (¬ Lasts F 0 (vecTo h 12).2 ∧ e = .returned (.tuple #[.agg (vecL noB wZ0).toArray, .int .i64 4])))
structure VecOn (h : List TxnV) (w : World) (g b0 k : Nat) (ws : Nat → Value × Value) (W : World) : Prop where
 at_ : VecAt W g (vecTo h k).1 ws
 own : ∀ i, i < 12 → OwnW W b0 (ws i).1 (ws i).2 (if i < k then (decW h (i : Int)).1 else []) (if i < k then (decW h (i : Int)).2.1 else [])
 bel : Below w.heap.size w W
section
variable {h : List TxnV} {w W W' : World} {g b0 k : Nat} {ws : Nat → Value × Value}
theorem VecOn.grown {T : Nat} (q : VecOn h w g b0 k ws W) (hg : W.grownBy W' (some T)) (hT : T < b0) (hgT : g ≠ T) (hw : w.heap.size ≤ T) : VecOn h w g b0 k ws W' :=
 ⟨q.at_.grown hg (fun e => hgT (Option.some.inj e)), fun i hi => (q.own i hi).kept hg hT, q.bel.grown hg q.bel.size (fun j hj => by cases hj; exact hw)⟩
theorem VecOn.below (q : VecOn h w g b0 k ws W) (hb : Below W.heap.size W W') : VecOn h w g b0 k ws W' := ⟨q.at_.below hb q.at_.lt, fun i hi => (q.own i hi).below hb, below_then q.bel hb⟩
theorem heap_three (w : World) (g k o : Nat) (a x y : Value) {j : Nat} (hj : j ≠ g) : ((w.setCell ⟨g, k, none⟩ a).setCells g o [x, y]).heap[j]? = w.heap[j]? := by
 have e : (w.setCell ⟨g, k, none⟩ a).setCells g o [x, y] = ((w.setCell ⟨g, k, none⟩ a).setCell ⟨g, o, none⟩ x).setCell ⟨g, o + 1, none⟩ y := rfl
 rw [e, Below.heap_setCell _ _ _ _ hj, Below.heap_setCell _ _ _ _ hj, Below.heap_setCell _ _ _ _ hj]
theorem VecAt.apart {r : Nat → Bool} (h : VecAt w g r ws) {g' : Nat} (hne : g ≠ g') (i o : Nat) (a x y : Value) : VecAt ((w.setCell ⟨g', i, none⟩ a).setCells g' o [x, y]) g r ws := fun j hj => by
 obtain ⟨h1, h2⟩ := h j hj
 have hb := heap_three w g' i o a x y hne
 exact ⟨by unfold World.cell? at *; rw [hb]; exact h1, by unfold World.frozen? at *; rw [hb]; exact h2⟩
theorem MtAt.apart {T F U : Nat} (h : MtAt w T F U) {g' : Nat} (hne : T ≠ g') (i o : Nat) (a x y : Value) : MtAt ((w.setCell ⟨g', i, none⟩ a).setCells g' o [x, y]) T F U := h.block (heap_three w g' i o a x y hne)
theorem VecOn.shut (q : VecOn h w g b0 k ws W) (hc : checkI h = 0) (ho : opn (vecTo h k).1 k = false) : VecOn h w g b0 (k + 1) ws W := by
 refine ⟨by rw [vecTo_shut ho]; exact q.at_, fun i hi => ?_, q.bel⟩
 have h1 := q.own i hi
 by_cases e : i < k
 ·rw [if_pos e] at h1; rw [if_pos e] at h1; rw [if_pos (show i < k + 1 by omega), if_pos (show i < k + 1 by omega)]; exact h1
 ·rw [if_neg e] at h1; rw [if_neg e] at h1
  by_cases e2 : i = k
  ·subst e2
   have hn := shut_no hc (r := (vecTo h i).1) (l := i) (fun j hj => by rw [vec_row hc, decide_eq_true hj, Bool.true_and]) ho
   obtain ⟨e3, e4⟩ := decW_none h (i : Int) hn
   rw [if_pos (show i < i + 1 by omega), if_pos (show i < i + 1 by omega), e3, e4]; exact h1
  ·rw [if_neg (show ¬ i < k + 1 by omega), if_neg (show ¬ i < k + 1 by omega)]; exact h1
theorem VecOn.more (q : VecOn h w g b0 k ws W) (hk : k < 12) (ho : opn (vecTo h k).1 k = true) (hgb : g < b0) (hgw : w.heap.size ≤ g) {vo vs : Value} (hW : OwnW W b0 vo vs (decW h (k : Int)).1 (decW h (k : Int)).2.1) :
  VecOn h w g b0 (k + 1) (updW ws k (vo, vs)) ((W.setCell ⟨g, k, none⟩ (.bool (decW h (k : Int)).2.2)).setCells g (12 + 2 * k) [vo, vs]) := by
 have hs : ∀ x y : Value, (W.setCells g (12 + 2 * k) [x, y]) = (W.setCell ⟨g, 12 + 2 * k, none⟩ x).setCell ⟨g, 12 + 2 * k + 1, none⟩ y := fun _ _ => rfl
 have ha := (q.at_.setR hk (decW h (k : Int)).2.2).setW hk vo vs
 have hf : ∀ {vo' vs' : Value} {l : List Int} {LL : List (List Int)}, OwnW W b0 vo' vs' l LL → OwnW ((W.setCell ⟨g, k, none⟩ (.bool (decW h (k : Int)).2.2)).setCells g (12 + 2 * k) [vo, vs]) b0 vo' vs' l LL := fun hq =>
  ((hq.far (p := ⟨g, k, none⟩) hgb _).far (p := ⟨g, 12 + 2 * k, none⟩) hgb vo).far (p := ⟨g, 12 + 2 * k + 1, none⟩) hgb vs
 refine ⟨by rw [vecTo_open ho]; exact ha, fun i hi => ?_, ?_⟩
 ·have h1 := q.own i hi
  unfold updW
  by_cases e2 : i = k
  ·subst e2
   rw [if_pos rfl, if_pos (show i < i + 1 by omega), if_pos (show i < i + 1 by omega)]
   exact hf hW
  ·rw [if_neg e2]
   by_cases e : i < k
   ·rw [if_pos e] at h1; rw [if_pos e] at h1; rw [if_pos (show i < k + 1 by omega), if_pos (show i < k + 1 by omega)]; exact hf h1
   ·rw [if_neg e] at h1; rw [if_neg e] at h1; rw [if_neg (show ¬ i < k + 1 by omega), if_neg (show ¬ i < k + 1 by omega)]; exact hf h1
 ·exact ((q.bel.setCell (p := ⟨g, k, none⟩) hgw _).setCell (p := ⟨g, 12 + 2 * k, none⟩) hgw vo).setCell (p := ⟨g, 12 + 2 * k + 1, none⟩) hgw vs
end
theorem vof_any {w0 w : World} {B b : Nat} {h : List TxnV} (much : Int) (F : Nat) (hF : fuelN much = F) (hO : OrdIs w0 B b h) (ht : Tab w0) (hK : Kinds w0) (hc : checkI h = 0) (hb : Below w0.heap.size w0 w) (hM : ∀ l : Nat, l < 12 → (decN h (l : Int)).2.2 + 2 ≤ 1099511627776) :
  Calls Tryz.prog 46 #[.pointer (some ⟨B, 0, none⟩), .int .i64 much] w fun e w' => VofRes h F w e w' := by
 have CN := hid (fun wx => fnew_any much wx)
 rw [hF] at CN
 have hw0 := hb.size
 have HB0 : Hid (∀ wx, Below w.heap.size w wx → Below w0.heap.size w0 wx) := hid (fun wx hx => hb.trans (hx.mono hb.size))
 have CO := hid (fun (r : Nat → Bool) (l : Nat) wx (hl : l ≤ 12) (hx : Below w.heap.size w wx) => vopen_any r l wx hl (hK.below (hb.trans (hx.mono hb.size))))
 have hbd : ∀ j, j ≤ 12 → (vecTo h j).2 ≤ j * 1099511627776 := vec_bound 1099511627776 (fun (l : Nat) hl => by have := hM l hl; omega)
 have CD := hid (fun (l : Nat) (T F : Nat) wx (hl : l < 12) (hx : Below w.heap.size w wx) (hT : w.heap.size ≤ T) hm (hla : Lasts F (vecTo h l).2 (decN h (l : Int)).2.2) => sdecide_own (w := wx) (l : Int) T F (vecTo h l).2 hO ht hK hc (hb.trans (hx.mono hb.size)) (Nat.le_trans hw0 hT) hm (hM l hl) (fun _ => by have h1 := hM l hl; have h2 := hbd l (by omega); have h3 : l * 1099511627776 ≤ 12 * 1099511627776 := Nat.mul_le_mul_right _ (by omega); omega) hla)
 have CZ := hid (fun (l : Nat) (T F : Nat) wx (hl : l < 12) (hx : Below w.heap.size w wx) (hT : w.heap.size ≤ T) hm (hla : ¬ Lasts F (vecTo h l).2 (decN h (l : Int)).2.2) => sdecide_no (w := wx) (l : Int) T F (vecTo h l).2 hO ht hK hc (hb.trans (hx.mono hb.size)) (Nat.le_trans hw0 hT) hm (hM l hl) hla)
 have HC := hid hc
 clear hO ht hK hc hb hM hbd hw0 hF
 go_enter Tryz.func46, Tryz.ntmps46
 go_upto_region 2 with fail
 have V1 := VecAt.zero w
 have V2 := VecAt.zero (w.alloc (.cells #[.bool false, .bool false, .bool false, .bool false, .bool false, .bool false, .bool false, .bool false, .bool false, .bool false, .bool false, .bool false, .slice none 0 0, .slice none 0 0, .slice none 0 0, .slice none 0 0, .slice none 0 0, .slice none 0 0, .slice none 0 0, .slice none 0 0, .slice none 0 0, .slice none 0 0, .slice none 0 0, .slice none 0 0, .slice none 0 0, .slice none 0 0, .slice none 0 0, .slice none 0 0, .slice none 0 0, .slice none 0 0, .slice none 0 0, .slice none 0 0, .slice none 0 0, .slice none 0 0, .slice none 0 0, .slice none 0 0] 44))
 have hs1 : (w.alloc (.cells #[.bool false, .bool false, .bool false, .bool false, .bool false, .bool false, .bool false, .bool false, .bool false, .bool false, .bool false, .bool false, .slice none 0 0, .slice none 0 0, .slice none 0 0, .slice none 0 0, .slice none 0 0, .slice none 0 0, .slice none 0 0, .slice none 0 0, .slice none 0 0, .slice none 0 0, .slice none 0 0, .slice none 0 0, .slice none 0 0, .slice none 0 0, .slice none 0 0, .slice none 0 0, .slice none 0 0, .slice none 0 0, .slice none 0 0, .slice none 0 0, .slice none 0 0, .slice none 0 0, .slice none 0 0, .slice none 0 0] 44)).heap.size = w.heap.size + 1 := by simp
 have hs2 : ((w.alloc (.cells #[.bool false, .bool false, .bool false, .bool false, .bool false, .bool false, .bool false, .bool false, .bool false, .bool false, .bool false, .bool false, .slice none 0 0, .slice none 0 0, .slice none 0 0, .slice none 0 0, .slice none 0 0, .slice none 0 0, .slice none 0 0, .slice none 0 0, .slice none 0 0, .slice none 0 0, .slice none 0 0, .slice none 0 0, .slice none 0 0, .slice none 0 0, .slice none 0 0, .slice none 0 0, .slice none 0 0, .slice none 0 0, .slice none 0 0, .slice none 0 0, .slice none 0 0, .slice none 0 0, .slice none 0 0, .slice none 0 0] 44)).alloc (.cells #[.bool false, .bool false, .bool false, .bool false, .bool false, .bool false, .bool false, .bool false, .bool false, .bool false, .bool false, .bool false, .slice none 0 0, .slice none 0 0, .slice none 0 0, .slice none 0 0, .slice none 0 0, .slice none 0 0, .slice none 0 0, .slice none 0 0, .slice none 0 0, .slice none 0 0, .slice none 0 0, .slice none 0 0, .slice none 0 0, .slice none 0 0, .slice none 0 0, .slice none 0 0, .slice none 0 0, .slice none 0 0, .slice none 0 0, .slice none 0 0, .slice none 0 0, .slice none 0 0, .slice none 0 0, .slice none 0 0] 44)).heap.size = w.heap.size + 1 + 1 := by simp
 rw [hs1] at V2
 have V1 := V1.below (box_below _ (.cells #[.bool false, .bool false, .bool false, .bool false, .bool false, .bool false, .bool false, .bool false, .bool false, .bool false, .bool false, .bool false, .slice none 0 0, .slice none 0 0, .slice none 0 0, .slice none 0 0, .slice none 0 0, .slice none 0 0, .slice none 0 0, .slice none 0 0, .slice none 0 0, .slice none 0 0, .slice none 0 0, .slice none 0 0, .slice none 0 0, .slice none 0 0, .slice none 0 0, .slice none 0 0, .slice none 0 0, .slice none 0 0, .slice none 0 0, .slice none 0 0, .slice none 0 0, .slice none 0 0, .slice none 0 0, .slice none 0 0] 44)) (by rw [hs1]; omega)
 have hb2 : Below w.heap.size w ((w.alloc (.cells #[.bool false, .bool false, .bool false, .bool false, .bool false, .bool false, .bool false, .bool false, .bool false, .bool false, .bool false, .bool false, .slice none 0 0, .slice none 0 0, .slice none 0 0, .slice none 0 0, .slice none 0 0, .slice none 0 0, .slice none 0 0, .slice none 0 0, .slice none 0 0, .slice none 0 0, .slice none 0 0, .slice none 0 0, .slice none 0 0, .slice none 0 0, .slice none 0 0, .slice none 0 0, .slice none 0 0, .slice none 0 0, .slice none 0 0, .slice none 0 0, .slice none 0 0, .slice none 0 0, .slice none 0 0, .slice none 0 0] 44)).alloc (.cells #[.bool false, .bool false, .bool false, .bool false, .bool false, .bool false, .bool false, .bool false, .bool false, .bool false, .bool false, .bool false, .slice none 0 0, .slice none 0 0, .slice none 0 0, .slice none 0 0, .slice none 0 0, .slice none 0 0, .slice none 0 0, .slice none 0 0, .slice none 0 0, .slice none 0 0, .slice none 0 0, .slice none 0 0, .slice none 0 0, .slice none 0 0, .slice none 0 0, .slice none 0 0, .slice none 0 0, .slice none 0 0, .slice none 0 0, .slice none 0 0, .slice none 0 0, .slice none 0 0, .slice none 0 0, .slice none 0 0] 44)) := below_then (box_below w (.cells #[.bool false, .bool false, .bool false, .bool false, .bool false, .bool false, .bool false, .bool false, .bool false, .bool false, .bool false, .bool false, .slice none 0 0, .slice none 0 0, .slice none 0 0, .slice none 0 0, .slice none 0 0, .slice none 0 0, .slice none 0 0, .slice none 0 0, .slice none 0 0, .slice none 0 0, .slice none 0 0, .slice none 0 0, .slice none 0 0, .slice none 0 0, .slice none 0 0, .slice none 0 0, .slice none 0 0, .slice none 0 0, .slice none 0 0, .slice none 0 0, .slice none 0 0, .slice none 0 0, .slice none 0 0, .slice none 0 0] 44)) (box_below _ (.cells #[.bool false, .bool false, .bool false, .bool false, .bool false, .bool false, .bool false, .bool false, .bool false, .bool false, .bool false, .bool false, .slice none 0 0, .slice none 0 0, .slice none 0 0, .slice none 0 0, .slice none 0 0, .slice none 0 0, .slice none 0 0, .slice none 0 0, .slice none 0 0, .slice none 0 0, .slice none 0 0, .slice none 0 0, .slice none 0 0, .slice none 0 0, .slice none 0 0, .slice none 0 0, .slice none 0 0, .slice none 0 0, .slice none 0 0, .slice none 0 0, .slice none 0 0, .slice none 0 0, .slice none 0 0, .slice none 0 0] 44))
 generalize (w.alloc (.cells #[.bool false, .bool false, .bool false, .bool false, .bool false, .bool false, .bool false, .bool false, .bool false, .bool false, .bool false, .bool false, .slice none 0 0, .slice none 0 0, .slice none 0 0, .slice none 0 0, .slice none 0 0, .slice none 0 0, .slice none 0 0, .slice none 0 0, .slice none 0 0, .slice none 0 0, .slice none 0 0, .slice none 0 0, .slice none 0 0, .slice none 0 0, .slice none 0 0, .slice none 0 0, .slice none 0 0, .slice none 0 0, .slice none 0 0, .slice none 0 0, .slice none 0 0, .slice none 0 0, .slice none 0 0, .slice none 0 0] 44)).alloc (.cells #[.bool false, .bool false, .bool false, .bool false, .bool false, .bool false, .bool false, .bool false, .bool false, .bool false, .bool false, .bool false, .slice none 0 0, .slice none 0 0, .slice none 0 0, .slice none 0 0, .slice none 0 0, .slice none 0 0, .slice none 0 0, .slice none 0 0, .slice none 0 0, .slice none 0 0, .slice none 0 0, .slice none 0 0, .slice none 0 0, .slice none 0 0, .slice none 0 0, .slice none 0 0, .slice none 0 0, .slice none 0 0, .slice none 0 0, .slice none 0 0, .slice none 0 0, .slice none 0 0, .slice none 0 0, .slice none 0 0] 44) = w2 at *
 clear hs1
 go_wp2_with fail
 refine (CN.out _).mono ?_
 rintro e w3 ⟨T, rfl, hm, hT, hb3⟩
 have hTl := hm.lt
 have q0 : VecOn h w (w.heap.size + 1) (T + 1) 0 wZ0 w3 := ⟨by rw [vecTo_zero]; exact V2.below hb3 (by omega), fun i _ => by rw [if_neg (by omega), if_neg (by omega)]; exact OwnW.nil _ _, below_then hb2 hb3⟩
 have V1 := V1.below hb3 (by omega)
 clear CN V2 hb2
 go_wp2_with fail
 go_loopw [14] (fun i wr => ∃ k : Nat, k ≤ 12 ∧ i = .int .i64 k ∧ ∃ ws, VecOn h w (w.heap.size + 1) (T + 1) k ws wr ∧ VecAt wr w.heap.size noB wZ0 ∧ MtAt wr T F (vecTo h k).2 ∧ Lasts F 0 (vecTo h k).2) (fun i _ => 12 - (intOf i).toNat)
 case atStart => exact ⟨0, by omega, rfl, wZ0, q0, V1, by rw [vecTo_zero]; exact hm, by
   rw [vecTo_zero]
   by_cases e : F = 4611686018427387904
   ·exact .inl e
   ·exact .inr (by omega)⟩
 case round =>
  obtain ⟨k, hk, rfl, ws, q, v1, hm, hla⟩ := hrel
  have hTl := hm.lt
  have hkq := q.at_.lt
  by_cases hlt : k < 12
  ·have hki : (k : Int) < 12 := by omega
   have hrow := q.at_.row
   have CO1 := hid (CO.out (vecTo h k).1 k wr (by omega) q.bel)
   cases ho : opn (vecTo h k).1 k with
   | false =>
    rw [ho] at CO1
    have HS := hid (q.shut HC.out ho)
    have HM : Hid (MtAt wr T F (vecTo h (k + 1)).2 ∧ Lasts F 0 (vecTo h (k + 1)).2) := hid (by rw [vecTo_shut ho]; exact ⟨hm, hla⟩)
    clear q hm hla ho CO CD CZ HC
    go_wp2_with (with_reducible refine wpList_load_mid rfl 38 _ rfl (w.heap.size + 1) 0 rfl (rowB (vecTo h k).1).toList _ hrow Tryz.underlying38 rfl (by kernel_rfl) ?_)
    refine CO1.out.mono ?_
    rintro e w4 ⟨rfl, h4⟩
    have HS4 := hid (HS.out.below h4)
    have HM4 := hid (HM.out.1.below h4 hTl)
    have v4 := v1.below h4 v1.lt
    have HLA := hid HM.out.2
    clear HS HM h4 v1 hrow CO1
    go_wp2_with fail
    go_roundw
    case rel => exact ⟨k + 1, by omega, by go_num, ws, HS4.out, v4, HM4.out, HLA.out⟩
    case measure => simp [intOf]; omega
   | true =>
    rw [ho] at CO1
    have HO := hid ho
    have Q := hid q
    have HM := hid hm
    have HLA := hid hla
    have HTT : Hid (w.heap.size ≤ T ∧ T ≠ w.heap.size + 1 ∧ T ≠ w.heap.size) := hid ⟨by omega, by omega, by omega⟩
    clear q hm hla ho
    go_wp2_with (with_reducible refine wpList_load_mid rfl 38 _ rfl (w.heap.size + 1) 0 rfl (rowB (vecTo h k).1).toList _ hrow Tryz.underlying38 rfl (by kernel_rfl) ?_)
    refine CO1.out.mono ?_
    rintro e w4 ⟨rfl, h4⟩
    have q4 := Q.out.below h4
    have hm4 := HM.out.below h4 hTl
    have v4 := v1.below h4 v1.lt
    clear hrow CO1 Q HM v1
    by_cases hl2 : Lasts F (vecTo h k).2 (decN h (k : Int)).2.2
    ·have CD1 := hid (CD.out k T F w4 hlt q4.bel HTT.out.1 hm4 hl2)
     have HL2 : Hid (Lasts F 0 (vecTo h (k + 1)).2) := hid (by
      rw [vecTo_open HO.out]
      rcases hl2 with e | e
      ·exact .inl e
      ·exact .inr (by show 0 + (_ + _) ≤ F; omega))
     have Q := hid q4
     have HT4 := hm4.lt
     clear q4 hm4 hl2 CO CD CZ HLA h4
     go_wp2_with fail
     refine CD1.out.mono ?_
     rintro e w5 ⟨vo, vs, rfl, hW, hm5, hg5⟩
     obtain ⟨oo, no, oc, so, ns, sc, rfl, rfl⟩ := hW.form
     have q5 := Q.out.grown hg5 (by omega) (by have := HTT.out.2.1; omega) HTT.out.1
     have v5 := v4.grown hg5 (fun e => by have := HTT.out.2.2; injection e; omega)
     have hW := hW.base (show T + 1 ≤ w4.heap.size by omega)
     have hbx := box_below w5 (.cells #[.slice oo no oc, .slice so ns sc] 41)
     have WT := WitT.made w5 (.slice oo no oc) (.slice so ns sc) 41
     have q6 := q5.below hbx
     have v6 := v5.below hbx v5.lt
     have hW := hW.below hbx
     have hm6 := hm5.below hbx hm5.lt
     have hs6 : (w5.alloc (.cells #[.slice oo no oc, .slice so ns sc] 41)).heap.size = w5.heap.size + 1 := by simp
     have hq5 := q5.at_.lt
     have hM6 : MtAt (w5.alloc (.cells #[.slice oo no oc, .slice so ns sc] 41)) T F (vecTo h (k + 1)).2 := by rw [vecTo_open HO.out]; exact hm6
     clear CD1 Q v4 hg5 hbx hm5 q5 v5 hm6
     go_upto_region 10 with fail
     generalize w5.alloc (.cells #[.slice oo no oc, .slice so ns sc] 41) = w6 at *
     generalize w5.heap.size = x5 at *
     have kd := (Below.refl w6.heap.size w6).drew
     have WT := WT.below kd
     have q7 := q6.below kd
     have v7 := v6.below kd v6.lt
     have hM7 := hM6.below kd hM6.lt
     have hW := hW.below kd
     have HQ := hid (q7.more hlt HO.out (by omega) (by omega) hW)
     have HV : Hid (VecAt w6.drew (w.heap.size + 1) (vecTo h k).1 ws) := hid q7.at_
     have HV7 := hid v7
     have HM7 := hid hM7
     have hd0 : decide ((k : Int) < 0) = false := decide_eq_false (by omega)
     have hd1 : decide ((12 : Int) ≤ (k : Int)) = false := decide_eq_false (by omega)
     have hd2 : decide (12 ≤ k) = false := decide_eq_false (by omega)
     clear hW q6 q7 v6 v7 hM6 hM7 kd
     refine wp_region_held_drew (S := fun wx => wx.cell? ⟨x5, 0, none⟩ = some (.slice oo no oc) ∧ wx.cell? ⟨x5, 1, none⟩ = some (.slice so ns sc)) (by kernel_rfl) ⟨WT.c0, WT.c1⟩ (fun hS0 => ?_)
     generalize w6.drew = wd at *
     refine tG (some 34) 0 ?vtv0x1 rfl rfl (Or.inl ⟨by rfl, ?htv0x1⟩) hS0 ?rtv0x1
     case htv0x1 => (intro w hw; obtain ⟨m0, m1⟩ := hw; go_simp; try (with_reducible rfl))
     try simp only [Act.put, zA, zB, zC]
     refine tG (some 35) 1 ?vtv1x2 rfl rfl (Or.inl ⟨by rfl, ?htv1x2⟩) hS0 ?rtv1x2
     case htv1x2 => (intro w hw; obtain ⟨m0, m1⟩ := hw; go_simp; try (with_reducible rfl))
     try simp only [Act.put, zA, zB, zC]
     refine tG (some 36) 2 ?vtv2x3 rfl rfl (Or.inl ⟨by rfl, ?htv2x3⟩) hS0 ?rtv2x3
     case htv2x3 => (intro w hw; obtain ⟨m0, m1⟩ := hw; go_simp; try (with_reducible rfl))
     try simp only [Act.put, zA, zB, zC]
     refine tG (some 37) 3 ?vtv3x4 rfl rfl (Or.inl ⟨by rfl, ?htv3x4⟩) hS0 ?rtv3x4
     case htv3x4 => (intro w hw; obtain ⟨m0, m1⟩ := hw; go_simp; try (with_reducible rfl))
     try simp only [Act.put, zA, zB, zC]
     refine tG (some 38) 4 ?vtv4x5 rfl rfl (Or.inl ⟨by rfl, ?htv4x5⟩) hS0 ?rtv4x5
     case htv4x5 => (intro w hw; obtain ⟨m0, m1⟩ := hw; go_simp; try (with_reducible rfl))
     try simp only [Act.put, zA, zB, zC]
     refine tG (some 39) 5 ?vtv5x6 rfl rfl (Or.inl ⟨by rfl, ?htv5x6⟩) hS0 ?rtv5x6
     case htv5x6 => (intro w hw; obtain ⟨m0, m1⟩ := hw; go_simp; try (with_reducible rfl))
     try simp only [Act.put, zA, zB, zC]
     refine tG (some 40) 7 ?vtv7x7 rfl rfl (Or.inl ⟨by rfl, ?htv7x7⟩) hS0 ?rtv7x7
     case htv7x7 => (intro w hw; obtain ⟨m0, m1⟩ := hw; go_simp; try (with_reducible rfl))
     try simp only [Act.put, zA, zB, zC]
     refine rD 6 rfl (fun K hK => ?_)
     have hc0 := (HV.out k (by omega)).1
     have hf0 := (HV.out k (by omega)).2
     go_simp
     have sA : (wd.setCell ⟨w.heap.size + 1, k, none⟩ (.bool (decW h (k : Int)).2.2)).cell? ⟨x5, 0, none⟩ = some (.slice oo no oc) ∧ (wd.setCell ⟨w.heap.size + 1, k, none⟩ (.bool (decW h (k : Int)).2.2)).cell? ⟨x5, 1, none⟩ = some (.slice so ns sc) := ⟨by rw [World.cell?_setCell_other _ _ _ _ (fun e => by injection e; omega)]; exact hS0.1, by rw [World.cell?_setCell_other _ _ _ _ (fun e => by injection e; omega)]; exact hS0.2⟩
     refine hK.out _ _ sA (fun _ => ?_)
     clear hK K hc0 hf0
     refine tG (some 41) 8 ?vtv8x9 rfl rfl (Or.inl ⟨by rfl, ?htv8x9⟩) sA ?rtv8x9
     case htv8x9 => (intro w hw; obtain ⟨m0, m1⟩ := hw; go_simp; try (with_reducible rfl))
     try simp only [Act.put, zA, zB, zC]
     refine rD 9 rfl (fun K hK => ?_)
     have hth : (wd.setCell ⟨w.heap.size + 1, k, none⟩ (.bool (decW h (k : Int)).2.2)).there (w.heap.size + 1) (12 + k * 2) 2 := fun j hj => by
      obtain ⟨q1, q2⟩ := (HV.out.setR hlt (decW h (k : Int)).2.2) (12 + k * 2 + j) (by omega)
      exact ⟨by rw [q1]; rfl, q2⟩
     refine wp_store_mid 41 _ _ rfl (w.heap.size + 1) (12 + k * 2) #[.slice oo no oc, .slice so ns sc] rfl rfl hth (by kernel_rfl) (by simp [Value.oneCell']) ?_
     have sB : ((wd.setCell ⟨w.heap.size + 1, k, none⟩ (.bool (decW h (k : Int)).2.2)).setCells (w.heap.size + 1) (12 + k * 2) [.slice oo no oc, .slice so ns sc]).cell? ⟨x5, 0, none⟩ = some (.slice oo no oc) ∧ ((wd.setCell ⟨w.heap.size + 1, k, none⟩ (.bool (decW h (k : Int)).2.2)).setCells (w.heap.size + 1) (12 + k * 2) [.slice oo no oc, .slice so ns sc]).cell? ⟨x5, 1, none⟩ = some (.slice so ns sc) := ⟨(World.cell?_setCells_out _ _ _ _ _ (fun hb _ => absurd hb (by show ¬ x5 = w.heap.size + 1; omega))).trans sA.1, (World.cell?_setCells_out _ _ _ _ _ (fun hb _ => absurd hb (by show ¬ x5 = w.heap.size + 1; omega))).trans sA.2⟩
     refine hK.out _ _ sB (fun _ => ?_)
     clear hK K hth
     refine wpAnyH_done (by kernel_rfl) ?_ _
     have h12 : 12 + k * 2 = 12 + 2 * k := by omega
     have HR : Hid (VecAt ((wd.setCell ⟨w.heap.size + 1, k, none⟩ (.bool (decW h (k : Int)).2.2)).setCells (w.heap.size + 1) (12 + k * 2) [.slice oo no oc, .slice so ns sc]) w.heap.size noB wZ0 ∧ MtAt ((wd.setCell ⟨w.heap.size + 1, k, none⟩ (.bool (decW h (k : Int)).2.2)).setCells (w.heap.size + 1) (12 + k * 2) [.slice oo no oc, .slice so ns sc]) T F (vecTo h (k + 1)).2) := hid ⟨HV7.out.apart (by omega) _ _ _ _ _, HM7.out.apart (by have := HTT.out.2.1; omega) _ _ _ _ _⟩
     rw [← h12] at HQ
     generalize (wd.setCell ⟨w.heap.size + 1, k, none⟩ (.bool (decW h (k : Int)).2.2)).setCells (w.heap.size + 1) (12 + k * 2) [.slice oo no oc, .slice so ns sc] = w8 at *
     go_wp2_with fail
     go_roundw
     case rel => exact ⟨k + 1, by omega, by go_num, _, HQ.out, HR.out.1, HR.out.2, HL2.out⟩
     case measure => simp [intOf]; omega
    ·have CZ1 := hid (CZ.out k T F w4 hlt q4.bel HTT.out.1 hm4 hl2)
     have HL2 : Hid (¬ Lasts F 0 (vecTo h 12).2) := hid (fun e => by
      have h1 := vecTo_cost h (i := k + 1) (j := 12) (by omega)
      rw [vecTo_open HO.out] at h1
      have h1 : (vecTo h k).2 + (decN h (k : Int)).2.2 ≤ (vecTo h 12).2 := h1
      rcases e with e | e
      ·exact hl2 (.inl e)
      ·exact hl2 (.inr (by omega)))
     have Q := hid q4
     clear q4 hm4 hl2 CO CD CZ HLA h4
     go_wp2_with fail
     refine CZ1.out.mono ?_
     rintro e w5 ⟨rfl, hm5, hg5, _⟩
     have q5 := Q.out.grown hg5 (by omega) (by have := HTT.out.2.1; omega) HTT.out.1
     have v5 := v4.grown hg5 (fun e => by have := HTT.out.2.2; injection e; omega)
     have hbx := box_below w5 (.cells #[.slice none 0 0, .slice none 0 0] 41)
     have HQB := hid (below_then q5.bel hbx)
     have v6 := v5.below hbx v5.lt
     clear CZ1 Q v4 hg5 hbx hm5 q5 v5
     go_upto_region 9 with fail
     generalize w5.alloc (.cells #[.slice none 0 0, .slice none 0 0] 41) = w6 at *
     have hth : w6.there w.heap.size 0 (#[.bool false, .bool false, .bool false, .bool false, .bool false, .bool false, .bool false, .bool false, .bool false, .bool false, .bool false, .bool false, .slice none 0 0, .slice none 0 0, .slice none 0 0, .slice none 0 0, .slice none 0 0, .slice none 0 0, .slice none 0 0, .slice none 0 0, .slice none 0 0, .slice none 0 0, .slice none 0 0, .slice none 0 0, .slice none 0 0, .slice none 0 0, .slice none 0 0, .slice none 0 0, .slice none 0 0, .slice none 0 0, .slice none 0 0, .slice none 0 0, .slice none 0 0, .slice none 0 0, .slice none 0 0, .slice none 0 0] : Array Value).size := v6.there (n := 36) (by omega)
     have hzl : vecL noB wZ0 = [.bool false, .bool false, .bool false, .bool false, .bool false, .bool false, .bool false, .bool false, .bool false, .bool false, .bool false, .bool false, .slice none 0 0, .slice none 0 0, .slice none 0 0, .slice none 0 0, .slice none 0 0, .slice none 0 0, .slice none 0 0, .slice none 0 0, .slice none 0 0, .slice none 0 0, .slice none 0 0, .slice none 0 0, .slice none 0 0, .slice none 0 0, .slice none 0 0, .slice none 0 0, .slice none 0 0, .slice none 0 0, .slice none 0 0, .slice none 0 0, .slice none 0 0, .slice none 0 0, .slice none 0 0, .slice none 0 0] := by kernel_rfl
     have HV9 := v6.put noB wZ0
     have HB9 : Below w.heap.size w (w6.setCells w.heap.size 0 (vecL noB wZ0)) := below_putC (Nat.le_refl _) _ _ _ HQB.out
     rw [hzl] at HV9 HB9
     have HV9 := hid HV9
     have HB9 := hid HB9
     have hone : (#[.bool false, .bool false, .bool false, .bool false, .bool false, .bool false, .bool false, .bool false, .bool false, .bool false, .bool false, .bool false, .slice none 0 0, .slice none 0 0, .slice none 0 0, .slice none 0 0, .slice none 0 0, .slice none 0 0, .slice none 0 0, .slice none 0 0, .slice none 0 0, .slice none 0 0, .slice none 0 0, .slice none 0 0, .slice none 0 0, .slice none 0 0, .slice none 0 0, .slice none 0 0, .slice none 0 0, .slice none 0 0, .slice none 0 0, .slice none 0 0, .slice none 0 0, .slice none 0 0, .slice none 0 0, .slice none 0 0] : Array Value).all (·.oneCell') = true := by simp [Value.oneCell']
     clear v6 hzl
     go_wp2_with (with_reducible refine wpList_store_mid rfl 44 _ _ rfl w.heap.size 0 #[.bool false, .bool false, .bool false, .bool false, .bool false, .bool false, .bool false, .bool false, .bool false, .bool false, .bool false, .bool false, .slice none 0 0, .slice none 0 0, .slice none 0 0, .slice none 0 0, .slice none 0 0, .slice none 0 0, .slice none 0 0, .slice none 0 0, .slice none 0 0, .slice none 0 0, .slice none 0 0, .slice none 0 0, .slice none 0 0, .slice none 0 0, .slice none 0 0, .slice none 0 0, .slice none 0 0, .slice none 0 0, .slice none 0 0, .slice none 0 0, .slice none 0 0, .slice none 0 0, .slice none 0 0, .slice none 0 0] rfl rfl hth (by kernel_rfl) hone ?_)
     exact bodyPost_ret (results_vec rfl _ _ _ noB wZ0 rfl HV9.out) rfl ⟨HB9.out, .inr ⟨HL2.out, rfl⟩⟩
  ·obtain rfl : k = 12 := by omega
   have hki : ¬ ((12 : Nat) : Int) < 12 := by omega
   have hall := q.at_.all
   have hth : wr.there w.heap.size 0 36 := v1.there (by omega)
   have HV9 := hid (v1.put (vecTo h 12).1 ws)
   have HB9 : Hid (Below w.heap.size w (wr.setCells w.heap.size 0 (vecL (vecTo h 12).1 ws))) := hid (below_putC (Nat.le_refl _) _ _ _ q.bel)
   have HO9 : Hid (∀ i, i < 12 → OwnW (wr.setCells w.heap.size 0 (vecL (vecTo h 12).1 ws)) w.heap.size (ws i).1 (ws i).2 (decW h (i : Int)).1 (decW h (i : Int)).2.1) := hid (fun i hi => by
    have h1 := q.own i hi
    rw [if_pos hi] at h1; rw [if_pos hi] at h1
    exact (h1.cells (g := w.heap.size) (by omega) 0 _).base (by omega))
   have HE9 : Hid (vecL (accV h) ws = vecL (vecTo h 12).1 ws) := hid (vecL_congr fun i hi => by rw [vec_row HC.out, decide_eq_true hi, Bool.true_and]; rfl)
   have hone : (vecL (vecTo h 12).1 ws).toArray.all (·.oneCell') = true := vecL_one fun i hi => by obtain ⟨_, _, _, _, _, _, e1, e2⟩ := (q.own i hi).form; rw [e1, e2]; exact ⟨rfl, rfl⟩
   have hth2 : wr.there w.heap.size 0 (vecL (vecTo h 12).1 ws).toArray.size := by rw [show (vecL (vecTo h 12).1 ws).toArray.size = 36 from vecL_len _ _]; exact hth
   have hinf : (Tryz.prog.info? 44).map (·.size) = some (vecL (vecTo h 12).1 ws).toArray.size := by rw [show (vecL (vecTo h 12).1 ws).toArray.size = 36 from vecL_len _ _]; kernel_rfl
   have hinf2 : (Tryz.prog.info? 44).map (·.size) = some (vecL (vecTo h 12).1 ws).length := by rw [vecL_len]; kernel_rfl
   go_wp2_with (first
    | (with_reducible refine wpList_load_mid rfl 44 _ rfl (w.heap.size + 1) 0 rfl (vecL (vecTo h 12).1 ws) _ hall Tryz.underlying44 rfl hinf2 ?_)
    | (with_reducible refine wpList_store_mid rfl 44 _ _ rfl w.heap.size 0 (vecL (vecTo h 12).1 ws).toArray rfl rfl hth2 hinf hone ?_))
   refine bodyPost_ret (results_vec rfl _ _ _ (vecTo h 12).1 ws rfl HV9.out) rfl ⟨HB9.out, .inl ⟨hla, ws, ?_, HO9.out⟩⟩
   rw [HE9.out]; rfl
end

section
open Go.RowKit
theorem guard_rowB (o : BinOp) (x y : Operand) (r s : Nat → Bool) (w : World) : Sem.run Tryz.prog (eqGuard o 38 x y (.agg (rowB r)) (.agg (rowB s))) w = .ok () w :=
 run_eqGuard_agg w o 38 x y _ _ (by kernel_rfl)
end

section
open Go.RowKit
def blw (xs : List Int) : Nat → Bool := fun b => xs.any fun a => impB a (b : Int)
def blwTo (r : Nat → Bool) (a : Int) (j : Nat) : Nat → Bool := fun b => if b < j then r b || impB a (b : Int) else r b
theorem blwTo_at (r : Nat → Bool) (a : Int) (j : Nat) : blwTo r a j j = r j := if_neg (by omega)
theorem blwTo_step (r : Nat → Bool) (a : Int) (j : Nat) : rSet (blwTo r a j) j (r j || impB a (j : Int)) = blwTo r a (j + 1) := by
 funext b
 unfold rSet blwTo
 by_cases h : b = j
 ·subst h; simp
 ·rw [if_neg h]
  by_cases h2 : b < j
  ·rw [if_pos h2, if_pos (by omega)]
  ·rw [if_neg h2, if_neg (by omega)]
theorem blw_step (xs : List Int) (k : Nat) (hk : k < xs.length) : rowB (blwTo (blw (xs.take k)) xs[k] 12) = rowB (blw (xs.take (k + 1))) := by
 apply rowB_congr
 intro i hi
 unfold blwTo
 rw [if_pos hi]
 unfold blw
 rw [List.take_succ_eq_append_getElem hk, List.any_append]; simp
theorem tbelow_any (v : Value) (xs : List Int) (w : World) (hK : Kinds w) (hI : Ints w v xs) : Calls Tryz.prog 71 #[v] w fun e w' => e = .returned (.agg (rowB (blw xs))) ∧ Below w.heap.size w w' := by
 obtain ⟨ao, cap, rfl, hlen⟩ := hI.form
 have HK := hid (fun wx (hb : Below w.heap.size w wx) => hK.below hb)
 have HI := hid (fun wx (hb : Below w.heap.size w wx) => hI.below hb)
 clear hK hI
 go_enter Tryz.func71, Tryz.ntmps71
 go_wp2_with fail
 go_loopw [9] (fun i wr => ∃ k : Nat, k ≤ xs.length ∧ i = .int .i64 k ∧ BRow wr (w.heap.size + 1) (blw (xs.take k)) ∧ BRow wr w.heap.size noB ∧ Below w.heap.size w wr) (fun i _ => xs.length - (intOf i).toNat)
 case atStart =>
  refine ⟨0, by omega, rfl, ?_, ?_, ?_⟩
  ·exact BRow.made _ _ (by simp) (rowB_none.symm.trans (rowB_congr fun i _ => rfl))
  ·exact (BRow.made w noB rfl rowB_none.symm).alloc _
  ·exact ((Below.refl w.heap.size w).alloc (Nat.le_refl _) _).alloc (by simp) _
 case round =>
  obtain ⟨k, hk, rfl, h1, h0, hb⟩ := hrel
  by_cases hlt : k < xs.length
  ·have hki : (k : Int) < (xs.length : Int) := by omega
   obtain ⟨g, o, hao, hc⟩ := (HI.out _ hb).at hlt
   cases hao
   have HN := hid (blw_step xs k hlt)
   generalize xs[k] = a at *
   generalize blw (xs.take k) = r at *
   go_wp2_with fail
   go_loopw [13] (fun i wx => ∃ j : Nat, j ≤ 12 ∧ i = .int .i64 j ∧ BRow wx (w.heap.size + 1) (blwTo r a j) ∧ BRow wx w.heap.size noB ∧ Below w.heap.size w wx) (fun i _ => 12 - (intOf i).toNat)
   case atStart => exact ⟨0, by omega, rfl, h1.congr (rowB_congr fun i _ => by unfold blwTo; rw [if_neg (by omega)]), h0, hb⟩
   case round =>
    clear h1 h0 hb hc
    obtain ⟨j, hj, rfl, h1, h0, hb⟩ := hrel
    by_cases hltj : j < 12
    ·have hkj : (j : Int) < 12 := by omega
     have hcj := h1.cell hltj
     have hfj := h1.free j
     rw [blwTo_at] at hcj
     have HS := hid (blwTo_step r a j)
     have HST := hid (fun v => h1.store j v)
     have H0 := hid (fun v => h0.other (k := ⟨w.heap.size + 1, j, none⟩) (by simp) v)
     have HB := hid (fun v => hb.setCell (p := ⟨w.heap.size + 1, j, none⟩) (by simp) v)
     have CI := hid (limp_any a (j : Int) wr (HK.out _ hb))
     clear h1 h0 hb
     generalize impB a (j : Int) = m at *
     cases hr : r j
     ·rw [hr] at hcj HS
      clear hr
      go_wp2_with (go_at_call 117; refine (CI.out).mono ?_; rintro e w' ⟨rfl, rfl⟩)
      go_roundw
      case rel => exact ⟨j + 1, by omega, by go_num, HS.out ▸ HST.out _, H0.out _, HB.out _⟩
      case measure => simp [intOf]; omega
     ·rw [hr] at hcj HS
      clear hr
      go_wp2_with fail
      go_roundw
      case rel => exact ⟨j + 1, by omega, by go_num, HS.out ▸ HST.out _, H0.out _, HB.out _⟩
      case measure => simp [intOf]; omega
    ·have hjn : j = 12 := by omega
     subst hjn
     have h2 := h1.congr HN.out
     go_wp2_with fail
     go_roundw
     case rel => exact ⟨k + 1, by omega, by go_num, h2, h0, hb⟩
     case measure => simp [intOf]; omega
  ·have hkn : k = xs.length := by omega
   subst hkn
   rw [List.take_length] at h1
   go_wp2_with (first
    | (with_reducible refine wpList_load_rowB h1 rfl _ rfl rfl ?_)
    | (with_reducible refine wpList_store_rowB h0 (blw xs) rfl _ _ rfl rfl rfl ?_))
   have h3 := h0.setRow (blw xs)
   exact bodyPost_ret (results_rowB rfl _ _ _ _ rfl h3) rfl ⟨rfl, below_setRow hb (by omega) _⟩
end

end Go.Proofs.YtnhkjehfmbfmmaaGreatDoor
