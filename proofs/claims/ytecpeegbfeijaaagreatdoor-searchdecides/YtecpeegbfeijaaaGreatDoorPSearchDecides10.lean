/- Walks and plain facts that the proof of the statement SearchDecides uses, joined: SeaH SeaI OrdL PlaN SeaJ SeaK LesC OrdAB AxhB AxhC BruJ BruP BruQ BruR BruU BruF. Conditions: each theorem's own. -/
import Derived.Deep.RegionHeld
import Derived.Deep.CutRange
import Derived.Deep.MidRow
import Derived.Deep.RegionHeld3
import Derived.Test.YtecpeegbfeijaaaGreatDoorPSearchDecides0
import Derived.Test.YtecpeegbfeijaaaGreatDoorPSearchDecides1
import Derived.Test.YtecpeegbfeijaaaGreatDoorPSearchDecides2
import Derived.Test.YtecpeegbfeijaaaGreatDoorPSearchDecides3
import Derived.Test.YtecpeegbfeijaaaGreatDoorPSearchDecides4
import Derived.Test.YtecpeegbfeijaaaGreatDoorPSearchDecides6
import Derived.Test.YtecpeegbfeijaaaGreatDoorPSearchDecides7
import Derived.Test.YtecpeegbfeijaaaGreatDoorPSearchDecides9
namespace Go.Proofs.YtecpeegbfeijaaaGreatDoor
set_option maxHeartbeats 32000000
set_option maxRecDepth 100000
open Lib (hid)
section
open Go.RowKit
def decN (h : List TxnV) (lv : Int) : Srch := if isLv lv = true ∧ soundTo h h.length = true then srch h (clI ((askN lv : Nat) : Int)) h.length h.length [] [] else (none, [], 0)
theorem dec_first {h : List TxnV} (hc : checkI h = 0) (lv : Int) : (decN h lv).1.map List.reverse = (ordersN h.length).find? (keptL h lv) := by
 rw [first_kept]
 unfold decN
 split
 ·rw [(srch_right hc rfl h.length [] [] RowG.nil (by simp) Bad.nil).1]
 ·rfl
theorem dec_tries (h : List TxnV) (lv : Int) : (decN h lv).2.2 ≤ trN h.length := by
 unfold decN
 split
 ·exact srch_tries h.length [] [] List.nodup_nil (fun _ hi => (by cases hi)) (by simp) rfl
 ·exact Nat.zero_le _
def SdRes (h : List TxnV) (lv : Int) (T F U : Nat) (w : World) (e : Ending) (w' : World) : Prop :=
 w.grownBy w' (some T) ∧
  ((Lasts F U (decN h lv).2.2 ∧ MtAt w' T F (U + (decN h lv).2.2) ∧
    (((decN h lv).1 = none ∧ e = .returned (.tuple #[.agg #[.slice none 0 0, .slice none 0 0], .bool false, .int .i64 0])) ∨
     ∃ r vo vs, (decN h lv).1 = some r ∧ RowG h (clI ((askN lv : Nat) : Int)) r ∧ r.length = h.length ∧ e = .returned (.tuple #[.agg #[vo, vs], .bool true, .int .i64 0]) ∧ Ints w' vo (r.reverse.map Int.ofNat) ∧ Lists w' vs (seesL (seesR h (clI ((askN lv : Nat) : Int)) r) h.length))) ∨
   (¬ Lasts F U (decN h lv).2.2 ∧ MtAt w' T F F ∧ e = .returned (.tuple #[.agg #[.slice none 0 0, .slice none 0 0], .bool false, .int .i64 4])))
theorem run_iface (x : Option Addr) (w : World) : (Instr.makeInterface 41 (.pointer x)).run Tryz.prog w = .ok (.iface 41 (.pointer x)) w := by kernel_rfl
theorem SrAt.made (w : World) (S B Mb T : Nat) : SrAt (w.alloc (.cells #[.pointer (some ⟨S, 0, none⟩), .pointer (some ⟨B, 0, none⟩), .map (some Mb), .iface 41 (.pointer (some ⟨T, 0, none⟩))] 134)) w.heap.size S B Mb T := by
 have hn := heap_alloc_new w (.cells #[.pointer (some ⟨S, 0, none⟩), .pointer (some ⟨B, 0, none⟩), .map (some Mb), .iface 41 (.pointer (some ⟨T, 0, none⟩))] 134)
 refine ⟨?_, ?_, ?_, ?_⟩ <;> (rw [cell_of_row _ _ _ _ _ _ hn]; rfl)
theorem Sea.made {w0 w1 : World} {S B b : Nat} {h : List TxnV} {C T F U N : Nat} {vb : Value} {aF sF : Nat → Nat} (p : PlX w0 N S B b h C [] vb (.slice none 0 0) aF sF w1) (hN : T < N) (hT : w0.heap.size ≤ T) (hm : MtAt w1 T F U) :
  Sea w0 N S B b h C (w1.heap.size + 1) w1.heap.size T F vb [] (.slice none 0 0) aF sF [] U ((w1.alloc (.map #[] 0)).alloc (.cells #[.pointer (some ⟨S, 0, none⟩), .pointer (some ⟨B, 0, none⟩), .map (some w1.heap.size), .iface 41 (.pointer (some ⟨T, 0, none⟩))] 134)) := by
 have b1 := box_below w1 (.map #[] 0)
 have hs1 : (w1.alloc (.map #[] 0)).heap.size = w1.heap.size + 1 := by simp
 have b2 := box_below (w1.alloc (.map #[] 0)) (.cells #[.pointer (some ⟨S, 0, none⟩), .pointer (some ⟨B, 0, none⟩), .map (some w1.heap.size), .iface 41 (.pointer (some ⟨T, 0, none⟩))] 134)
 have hb := below_then b1 b2
 have hl := p.lowS
 have hx := SrAt.made (w1.alloc (.map #[] 0)) S B w1.heap.size T
 rw [hs1] at hx
 have hmm := (MemM.made w1).below b2 (by rw [hs1]; omega)
 refine ⟨p.below hb, hx, ?_, hm.below hb hm.lt, fun g hg => ?_, ?_, ?_⟩
 ·rw [memF_nil]; exact hmm
 ·have h1 := p.of hg
  rcases hg with e | e | e
  ·omega
  ·have := (p.own.1 g e).1; omega
  ·cases e
 ·have := hm.lt; omega
 ·have := hm.lt; omega
theorem grown_setc {w wx : World} {row : Option Nat} (hg : w.grownBy wx row) {p : Addr} (hp : w.heap.size ≤ p.block) (u : Value) : w.grownBy (wx.setCell p u) row := by
 have hs : Below 0 wx (wx.setCell p u) := (Below.refl 0 wx).setCell (Nat.zero_le _) u
 exact ⟨hs.os.trans hg.os, hs.tape.trans hg.tape, hs.output.trans hg.output, Nat.le_trans hg.size hs.size, fun k hk hne => (Below.heap_setCell wx p u k (by omega)).trans (hg.block k hk hne)⟩
theorem grown_below {w wx wy : World} {row : Option Nat} (hg : w.grownBy wx row) (hb : Below wx.heap.size wx wy) : w.grownBy wy row :=
 ⟨hb.os.trans hg.os, hb.tape.trans hg.tape, hb.output.trans hg.output, Nat.le_trans hg.size hb.size, fun k hk hne => (hb.block k (Nat.lt_of_lt_of_le hk hg.size)).trans (hg.block k hk hne)⟩
theorem grown_sea {w wx wy : World} {S Mb T : Nat} {vr' : Value} (hg : w.grownBy wx (some T)) (k : SeaStep S Mb T (.slice none 0 0) vr' wx wy) (hS : w.heap.size ≤ S) (hM : w.heap.size ≤ Mb) : w.grownBy wy (some T) :=
 ⟨k.os.trans hg.os, k.tape.trans hg.tape, k.output.trans hg.output, Nat.le_trans hg.size k.size, fun j hj hne => (k.block j (Nat.lt_of_lt_of_le hj hg.size) (by omega) (by omega) (fun e => hne (by rw [e])) (by simp [Value.ownBlock])).trans (hg.block j hj hne)⟩
theorem sdecide_any {w0 w : World} {B b : Nat} {h : List TxnV} (lv : Int) (T F U : Nat) (hO : OrdIs w0 B b h) (ht : Tab w0) (hK : Kinds w0) (hc : checkI h = 0) (hb : Below w0.heap.size w0 w) (hT : w0.heap.size ≤ T) (hm : MtAt w T F U)
  (hM : (decN h lv).2.2 + 2 ≤ 1099511627776) (hU : F = 4611686018427387904 → U + (decN h lv).2.2 ≤ 4611686018427387904) :
  Calls Tryz.prog 24 #[.pointer (some ⟨B, 0, none⟩), .int .i64 lv, .pointer (some ⟨T, 0, none⟩)] w fun e w' => SdRes h lv T F U w e w' := by
 have h64 := (check_zero hc).1
 have hTw := hm.lt
 have hbx := box_below w (.cells #[.slice none 0 0, .slice none 0 0] 32)
 have hsx : (w.alloc (.cells #[.slice none 0 0, .slice none 0 0] 32)).heap.size = w.heap.size + 1 := by simp
 have hwk := WkAt.made w
 have hm1 := hm.below hbx hm.lt
 have hb1 : Below w0.heap.size w0 (w.alloc (.cells #[.slice none 0 0, .slice none 0 0] 32)) := hb.trans (hbx.mono hb.size)
 have n0 := (hO.below hb1).blk.cS
 have hg1 : w.grownBy (w.alloc (.cells #[.slice none 0 0, .slice none 0 0] 32)) (some T) := World.grownBy_alloc _ _ _
 have CI := hid (fun wx => lis_any lv wx)
 have CA := hid (fun wx (hx : Below w0.heap.size w0 wx) => lasks_any lv wx (hK.below hx))
 have HB1 := hid hb1
 have HMT := hid hm1
 have HGW := hid hg1
 have HWK := hid hwk
 go_enter Tryz.func24, Tryz.ntmps24
 go_upto_region 1 with fail
 clear hb1 hm1 hg1 hwk hbx
 generalize w.alloc (.cells #[.slice none 0 0, .slice none 0 0] 32) = w1 at *
 have hrun := run_iface (some ⟨T, 0, none⟩)
 have hmk := @run_makeMap Tryz.prog
 cases hs : soundTo h h.length with
 | false =>
  have hd : decN h lv = (none, [], 0) := by unfold decN; rw [if_neg (by rw [hs]; simp)]
  have HF : Hid (∀ wx, w.grownBy wx (some T) → MtAt wx T F U → SdRes h lv T F U w (.returned (.tuple #[.agg #[.slice none 0 0, .slice none 0 0], .bool false, .int .i64 0])) wx) := hid (fun wx hg hm => by
   unfold SdRes
   rw [hd]
   refine ⟨hg, .inl ⟨?_, hm, .inl ⟨rfl, rfl⟩⟩⟩
   by_cases e : F = 4611686018427387904
   ·exact .inl e
   ·exact .inr (hm.ue e))
  rw [hs] at n0
  clear hs hd hM hU hm
  have HW9 := hid (HWK.out.set (.slice none 0 0) (.slice none 0 0))
  have HG9 := hid (grown_setc (grown_setc HGW.out (p := ⟨w.heap.size, 0, none⟩) (Nat.le_refl _) (.slice none 0 0)) (p := ⟨w.heap.size, 1, none⟩) (Nat.le_refl _) (.slice none 0 0))
  have HM9 := hid (fun u (hm : MtAt w1 T F u) => (hm.block (Below.heap_setCell w1 ⟨w.heap.size, 0, none⟩ (.slice none 0 0) T (by show T ≠ w.heap.size; omega))).block (Below.heap_setCell _ ⟨w.heap.size, 1, none⟩ (.slice none 0 0) T (by show T ≠ w.heap.size; omega)))
  obtain ⟨k0, k1, k2, k3⟩ := HWK.out
  go_wp2_with fail
  obtain ⟨d0, d1, _, _⟩ := HW9.out
  refine bodyPost_ret (v := .tuple #[.agg #[.slice none 0 0, .slice none 0 0], .bool false, .int .i64 0]) ?_ rfl (HF.out _ HG9.out (HM9.out _ HMT.out))
  simp [results, Tryz.results24, go_sem, d0, d1]
 | true =>
  rw [hs] at n0
  cases hlv : isLv lv with
  | false =>
   have hd : decN h lv = (none, [], 0) := by unfold decN; rw [if_neg (by rw [hlv]; simp)]
   have HF : Hid (∀ wx, w.grownBy wx (some T) → MtAt wx T F U → SdRes h lv T F U w (.returned (.tuple #[.agg #[.slice none 0 0, .slice none 0 0], .bool false, .int .i64 0])) wx) := hid (fun wx hg hm => by
    unfold SdRes
    rw [hd]
    refine ⟨hg, .inl ⟨?_, hm, .inl ⟨rfl, rfl⟩⟩⟩
    by_cases e : F = 4611686018427387904
    ·exact .inl e
    ·exact .inr (hm.ue e))
   rw [hlv] at CI
   clear hs hlv hd hM hU hm
   go_wp2_with fail
   refine (CI.out _).mono ?_
   rintro e wq ⟨rfl, rfl⟩
   have HW9 := hid (HWK.out.set (.slice none 0 0) (.slice none 0 0))
   have HG9 := hid (grown_setc (grown_setc HGW.out (p := ⟨w.heap.size, 0, none⟩) (Nat.le_refl _) (.slice none 0 0)) (p := ⟨w.heap.size, 1, none⟩) (Nat.le_refl _) (.slice none 0 0))
   have HM9 := hid (fun u (hm : MtAt w1 T F u) => (hm.block (Below.heap_setCell w1 ⟨w.heap.size, 0, none⟩ (.slice none 0 0) T (by show T ≠ w.heap.size; omega))).block (Below.heap_setCell _ ⟨w.heap.size, 1, none⟩ (.slice none 0 0) T (by show T ≠ w.heap.size; omega)))
   obtain ⟨k0, k1, k2, k3⟩ := HWK.out
   go_wp2_with fail
   obtain ⟨d0, d1, _, _⟩ := HW9.out
   refine bodyPost_ret (v := .tuple #[.agg #[.slice none 0 0, .slice none 0 0], .bool false, .int .i64 0]) ?_ rfl (HF.out _ HG9.out (HM9.out _ HMT.out))
   simp [results, Tryz.results24, go_sem, d0, d1]
  | true =>
   have hd : decN h lv = srch h (clI ((askN lv : Nat) : Int)) h.length h.length [] [] := by unfold decN; rw [if_pos ⟨hlv, hs⟩]
   have HDF := hid (dec_first hc lv)
   have hC : clI ((askN lv : Nat) : Int) < 9223372036854775808 := by have := clI_lt ((askN lv : Nat) : Int); omega
   rw [hlv] at CI
   have CN := hid (xnew_any ((askN lv : Nat) : Int) hO hc ht HB1.out)
   have HD := hid hd
   have HU := hid hU
   have HMM := hid hM
   have HC := hid hc
   have HOT : Hid (OrdIs w0 B b h ∧ Tab w0 ∧ w0.heap.size ≤ T ∧ clI ((askN lv : Nat) : Int) < 9223372036854775808) := hid ⟨hO, ht, hT, hC⟩
   clear hs hlv hd hM hU hm hO ht hc hT hC hb
   go_wp2_with fail
   refine (CI.out _).mono ?_
   rintro e wq ⟨rfl, rfl⟩
   go_wp2_with fail
   refine (CA.out _ HB1.out).mono ?_
   rintro e wq ⟨rfl, rfl⟩
   go_wp2_with fail
   refine CN.out.mono ?_
   rintro e w2 ⟨S, vb, aF, sF, rfl, p, hb2⟩
   have hSl := p.lowS.1
   have hM2 := HMT.out.below hb2 HMT.out.lt
   have SEA := hid (Sea.made p (by omega) HOT.out.2.2.1 hM2)
   have hg3 : w.grownBy ((w2.alloc (.map #[] 0)).alloc (.cells #[.pointer (some ⟨S, 0, none⟩), .pointer (some ⟨B, 0, none⟩), .map (some w2.heap.size), .iface 41 (.pointer (some ⟨T, 0, none⟩))] 134)) (some T) := grown_below (grown_below (grown_below HGW.out hb2) (box_below _ _)) (box_below _ _)
   have hwk3 : WkAt ((w2.alloc (.map #[] 0)).alloc (.cells #[.pointer (some ⟨S, 0, none⟩), .pointer (some ⟨B, 0, none⟩), .map (some w2.heap.size), .iface 41 (.pointer (some ⟨T, 0, none⟩))] 134)) w.heap.size (.slice none 0 0) (.slice none 0 0) := by
    have h1 := HWK.out.below hb2 HWK.out.lt
    have h2 := h1.below (box_below w2 (.map #[] 0)) h1.lt
    exact h2.below (box_below _ _) h2.lt
   have hw12 := hb2.size
   clear p hb2 hM2 CN CI CA HB1 HGW HWK HMT n0
   have HGW := hid hg3
   have HWK := hid hwk3
   clear hg3 hwk3
   go_upto_region 4 with fail
   generalize (w2.alloc (.map #[] 0)).alloc (.cells #[.pointer (some ⟨S, 0, none⟩), .pointer (some ⟨B, 0, none⟩), .map (some w2.heap.size), .iface 41 (.pointer (some ⟨T, 0, none⟩))] 134) = w3 at *
   have CF := hid (sfurther_any HOT.out.1 HOT.out.2.1 HC.out HOT.out.2.2.2 h.length [] (.slice none 0 0) aF sF [] U w3 SEA.out (by simp) (by have := HMM.out; rw [HD.out] at this; simp only [List.length_nil]; omega) (fun e => by have := HU.out e; rw [HD.out] at this; exact this))
   rw [← HD.out] at CF
   have hSz : w.heap.size ≤ S := by omega
   have hMz : w.heap.size ≤ w2.heap.size := by omega
   generalize w2.heap.size = Mb at *
   clear SEA hrun hmk
   go_wp2_with fail
   refine CF.out.mono ?_
   rintro e w4 ⟨vr4, hst, hres⟩
   have hg4 := grown_sea HGW.out hst hSz hMz
   have hwk4 : WkAt w4 w.heap.size (.slice none 0 0) (.slice none 0 0) := HWK.out.block (hst.block w.heap.size HWK.out.lt (by omega) (by omega) (by omega) (by simp [Value.ownBlock]))
   clear hst CF HGW HWK
   have HGW := hid hg4
   have HWK := hid hwk4
   clear hg4 hwk4
   rcases hres with ⟨hla, rfl, aF4, sF4, q4⟩ | ⟨hla, rfl, hm4⟩
   ·have Q4 := hid q4
    have HMT := hid q4.t
    have HLA := hid hla
    clear q4 hla
    cases hfd : (decN h lv).1 with
    | none =>
     have HF : Hid (∀ wx, w.grownBy wx (some T) → MtAt wx T F (U + (decN h lv).2.2) → SdRes h lv T F U w (.returned (.tuple #[.agg #[.slice none 0 0, .slice none 0 0], .bool false, .int .i64 0])) wx) := hid (fun wx hg hm => ⟨hg, .inl ⟨HLA.out, hm, .inl ⟨hfd, rfl⟩⟩⟩)
     clear hfd Q4
     have HW9 := hid (HWK.out.set (.slice none 0 0) (.slice none 0 0))
     have HG9 := hid (grown_setc (grown_setc HGW.out (p := ⟨w.heap.size, 0, none⟩) (Nat.le_refl _) (.slice none 0 0)) (p := ⟨w.heap.size, 1, none⟩) (Nat.le_refl _) (.slice none 0 0))
     have HM9 := hid (fun u (hm : MtAt w4 T F u) => (hm.block (Below.heap_setCell w4 ⟨w.heap.size, 0, none⟩ (.slice none 0 0) T (by show T ≠ w.heap.size; omega))).block (Below.heap_setCell _ ⟨w.heap.size, 1, none⟩ (.slice none 0 0) T (by show T ≠ w.heap.size; omega)))
     obtain ⟨k0, k1, k2, k3⟩ := HWK.out
     go_wp2_with fail
     obtain ⟨d0, d1, _, _⟩ := HW9.out
     refine bodyPost_ret (v := .tuple #[.agg #[.slice none 0 0, .slice none 0 0], .bool false, .int .i64 0]) ?_ rfl (HF.out _ HG9.out (HM9.out _ HMT.out))
     simp [results, Tryz.results24, go_sem, d0, d1]
    | some r =>
     have q4 := Q4.out
     rw [hfd] at q4
     have q4 : Sea w0 w1.heap.size S B b h (clI ((askN lv : Nat) : Int)) (Mb + 1) Mb T F vb r vr4 aF4 sF4 (decN h lv).2.1 (U + (decN h lv).2.2) w4 := q4
     have hrl : r.length = h.length := by
      have e := HDF.out
      rw [hfd, Option.map_some] at e
      have := (orders_perm (List.mem_of_find?_eq_some e.symm)).length_eq
      simpa using this
     have CWT := hid (switness_any q4 HC.out hrl)
     have HRG := hid (q4.p.rowG HC.out)
     have HF : Hid (∀ vo vs wx, Ints wx vo (r.reverse.map Int.ofNat) → Lists wx vs (seesL (seesR h (clI ((askN lv : Nat) : Int)) r) h.length) → w.grownBy wx (some T) → MtAt wx T F (U + (decN h lv).2.2) → SdRes h lv T F U w (.returned (.tuple #[.agg #[vo, vs], .bool true, .int .i64 0])) wx) := hid (fun vo vs wx hI hL hg hm => ⟨hg, .inl ⟨HLA.out, hm, .inr ⟨r, vo, vs, hfd, HRG.out, hrl, rfl, hI, hL⟩⟩⟩)
     have HRL := hid hrl
     clear hfd q4 Q4 hrl
     go_wp2_with fail
     refine CWT.out.mono ?_
     rintro e w5 ⟨⟨vo, vs, KL, rfl, hI5, hL5, hK5⟩, hb5⟩
     obtain ⟨oa, oc, rfl⟩ := own_form hI5
     obtain ⟨sa, sc, rfl⟩ := own_form hL5.kr
     have hwk5 := HWK.out.below hb5 HWK.out.lt
     have hlo : w.heap.size < w4.heap.size + 1 := by have := HWK.out.lt; omega
     have HW9 := hid (hwk5.set (.slice oa (r.reverse.map Int.ofNat).length oc) (.slice sa KL.length sc))
     have HI9 := hid (Ints.of_owns (pl_far (pl_far hI5 (p := ⟨w.heap.size, 0, none⟩) hlo (.slice oa (r.reverse.map Int.ofNat).length oc)) (p := ⟨w.heap.size, 1, none⟩) hlo (.slice sa KL.length sc)))
     have HL9 := hid (OwnK.lists ((hL5.far (p := ⟨w.heap.size, 0, none⟩) hlo (.slice oa (r.reverse.map Int.ofNat).length oc)).far (p := ⟨w.heap.size, 1, none⟩) hlo (.slice sa KL.length sc)))
     rw [hK5] at HL9
     have HG9 := hid (grown_setc (grown_setc (grown_below HGW.out hb5) (p := ⟨w.heap.size, 0, none⟩) (Nat.le_refl _) (.slice oa (r.reverse.map Int.ofNat).length oc)) (p := ⟨w.heap.size, 1, none⟩) (Nat.le_refl _) (.slice sa KL.length sc))
     have HM9 := hid (((HMT.out.below hb5 HMT.out.lt).block (Below.heap_setCell w5 ⟨w.heap.size, 0, none⟩ (.slice oa (r.reverse.map Int.ofNat).length oc) T (by show T ≠ w.heap.size; omega))).block (Below.heap_setCell _ ⟨w.heap.size, 1, none⟩ (.slice sa KL.length sc) T (by show T ≠ w.heap.size; omega)))
     simp only [List.length_map, List.length_reverse] at HW9 HI9 HL9 HG9 HM9 ⊢
     obtain ⟨k0, k1, k2, k3⟩ := hwk5
     clear hI5 hL5 hK5 hb5 CWT
     go_wp2_with fail
     obtain ⟨d0, d1, _, _⟩ := HW9.out
     refine bodyPost_ret (v := .tuple #[.agg #[.slice oa r.length oc, .slice sa KL.length sc], .bool true, .int .i64 0]) ?_ rfl (HF.out _ _ _ HI9.out HL9.out HG9.out HM9.out)
     simp [results, Tryz.results24, go_sem, d0, d1]
   ·have HMT := hid hm4
    have HF : Hid (∀ wx, w.grownBy wx (some T) → MtAt wx T F F → SdRes h lv T F U w (.returned (.tuple #[.agg #[.slice none 0 0, .slice none 0 0], .bool false, .int .i64 4])) wx) := hid (fun wx hg hm => ⟨hg, .inr ⟨hla, hm, rfl⟩⟩)
    clear hm4 hla
    have HW9 := hid (HWK.out.set (.slice none 0 0) (.slice none 0 0))
    have HG9 := hid (grown_setc (grown_setc HGW.out (p := ⟨w.heap.size, 0, none⟩) (Nat.le_refl _) (.slice none 0 0)) (p := ⟨w.heap.size, 1, none⟩) (Nat.le_refl _) (.slice none 0 0))
    have HM9 := hid (fun u (hm : MtAt w4 T F u) => (hm.block (Below.heap_setCell w4 ⟨w.heap.size, 0, none⟩ (.slice none 0 0) T (by show T ≠ w.heap.size; omega))).block (Below.heap_setCell _ ⟨w.heap.size, 1, none⟩ (.slice none 0 0) T (by show T ≠ w.heap.size; omega)))
    obtain ⟨k0, k1, k2, k3⟩ := HWK.out
    go_wp2_with fail
    obtain ⟨d0, d1, _, _⟩ := HW9.out
    refine bodyPost_ret (v := .tuple #[.agg #[.slice none 0 0, .slice none 0 0], .bool false, .int .i64 4]) ?_ rfl (HF.out _ HG9.out (HM9.out _ HMT.out))
    simp [results, Tryz.results24, go_sem, d0, d1]
end

section
theorem zA10 {α : Type _} (l : List α) (i : Nat) (a : α) : l.toArray.setIfInBounds i a = (l.set i a).toArray := List.setIfInBounds_toArray ..
theorem zB10 {α : Type _} {x : α} {xs : List α} {a : α} : (x :: xs).set 0 a = a :: xs := List.set_cons_zero
theorem zC10 {α : Type _} {x : α} {xs : List α} {i : Nat} {a : α} : (x :: xs).set (i + 1) a = x :: xs.set i a := List.set_cons_succ
theorem tG10 {P : Program} {ops : Array Oper} {Q : Exit → Act → World → Prop} {md : Region.Mode} {S : World → Prop} (d : Option Tmp) (i : Nat) {oi : Oper} (v : Value) {fuel : Nat} {listed : Array Bool} {a : Act} {w : World} (hi : ops[i]? = some oi) (hd : oi.dst = d)
 (hy : YieldsIf P ops S oi v a) (hS : S w) (h : wpAnyH P md ops Q S fuel (listed.setIfInBounds i true) (a.put d v) w)
 (hs : Region.noSelect ops = true := by kernel_rfl) (hf : Region.free md ops listed i = true := by kernel_rfl) (hr : (Region.ready md ops listed).contains i = true := by kernel_rfl)
 (hQ : ∀ c a w, Q (.panic c) (a.put oi.dst v) w → Q (.panic c) a w := by exact fun _ _ _ h => h) : wpAnyH P md ops Q S (fuel + 1) listed a w := takeG d hi hd hs hf hr hQ hy hS h
theorem tA10 {P : Program} {ops : Array Oper} {Q : Exit → Act → World → Prop} {md : Region.Mode} {S : World → Prop} (d : Option Tmp) (i : Nat) {oi : Oper} {v : Value} {fuel : Nat} {listed : Array Bool} {a : Act} {w : World} (hi : ops[i]? = some oi) (hd : oi.dst = d)
 (hS : S w) (h : wpAnyH P md ops Q S fuel (listed.setIfInBounds i true) (a.put d v) w)
 (hy : YieldsIf P ops S oi v a := by exact Or.inl ⟨by rfl, by intro w _; go_simp; try (with_reducible rfl)⟩)
 (hs : Region.noSelect ops = true := by kernel_rfl) (hf : Region.free md ops listed i = true := by kernel_rfl) (hr : (Region.ready md ops listed).contains i = true := by kernel_rfl)
 (hQ : ∀ c a w, Q (.panic c) (a.put oi.dst v) w → Q (.panic c) a w := by exact fun _ _ _ h => h) : wpAnyH P md ops Q S (fuel + 1) listed a w := takeG d hi hd hs hf hr hQ hy hS h
theorem rD10 {P : Program} {ops : Array Oper} {Q : Exit → Act → World → Prop} {md : Region.Mode} {S : World → Prop} {fuel : Nat} {listed : Array Bool} {a : Act} {w : World} (i : Nat) {o : Oper} (ho : ops[i]? = some o)
 (h : ∀ K' : Act → World → Prop, Shut (∀ a w, S w → (S w → wpAnyH P md ops Q S fuel (listed.setIfInBounds i true) a w) → K' a w) → if Region.wanted o (yielded ops a.tmps) = true then Oper.wp P o a w K' Q else K' (a.put o.dst undef) w)
 (hr : Region.ready md ops listed = [i] := by kernel_rfl) : wpAnyH P md ops Q S (fuel + 1) listed a w := wpAnyH_ready hr (by simp) (AllReadyH.cons ho h AllReadyH.nil)
end
section
open Go.RowKit
theorem sameL_one (l : List Int) : sameL l l = true := by unfold sameL; simp
structure WitT (g : Nat) (vo vs : Value) (w : World) : Prop where
 c0 : w.cell? ⟨g, 0, none⟩ = some vo
 c1 : w.cell? ⟨g, 1, none⟩ = some vs
theorem WitT.below {g : Nat} {vo vs : Value} {w w' : World} (h : WitT g vo vs w) (hb : Below w.heap.size w w') : WitT g vo vs w' := by
 have hl := block_lt h.c0
 exact ⟨(hb.cell (p := ⟨g, 0, none⟩) hl).trans h.c0, (hb.cell (p := ⟨g, 1, none⟩) hl).trans h.c1⟩
theorem WitT.made (w : World) (vo vs : Value) (t : TypeId) : WitT w.heap.size vo vs (w.alloc (.cells #[vo, vs] t)) := by
 have hn := heap_alloc_new w (.cells #[vo, vs] t)
 refine ⟨?_, ?_⟩ <;> (rw [cell_of_row _ _ _ _ _ _ hn]; rfl)
theorem same17_any (va vs vb vt : Value) (l : List Int) (LL : List (List Int)) (w : World) (hA : Ints w va l) (hS : Lists w vs LL) (hB : Ints w vb l) (hT : Lists w vt LL) :
  Calls Tryz.prog 29 #[.agg #[va, vs], .agg #[vb, vt]] w fun e w' => e = .returned (.int .i64 1) ∧ Below w.heap.size w w' := by
 obtain ⟨ao, ac, rfl, hl⟩ := hA.form
 obtain ⟨so, sc, rfl, hLL⟩ := hS.form
 obtain ⟨bo, bc, rfl, _⟩ := hB.form
 obtain ⟨tq, tc, rfl, _⟩ := hT.form
 have w1 := WitT.made w (.slice ao l.length ac) (.slice so LL.length sc) 32
 have b1 := box_below w (.cells #[.slice ao l.length ac, .slice so LL.length sc] 32)
 have w2 := WitT.made (w.alloc (.cells #[.slice ao l.length ac, .slice so LL.length sc] 32)) (.slice bo l.length bc) (.slice tq LL.length tc) 32
 have b2 := box_below (w.alloc (.cells #[.slice ao l.length ac, .slice so LL.length sc] 32)) (.cells #[.slice bo l.length bc, .slice tq LL.length tc] 32)
 have w1 := w1.below b2
 have hb := below_then b1 b2
 have hs : (w.alloc (.cells #[.slice ao l.length ac, .slice so LL.length sc] 32)).heap.size = w.heap.size + 1 := by simp
 rw [hs] at w2
 have HA := hid (fun wx (hx : Below w.heap.size w wx) => hA.below hx)
 have HB := hid (fun wx (hx : Below w.heap.size w wx) => hB.below hx)
 have HS := hid (fun wx (hx : Below w.heap.size w wx) => hS.below hx)
 have HT := hid (fun wx (hx : Below w.heap.size w wx) => hT.below hx)
 clear hA hB hS hT b1 b2 hs
 go_enter Tryz.func29, Tryz.ntmps29
 go_upto_region 1 with fail
 generalize (w.alloc (.cells #[.slice ao l.length ac, .slice so LL.length sc] 32)).alloc (.cells #[.slice bo l.length bc, .slice tq LL.length tc] 32) = w0 at *
 have CS := hid (same_any _ _ l l w0 (HA.out _ hb) (HB.out _ hb))
 rw [sameL_one] at CS
 obtain ⟨n0, n1⟩ := w1
 obtain ⟨m0, m1⟩ := w2
 go_wp2_with fail
 refine CS.out.mono ?_
 rintro e w3 ⟨rfl, h3⟩
 have w1 := WitT.below ⟨n0, n1⟩ h3
 have w2 := WitT.below ⟨m0, m1⟩ h3
 have hb := below_then hb h3
 clear n0 n1 m0 m1 h3 CS
 obtain ⟨n0, n1⟩ := w1
 obtain ⟨m0, m1⟩ := w2
 go_wp2_with fail
 go_loopw [24] (fun iv wr => ∃ j : Nat, j ≤ LL.length ∧ iv = .int .i64 j ∧ WitT w.heap.size (.slice ao l.length ac) (.slice so LL.length sc) wr ∧ WitT (w.heap.size + 1) (.slice bo l.length bc) (.slice tq LL.length tc) wr ∧ Below w.heap.size w wr) (fun iv _ => LL.length - (intOf iv).toNat)
 case atStart => exact ⟨0, Nat.zero_le _, rfl, ⟨n0, n1⟩, ⟨m0, m1⟩, hb⟩
 case round =>
  clear n0 n1 m0 m1 hb
  obtain ⟨j, hj, rfl, w1, w2, hb⟩ := hrel
  by_cases hjl : j < LL.length
  ·have hji : (j : Int) < (LL.length : Int) := by omega
   have hS := HS.out _ hb
   have hT := HT.out _ hb
   obtain ⟨g1, o1, x1, e1, hc1, hi1⟩ := hS.at hjl
   obtain ⟨g2, o2, x2, e2, hc2, hi2⟩ := hT.at hjl
   obtain ⟨a1, c1, rfl, _⟩ := hi1.form
   obtain ⟨a2, c2, rfl, _⟩ := hi2.form
   cases e1
   cases e2
   have HZ : Hid (∀ wx, Below wr.heap.size wr wx → WitT w.heap.size (.slice ao l.length ac) (.slice (some ⟨g1, o1, none⟩) LL.length sc) wx ∧ WitT (w.heap.size + 1) (.slice bo l.length bc) (.slice (some ⟨g2, o2, none⟩) LL.length tc) wx ∧ wx.cell? ⟨g1, o1 + j, none⟩ = some (.slice a1 LL[j].length c1) ∧ wx.cell? ⟨g2, o2 + j, none⟩ = some (.slice a2 LL[j].length c2)) := hid (fun wx hx =>
    ⟨w1.below hx, w2.below hx, (hx.cell (p := ⟨g1, o1 + j, none⟩) (block_lt hc1)).trans hc1, (hx.cell (p := ⟨g2, o2 + j, none⟩) (block_lt hc2)).trans hc2⟩)
   have CS := hid (fun wx (hx : Below wr.heap.size wr wx) => same_any _ _ LL[j] LL[j] wx (hi1.below hx) (hi2.below hx))
   rw [sameL_one] at CS
   have kd := (Below.refl wr.heap.size wr).drew
   have HB9 := hid hb
   clear hS hT hi1 hi2 hc1 hc2 w1 w2 hb
   generalize LL[j].length = nj at *
   go_upto_region 6 with fail
   refine wp_region_held_drew (S := Below wr.heap.size wr) (by kernel_rfl) kd (fun hS0 => ?_)
   refine tA10 (some 27) 0 rfl rfl hS0 ?_
   try simp only [Act.put, zA10, zB10, zC10]
   refine tG10 (some 28) 1 ?vsw1x2 rfl rfl (Or.inl ⟨by rfl, ?hsw1x2⟩) hS0 ?rsw1x2
   case hsw1x2 => (intro w hz; obtain ⟨⟨z0, z1⟩, ⟨z2, z3⟩, z4, z5⟩ := HZ.out w hz; go_simp; try (with_reducible rfl))
   try simp only [Act.put, zA10, zB10, zC10]
   refine tA10 (some 29) 2 rfl rfl hS0 ?_
   try simp only [Act.put, zA10, zB10, zC10]
   refine tA10 (some 30) 3 rfl rfl hS0 ?_
   try simp only [Act.put, zA10, zB10, zC10]
   refine tG10 (some 31) 4 ?vsw4x5 rfl rfl (Or.inl ⟨by rfl, ?hsw4x5⟩) hS0 ?rsw4x5
   case hsw4x5 => (intro w hz; obtain ⟨⟨z0, z1⟩, ⟨z2, z3⟩, z4, z5⟩ := HZ.out w hz; go_simp; try (with_reducible rfl))
   try simp only [Act.put, zA10, zB10, zC10]
   refine tA10 (some 32) 5 rfl rfl hS0 ?_
   try simp only [Act.put, zA10, zB10, zC10]
   refine tG10 (some 33) 6 ?vsw6x7 rfl rfl (Or.inl ⟨by rfl, ?hsw6x7⟩) hS0 ?rsw6x7
   case hsw6x7 => (intro w hz; obtain ⟨⟨z0, z1⟩, ⟨z2, z3⟩, z4, z5⟩ := HZ.out w hz; go_simp; try (with_reducible rfl))
   try simp only [Act.put, zA10, zB10, zC10]
   refine tA10 (some 34) 7 rfl rfl hS0 ?_
   try simp only [Act.put, zA10, zB10, zC10]
   refine tA10 (some 35) 8 rfl rfl hS0 ?_
   try simp only [Act.put, zA10, zB10, zC10]
   refine tG10 (some 36) 9 ?vsw9x10 rfl rfl (Or.inl ⟨by rfl, ?hsw9x10⟩) hS0 ?rsw9x10
   case hsw9x10 => (intro w hz; obtain ⟨⟨z0, z1⟩, ⟨z2, z3⟩, z4, z5⟩ := HZ.out w hz; go_simp; try (with_reducible rfl))
   try simp only [Act.put, zA10, zB10, zC10]
   refine rD10 10 rfl (fun K hK => ?_)
   go_simp
   refine (CS.out _ hS0).mono ?_
   rintro e y ⟨rfl, hy⟩
   show K _ _
   have s1 := below_then hS0 hy
   refine hK.out _ _ s1 (fun _ => ?_)
   clear hK K
   refine tA10 (some 38) 11 rfl rfl s1 ?_
   try simp only [Act.put, zA10, zB10, zC10]
   refine wpAnyH_done (by kernel_rfl) ?_ _
   have hz9 := HZ.out _ s1
   have hb9 := below_then HB9.out s1
   go_wp2_with fail
   go_roundw
   case rel => exact ⟨j + 1, by omega, by go_num, hz9.1, hz9.2.1, hb9⟩
   case measure => simp [intOf]; omega
  ·go_wp2_with fail
   go_ret
   exact ⟨rfl, hb⟩
end

section
open Go.RowKit
theorem takeQ {P : Program} {ops : Array Oper} {Q : Exit → Act → World → Prop} {md : Region.Mode} {S : World → Prop} (d : Option Tmp) {i : Nat} {oi : Oper} {v : Value} {fuel : Nat} {listed : Array Bool} {a : Act} {w : World} (hi : ops[i]? = some oi) (hd : oi.dst = d)
  (hs : Region.noSelect ops = true) (hf : Region.free md ops listed i = true) (hr : (Region.ready md ops listed).contains i = true)
  (hQ : ∀ c a w, Q (.panic c) (a.put oi.dst v) w → Q (.panic c) a w) (hy : YieldsIf P ops S oi v a) (hS : S w)
  (h : wpAnyH P md ops Q S fuel (listed.setIfInBounds i true) (a.put d v) w) : wpAnyH P md ops Q S (fuel + 1) listed a w := by
 subst hd; exact wpAnyH_take hi hs hf hr hQ hy hS h
theorem of_done (va : Value) (h : List TxnV) (w : World) (hT : Txns w va h) (hok : ∀ t ∈ h, t.ok) (hsh : Short h) (hc : checkI h = 0) :
  Calls Tryz.prog 16 #[va] w fun e w' => (∃ B, e = .returned (.tuple #[.pointer (some ⟨B, 0, none⟩), .int .i64 0]) ∧ w.heap.size ≤ B ∧ OrdIs w' B (B + 2) h) ∧ Below w.heap.size w w' := by
 obtain ⟨ao, cap, rfl, hal⟩ := hT.form
 obtain ⟨hlen, hops, hW, hks⟩ := check_zero hc
 have hb0 := box_below w (.cells #[.slice ao h.length cap] 22)
 have CH := hid (hcheck_any _ h _ (hT.below hb0) hok hsh)
 rw [hc] at CH
 have CW := hid (fun wx (hx : Below w.heap.size w wx) => hwrites_any _ h wx (hT.below hx) hok hks (by omega) (by omega))
 have HT := hid (fun wx (hx : Below w.heap.size w wx) => hT.below hx)
 have HOK := hid hok
 have HKS := hid hks
 have HW := hid hW
 have HOPS := hid hops
 obtain ⟨i1, hi1, hza1, hzb1, hzc1⟩ := info_parts infoLI
 obtain ⟨i2, hi2, hza2, hzb2, hzc2⟩ := info_parts infoLR
 have hA0 : (w.alloc (.cells #[.slice ao h.length cap] 22)).cell? ⟨w.heap.size, 0, none⟩ = some (.slice ao h.length cap) := by rw [cell_of_row _ _ _ _ _ _ (heap_alloc_new w _)]; rfl
 clear hT hok hsh hks hW hc hops
 go_enter Tryz.func16, Tryz.ntmps16
 go_wp2_with fail
 refine (CH.out).mono ?_
 rintro e w1 ⟨rfl, hb1⟩
 have hA1 := (hb1.cell (p := ⟨w.heap.size, 0, none⟩) (block_lt hA0)).trans hA0
 have hb2 := below_then hb0 hb1
 clear CH hb1 hb0 hA0
 go_wp2_with fail
 refine (CW.out _ hb2).mono ?_
 rintro e w2 ⟨hb3, ⟨hno, _⟩ | ⟨_, bm, m, rfl, hbm, hM⟩⟩
 ·exact absurd hno (by rw [HW.out]; simp)
 have hA2 := (hb3.cell (p := ⟨w.heap.size, 0, none⟩) (block_lt hA1)).trans hA1
 have hb4 := below_then hb2 hb3
 clear CW hb3 hb2 hA1
 have hlt := block_lt hA2
 simp only at hlt
 have hO3 := (OrdAt.made w2 (h.length : Int) 101 rfl rfl).alloc (.cells #[.pointer (some ⟨w2.heap.size, 0, none⟩)] 25)
 have hb3 := ((Below.refl w2.heap.size w2).alloc (Nat.le_refl _) (.cells ((Tryz.zeroCells101.setIfInBounds 0 (.int .i64 h.length)).setIfInBounds 196 (.bool true)) 101)).alloc (by simp) (.cells #[.pointer (some ⟨w2.heap.size, 0, none⟩)] 25)
 have hA3 := (hb3.cell (p := ⟨w.heap.size, 0, none⟩) hlt).trans hA2
 have hC3 : ((w2.alloc (.cells ((Tryz.zeroCells101.setIfInBounds 0 (.int .i64 h.length)).setIfInBounds 196 (.bool true)) 101)).alloc (.cells #[.pointer (some ⟨w2.heap.size, 0, none⟩)] 25)).cell? ⟨w2.heap.size + 1, 0, none⟩ = some (.pointer (some ⟨w2.heap.size, 0, none⟩)) := by
  rw [cell_of_row _ _ _ _ _ _ (heap_alloc2_new w2 _ _)]; rfl
 have hs3 : w2.heap.size + 2 ≤ ((w2.alloc (.cells ((Tryz.zeroCells101.setIfInBounds 0 (.int .i64 h.length)).setIfInBounds 196 (.bool true)) 101)).alloc (.cells #[.pointer (some ⟨w2.heap.size, 0, none⟩)] 25)).heap.size := by simp
 go_wp2_with fail
 generalize ((w2.alloc (.cells ((Tryz.zeroCells101.setIfInBounds 0 (.int .i64 h.length)).setIfInBounds 196 (.bool true)) 101)).alloc (.cells #[.pointer (some ⟨w2.heap.size, 0, none⟩)] 25)) = w3 at *
 generalize (Tryz.zeroCells101.setIfInBounds 0 (.int .i64 h.length)).setIfInBounds 196 (.bool true) = Z at *
 go_loopw [26] (fun i wr => ∃ (k : Nat) (vk vr : Value) (sd : Bool) (K : List KRow) (R : List RRow), k ≤ h.length ∧ i = .int .i64 k ∧ K.map (·.2) = keysTo h k ∧ R.map (·.2) = readsTo h k ∧ sd = soundTo h k ∧ OrdAt wr w2.heap.size h.length noR noR noR (.map none) vk vr sd ∧
   wr.cell? ⟨w2.heap.size + 1, 0, none⟩ = some (.pointer (some ⟨w2.heap.size, 0, none⟩)) ∧ OfR (w2.heap.size + 2) wr vk vr K R ∧ Below w2.heap.size w2 wr ∧ w2.heap.size + 2 ≤ wr.heap.size) (fun i _ => h.length - (intOf i).toNat)
 case atStart => exact ⟨0, _, _, _, [], [], by omega, rfl, rfl, rfl, rfl, hO3, hC3, OfR.nil _ _, hb3, hs3⟩
 case round =>
  clear hO3 hC3 hb3 hs3 hA3
  obtain ⟨k, vk, vr, sd, K, R, hk, rfl, hK, hR, hsd, hO, hC, hF, hb, hsz⟩ := hrel
  have HK := hid (And.intro hK (And.intro hR hsd))
  clear hK hR hsd
  by_cases hlk : k < h.length
  ·have hki : (k : Int) < (h.length : Int) := by omega
   have hbw := below_then hb4 hb
   obtain ⟨g, o, hao, c0, c1, c2, c3⟩ := (HT.out _ hbw).at hlk
   cases hao
   have hOps := (HT.out _ hbw).ops hlk
   have HOPF := hid (fun wx (hx : Below w2.heap.size w2 wx) => (HT.out wx (below_then hb4 hx)).ops hlk)
   generalize h[k].s = ts at *
   generalize h[k].b = tb at *
   generalize h[k].c = tc at *
   have HLK : Hid (opsAt h k = h[k].l) := hid (opsAt_eq hlk)
   have hll : h[k].l.length ≤ 1024 := by
    have h1 := opsN_take h k hlk
    have h2 := opsN_le h (k + 1)
    have h3 := HOPS.out
    omega
   have HOL := hid (HOK.out _ (List.getElem_mem hlk)).2
   have HKL := hid (HKS.out _ (List.getElem_mem hlk))
   generalize h[k].v = tv at *
   generalize h[k].l = l at *
   obtain ⟨a2, cap2, rfl, hl2⟩ := hOps.form
   obtain ⟨b0, b1, b2, b3⟩ := txnBlock wr (.int .i64 ts) (.int .i64 tb) (.int .i64 tc) (.slice a2 l.length cap2) 59
   have hbx := (Below.refl wr.heap.size wr).alloc (Nat.le_refl _) (.cells #[.int .i64 ts, .int .i64 tb, .int .i64 tc, .slice a2 l.length cap2] 59)
   have hOps1 := hOps.below hbx
   have hO1 := hO.below hbx hO.lt
   have hC1 := (hbx.cell (p := ⟨w2.heap.size + 1, 0, none⟩) (block_lt hC)).trans hC
   have hF1 := hF.below hbx
   have hb1 := hb.trans (hbx.mono hb.size)
   have hs1 : w2.heap.size + 2 ≤ (wr.alloc (.cells #[.int .i64 ts, .int .i64 tb, .int .i64 tc, .slice a2 l.length cap2] 59)).heap.size := by simp; omega
   have hgx : w2.heap.size + 2 ≤ wr.heap.size := hsz
   have hX1 := heap_alloc_new wr (.cells #[.int .i64 ts, .int .i64 tb, .int .i64 tc, .slice a2 l.length cap2] 59)
   have hX : OfS w2 wr.heap.size ts tb tc (.slice a2 l.length cap2) h.length vk vr sd K R (wr.alloc (.cells #[.int .i64 ts, .int .i64 tb, .int .i64 tc, .slice a2 l.length cap2] 59)) := ⟨hO1, ⟨hC1, b0, b1, b2, b3⟩, hF1, hb1, hs1, ⟨_, hX1⟩, hgx⟩
   have hTf := fun wx (hx : Below w2.heap.size w2 wx) => HT.out wx (below_then hb4 hx)
   go_upto_region 9 with fail
   clear hOps hO hC hF hb hbx hbw hsz c0 c1 c2 c3 hO1 hC1 hF1 hb1 hs1 hX1 b0 b1 b2 b3
   generalize wr.alloc (.cells #[.int .i64 ts, .int .i64 tb, .int .i64 tc, .slice a2 l.length cap2] 59) = w4 at *
   generalize wr.heap.size = gx at *
   clear wr
   have hKl : K.length ≤ 64 := by have := congrArg List.length HK.out.1; simp [keysTo] at this; omega
   have hRl : R.length ≤ 64 := by have := congrArg List.length HK.out.2.1; simp [readsTo] at this; omega
   obtain ⟨aK, cK, rfl⟩ := owns_form hX.r.kr
   obtain ⟨aR, cR, rfl⟩ := owns_form hX.r.rr
   go_cut [41] from 31 to 41 (fun u wx => ∃ (v5 : Value) (vx : Value), u = .pointer (some ⟨w2.heap.size, 194, none⟩) ∧ OfS w2 gx ts tb tc (.slice a2 l.length cap2) h.length v5 (.slice aR R.length cR) sd (K ++ [(vx, keysOf l)]) R wx)
   case first =>
    have kd := (Below.refl w4.heap.size w4).drew
    have CK : Hid (∀ wx, Below w4.heap.size w4 wx → Calls Tryz.prog 57 #[.agg #[.int .i64 ts, .int .i64 tb, .int .i64 tc, .slice a2 l.length cap2]] wx fun e w' => ∃ v, e = .returned v ∧ w'.ownsRow (w2.heap.size + 2) 3 1 v (keysOf l).length ((keysOf l).map (Value.int .i64)) ∧ Below wx.heap.size wx w') := hid (fun wx hx => (okeys_any ts tb tc _ l wx (hOps1.below hx) HOL.out (by omega)).mono (fun e w' ⟨v, out, he, ho, hr, _, hbb⟩ => by
     obtain rfl := hr.eq (refWrites_rise HKL.out)
     refine ⟨v, he, own_base' ?_ (show w2.heap.size + 2 ≤ wx.heap.size by have h1 := hx.size; have h2 := hX.z; omega), hbb⟩
     unfold keysOf
     rw [List.length_map, List.map_map]
     exact ho))
    have HS : Hid (∀ wx, Below w4.heap.size w4 wx → SB (w2.heap.size + 1) w2.heap.size gx ts tb tc (.slice a2 l.length cap2) wx) := hid (fun wx hx => hX.s.below hx)
    have hc0 := hX.o.cK
    have HCL : Hid (∀ wx, Below w4.heap.size w4 wx → wx.cell? ⟨w2.heap.size, 194, none⟩ = some (.slice aK K.length cK)) := hid (fun wx hx => (hx.cell (p := ⟨w2.heap.size, 194, none⟩) (block_lt hc0)).trans hc0)
    have HCA : Hid (∀ wx, Below w4.heap.size w4 wx → ∀ o, (wx.alloc o).cell? ⟨w2.heap.size, 194, none⟩ = some (.slice aK K.length cK)) := hid (fun wx hx o => HCL.out _ (hx.alloc hx.size o))
    have HRO : Hid (∀ wx, Below w4.heap.size w4 wx → wx.ownsRow (w2.heap.size + 2) 29 1 (.slice aK K.length cK) K.length (K.map (·.1))) := hid (fun wx hx => owns_below hX.r.kr hx)
    have HSZ : Hid (∀ wx (o : Obj), Below w4.heap.size w4 wx → w2.heap.size + 2 ≤ (wx.alloc o).heap.size) := hid (fun wx o hx => by have h1 := hx.size; have h2 := hX.z; simp; omega)
    have HFIN := hid (fun wx w5 v v5 hx => hX.addK (wx := wx) (w5 := w5) (v := v) (v5 := v5) (t := 29) (l := keysOf l) hx)
    have n3 : Hid (K.length + 1 ≤ maxLen) := hid (by unfold maxLen; omega)
    have n4 : Hid ((K.length + 1) * 24 ≤ 140737488355328) := hid (by omega)
    refine wp_region_held_drew (S := SB (w2.heap.size + 1) w2.heap.size gx ts tb tc (.slice a2 l.length cap2)) (by kernel_rfl) hX.s.drew (fun hS0 => ?_)
    refine takeQ (some 31) (i := 0) (v := ?v1) rfl rfl (by kernel_rfl) (by kernel_rfl) (by kernel_rfl) (fun _ _ _ h => h) (Or.inl ⟨by rfl, ?h1⟩) hS0 ?r1
    case h1 => (intro w hw; obtain ⟨q0, q1, q2, q3, q4⟩ := hw; go_simp; try (with_reducible rfl))
    try simp only [Act.put, zA10, zB10, zC10]
    refine takeQ (some 32) (i := 1) (v := ?v2) rfl rfl (by kernel_rfl) (by kernel_rfl) (by kernel_rfl) (fun _ _ _ h => h) (Or.inl ⟨by rfl, ?h2⟩) hS0 ?r2
    case h2 => (intro w hw; obtain ⟨q0, q1, q2, q3, q4⟩ := hw; go_simp; try (with_reducible rfl))
    try simp only [Act.put, zA10, zB10, zC10]
    refine takeQ (some 36) (i := 5) (v := ?v3) rfl rfl (by kernel_rfl) (by kernel_rfl) (by kernel_rfl) (fun _ _ _ h => h) (Or.inl ⟨by rfl, ?h3⟩) hS0 ?r3
    case h3 => (intro w hw; obtain ⟨q0, q1, q2, q3, q4⟩ := hw; go_simp; try (with_reducible rfl))
    try simp only [Act.put, zA10, zB10, zC10]
    refine takeQ (some 33) (i := 2) (v := ?v4) rfl rfl (by kernel_rfl) (by kernel_rfl) (by kernel_rfl) (fun _ _ _ h => h) (Or.inl ⟨by rfl, ?h4⟩) hS0 ?r4
    case h4 => (intro w hw; obtain ⟨q0, q1, q2, q3, q4⟩ := hw; go_simp; try (with_reducible rfl))
    try simp only [Act.put, zA10, zB10, zC10]
    refine takeQ (some 34) (i := 3) (v := ?v5) rfl rfl (by kernel_rfl) (by kernel_rfl) (by kernel_rfl) (fun _ _ _ h => h) (Or.inl ⟨by rfl, ?h5⟩) hS0 ?r5
    case h5 => (intro w hw; obtain ⟨q0, q1, q2, q3, q4⟩ := hw; go_simp; try (with_reducible rfl))
    try simp only [Act.put, zA10, zB10, zC10]
    refine wpAnyH_ready (rs := [4, 6]) (by kernel_rfl) (by simp) ?_
    refine AllReadyH.cons rfl ?_ (AllReadyH.cons rfl ?_ AllReadyH.nil)
    ·intro KK hKK
     go_simp
     refine hKK.out _ _ hS0 (fun _ => ?_)
     clear hKK KK
     refine wpAnyH_ready (rs := [6]) (by kernel_rfl) (by simp) ?_
     refine AllReadyH.cons rfl ?_ AllReadyH.nil
     intro KK hKK
     go_simp
     refine (CK.out _ kd).mono ?_
     rintro e wx ⟨vx, rfl, hox, hbx⟩
     obtain ⟨ax, cx, hvx⟩ := owns_form hox
     subst hvx
     show KK _ _
     have kk := below_then kd hbx
     have hS1 := HS.out _ kk
     have hcw := HCL.out _ kk
     refine hKK.out _ _ hS1 (fun _ => ?_)
     clear hKK KK
     refine wpAnyH_ready (rs := [7]) (by kernel_rfl) (by simp) ?_
     refine AllReadyH.cons rfl ?_ AllReadyH.nil
     intro KK hKK
     go_simp
     have hS2 := hS1.alloc (.cells #[.slice ax (keysOf l).length cx] 29)
     have hcw := HCA.out _ kk (.cells #[.slice ax (keysOf l).length cx] 29)
     refine hKK.out _ _ hS2 (fun _ => ?_)
     clear hKK KK
     refine wpAnyH_ready (rs := [8]) (by kernel_rfl) (by simp) ?_
     refine AllReadyH.cons rfl ?_ AllReadyH.nil
     intro KK hKK
     refine step_app _ rfl (.tmp 35) (.tmp 38) 30 rfl (w2.heap.size + 2) 29 i1 (.slice none 0 0) 1 24 Tryz.underlying30 hi1 hza1 hzb1 hzc1 rfl (by decide) (.slice aK K.length cK) K.length (K.map (·.1)) (by simp [Act.eval]) ((HRO.out _ kk).alloc _) ⟨_, 0, none⟩ 1 1 [.slice ax (keysOf l).length cx] (by rfl) rfl (cell_one_new _ _ _) (by intro u hu; simp at hu; subst hu; rfl) n3.out n4.out (HSZ.out _ _ kk) ?_
     intro v5 w5 hown5 hg5
     obtain ⟨a5, c5, hv5⟩ := owns_form hown5
     subst hv5
     obtain ⟨hfin, hS5, hfz, hcz⟩ := HFIN.out _ _ _ _ kk hox hown5 hg5
     show KK _ _
     refine hKK.out _ _ hS5 (fun _ => ?_)
     clear hKK KK
     refine takeQ (some 40) (i := 9) (v := ?v6) rfl rfl (by kernel_rfl) (by kernel_rfl) (by kernel_rfl) (fun _ _ _ h => h) (Or.inl ⟨by rfl, ?h6⟩) hS5 ?r6
     case h6 => (intro w hw; obtain ⟨q0, q1, q2, q3, q4⟩ := hw; go_simp; try (with_reducible rfl))
     try simp only [Act.put, List.setIfInBounds_toArray]
     refine takeQ (some 41) (i := 10) (v := ?v7) rfl rfl (by kernel_rfl) (by kernel_rfl) (by kernel_rfl) (fun _ _ _ h => h) (Or.inl ⟨by rfl, ?h7⟩) hS5 ?r7
     case h7 => (intro w hw; obtain ⟨q0, q1, q2, q3, q4⟩ := hw; go_simp; try (with_reducible rfl))
     try simp only [Act.put]
     refine wpAnyH_ready (rs := [11]) (by kernel_rfl) (by simp) ?_
     refine AllReadyH.cons rfl ?_ AllReadyH.nil
     intro KK hKK
     go_simp
     refine hKK.out _ _ hfin.s (fun _ => ?_)
     clear hKK KK
     refine wpAnyH_done (by kernel_rfl) ?_ _
     go_wp2_with fail
     go_meet
     exact ⟨_, _, rfl, hfin⟩
    ·intro KK hKK
     go_simp
     refine (CK.out _ kd).mono ?_
     rintro e wx ⟨vx, rfl, hox, hbx⟩
     obtain ⟨ax, cx, hvx⟩ := owns_form hox
     subst hvx
     show KK _ _
     have kk := below_then kd hbx
     have hS1 := HS.out _ kk
     have hcw := HCL.out _ kk
     refine hKK.out _ _ hS1 (fun _ => ?_)
     clear hKK KK
     refine wpAnyH_ready (rs := [4, 7]) (by kernel_rfl) (by simp) ?_
     refine AllReadyH.cons rfl ?_ (AllReadyH.cons rfl ?_ AllReadyH.nil)
     ·intro KK hKK
      go_simp
      refine hKK.out _ _ hS1 (fun _ => ?_)
      clear hKK KK
      refine wpAnyH_ready (rs := [7]) (by kernel_rfl) (by simp) ?_
      refine AllReadyH.cons rfl ?_ AllReadyH.nil
      intro KK hKK
      go_simp
      have hS2 := hS1.alloc (.cells #[.slice ax (keysOf l).length cx] 29)
      have hcw := HCA.out _ kk (.cells #[.slice ax (keysOf l).length cx] 29)
      refine hKK.out _ _ hS2 (fun _ => ?_)
      clear hKK KK
      refine wpAnyH_ready (rs := [8]) (by kernel_rfl) (by simp) ?_
      refine AllReadyH.cons rfl ?_ AllReadyH.nil
      intro KK hKK
      refine step_app _ rfl (.tmp 35) (.tmp 38) 30 rfl (w2.heap.size + 2) 29 i1 (.slice none 0 0) 1 24 Tryz.underlying30 hi1 hza1 hzb1 hzc1 rfl (by decide) (.slice aK K.length cK) K.length (K.map (·.1)) (by simp [Act.eval]) ((HRO.out _ kk).alloc _) ⟨_, 0, none⟩ 1 1 [.slice ax (keysOf l).length cx] (by rfl) rfl (cell_one_new _ _ _) (by intro u hu; simp at hu; subst hu; rfl) n3.out n4.out (HSZ.out _ _ kk) ?_
      intro v5 w5 hown5 hg5
      obtain ⟨a5, c5, hv5⟩ := owns_form hown5
      subst hv5
      obtain ⟨hfin, hS5, hfz, hcz⟩ := HFIN.out _ _ _ _ kk hox hown5 hg5
      show KK _ _
      refine hKK.out _ _ hS5 (fun _ => ?_)
      clear hKK KK
      refine takeQ (some 40) (i := 9) (v := ?v8) rfl rfl (by kernel_rfl) (by kernel_rfl) (by kernel_rfl) (fun _ _ _ h => h) (Or.inl ⟨by rfl, ?h8⟩) hS5 ?r8
      case h8 => (intro w hw; obtain ⟨q0, q1, q2, q3, q4⟩ := hw; go_simp; try (with_reducible rfl))
      try simp only [Act.put, List.setIfInBounds_toArray]
      refine takeQ (some 41) (i := 10) (v := ?v9) rfl rfl (by kernel_rfl) (by kernel_rfl) (by kernel_rfl) (fun _ _ _ h => h) (Or.inl ⟨by rfl, ?h9⟩) hS5 ?r9
      case h9 => (intro w hw; obtain ⟨q0, q1, q2, q3, q4⟩ := hw; go_simp; try (with_reducible rfl))
      try simp only [Act.put]
      refine wpAnyH_ready (rs := [11]) (by kernel_rfl) (by simp) ?_
      refine AllReadyH.cons rfl ?_ AllReadyH.nil
      intro KK hKK
      go_simp
      refine hKK.out _ _ hfin.s (fun _ => ?_)
      clear hKK KK
      refine wpAnyH_done (by kernel_rfl) ?_ _
      go_wp2_with fail
      go_meet
      exact ⟨_, _, rfl, hfin⟩
     ·intro KK hKK
      go_simp
      have hS2 := hS1.alloc (.cells #[.slice ax (keysOf l).length cx] 29)
      have hcw := HCA.out _ kk (.cells #[.slice ax (keysOf l).length cx] 29)
      refine hKK.out _ _ hS2 (fun _ => ?_)
      clear hKK KK
      refine wpAnyH_ready (rs := [4]) (by kernel_rfl) (by simp) ?_
      refine AllReadyH.cons rfl ?_ AllReadyH.nil
      intro KK hKK
      go_simp
      refine hKK.out _ _ hS2 (fun _ => ?_)
      clear hKK KK
      refine wpAnyH_ready (rs := [8]) (by kernel_rfl) (by simp) ?_
      refine AllReadyH.cons rfl ?_ AllReadyH.nil
      intro KK hKK
      refine step_app _ rfl (.tmp 35) (.tmp 38) 30 rfl (w2.heap.size + 2) 29 i1 (.slice none 0 0) 1 24 Tryz.underlying30 hi1 hza1 hzb1 hzc1 rfl (by decide) (.slice aK K.length cK) K.length (K.map (·.1)) (by simp [Act.eval]) ((HRO.out _ kk).alloc _) ⟨_, 0, none⟩ 1 1 [.slice ax (keysOf l).length cx] (by rfl) rfl (cell_one_new _ _ _) (by intro u hu; simp at hu; subst hu; rfl) n3.out n4.out (HSZ.out _ _ kk) ?_
      intro v5 w5 hown5 hg5
      obtain ⟨a5, c5, hv5⟩ := owns_form hown5
      subst hv5
      obtain ⟨hfin, hS5, hfz, hcz⟩ := HFIN.out _ _ _ _ kk hox hown5 hg5
      show KK _ _
      refine hKK.out _ _ hS5 (fun _ => ?_)
      clear hKK KK
      refine takeQ (some 40) (i := 9) (v := ?v10) rfl rfl (by kernel_rfl) (by kernel_rfl) (by kernel_rfl) (fun _ _ _ h => h) (Or.inl ⟨by rfl, ?h10⟩) hS5 ?r10
      case h10 => (intro w hw; obtain ⟨q0, q1, q2, q3, q4⟩ := hw; go_simp; try (with_reducible rfl))
      try simp only [Act.put, List.setIfInBounds_toArray]
      refine takeQ (some 41) (i := 10) (v := ?v11) rfl rfl (by kernel_rfl) (by kernel_rfl) (by kernel_rfl) (fun _ _ _ h => h) (Or.inl ⟨by rfl, ?h11⟩) hS5 ?r11
      case h11 => (intro w hw; obtain ⟨q0, q1, q2, q3, q4⟩ := hw; go_simp; try (with_reducible rfl))
      try simp only [Act.put]
      refine wpAnyH_ready (rs := [11]) (by kernel_rfl) (by simp) ?_
      refine AllReadyH.cons rfl ?_ AllReadyH.nil
      intro KK hKK
      go_simp
      refine hKK.out _ _ hfin.s (fun _ => ?_)
      clear hKK KK
      refine wpAnyH_done (by kernel_rfl) ?_ _
      go_wp2_with fail
      go_meet
      exact ⟨_, _, rfl, hfin⟩
   case rest =>
    obtain ⟨vk5, vx, rfl, hX5⟩ := hcut
    clear hX hOps1
    have hX := hX5
    clear hX5
    have HRD : Hid (∃ rd, rd = rdFr (wrTo h h.length) (k : Int) (refReads l)) := hid ⟨_, rfl⟩
    obtain ⟨rd, hrd⟩ := HRD.out
    have HRD2 := hid hrd
    clear hrd HRD
    go_upto_region 10 with fail
    go_cut [54] from 42 to 54 (fun u wx => ∃ (v5 : Value) (vy : Value), u = .pointer (some ⟨w2.heap.size, 195, none⟩) ∧ OfS w2 gx ts tb tc (.slice a2 l.length cap2) h.length vk5 v5 sd (K ++ [(vx, keysOf l)]) (R ++ [(vy, rd)]) wx)
    case first =>
     have hOps1 := HOPF.out wc hX.b
     have hMc := hM.below hX.b
     have kd := (Below.refl wc.heap.size wc).drew
     have CK : Hid (∀ wx, Below wc.heap.size wc wx → Calls Tryz.prog 58 #[.int .i64 k, .agg #[.int .i64 ts, .int .i64 tb, .int .i64 tc, .slice a2 l.length cap2], .map (some bm)] wx fun e w' => ∃ v, e = .returned v ∧ w'.ownsRow (w2.heap.size + 2) 111 2 v rd.length (frV rd) ∧ Below wx.heap.size wx w') := hid (fun wx hx => (oreads_any (k : Int) ts tb tc _ l (wrTo h h.length) bm _ _ wx (hOps1.below hx) HOL.out (by omega) (hMc.below hx)).mono (fun e w' ⟨v, out, he, ho, hr, _, hbb⟩ => by
      obtain rfl := hr.eq (refReads_rise HKL.out)
      rw [← HRD2.out] at ho
      exact ⟨v, he, own_base' ho (show w2.heap.size + 2 ≤ wx.heap.size by have h1 := hx.size; have h2 := hX.z; omega), hbb⟩))
     have HS : Hid (∀ wx, Below wc.heap.size wc wx → SB (w2.heap.size + 1) w2.heap.size gx ts tb tc (.slice a2 l.length cap2) wx) := hid (fun wx hx => hX.s.below hx)
     have hc0 := hX.o.cR
     have HCL : Hid (∀ wx, Below wc.heap.size wc wx → wx.cell? ⟨w2.heap.size, 195, none⟩ = some (.slice aR R.length cR)) := hid (fun wx hx => (hx.cell (p := ⟨w2.heap.size, 195, none⟩) (block_lt hc0)).trans hc0)
     have HCA : Hid (∀ wx, Below wc.heap.size wc wx → ∀ o, (wx.alloc o).cell? ⟨w2.heap.size, 195, none⟩ = some (.slice aR R.length cR)) := hid (fun wx hx o => HCL.out _ (hx.alloc hx.size o))
     have HRO : Hid (∀ wx, Below wc.heap.size wc wx → wx.ownsRow (w2.heap.size + 2) 103 1 (.slice aR R.length cR) R.length (R.map (·.1))) := hid (fun wx hx => owns_below hX.r.rr hx)
     have HSZ : Hid (∀ wx (o : Obj), Below wc.heap.size wc wx → w2.heap.size + 2 ≤ (wx.alloc o).heap.size) := hid (fun wx o hx => by have h1 := hx.size; have h2 := hX.z; simp; omega)
     have HFIN := hid (fun wx w5 v v5 hx => hX.addR (wx := wx) (w5 := w5) (v := v) (v5 := v5) (t := 103) (l := rd) hx)
     have n3 : Hid (R.length + 1 ≤ maxLen) := hid (by unfold maxLen; omega)
     have n4 : Hid ((R.length + 1) * 24 ≤ 140737488355328) := hid (by omega)
     refine wp_region_held_drew (S := SB (w2.heap.size + 1) w2.heap.size gx ts tb tc (.slice a2 l.length cap2)) (by kernel_rfl) hX.s.drew (fun hS0 => ?_)
     refine takeQ (some 42) (i := 0) (v := ?v101) rfl rfl (by kernel_rfl) (by kernel_rfl) (by kernel_rfl) (fun _ _ _ h => h) (Or.inl ⟨by rfl, ?h101⟩) hS0 ?r101
     case h101 => (intro w hw; obtain ⟨q0, q1, q2, q3, q4⟩ := hw; go_simp; try (with_reducible rfl))
     try simp only [Act.put, zA10, zB10, zC10]
     refine takeQ (some 43) (i := 1) (v := ?v102) rfl rfl (by kernel_rfl) (by kernel_rfl) (by kernel_rfl) (fun _ _ _ h => h) (Or.inl ⟨by rfl, ?h102⟩) hS0 ?r102
     case h102 => (intro w hw; obtain ⟨q0, q1, q2, q3, q4⟩ := hw; go_simp; try (with_reducible rfl))
     try simp only [Act.put, zA10, zB10, zC10]
     refine takeQ (some 47) (i := 5) (v := ?v103) rfl rfl (by kernel_rfl) (by kernel_rfl) (by kernel_rfl) (fun _ _ _ h => h) (Or.inl ⟨by rfl, ?h103⟩) hS0 ?r103
     case h103 => (intro w hw; obtain ⟨q0, q1, q2, q3, q4⟩ := hw; go_simp; try (with_reducible rfl))
     try simp only [Act.put, zA10, zB10, zC10]
     refine takeQ (some 48) (i := 6) (v := ?v104) rfl rfl (by kernel_rfl) (by kernel_rfl) (by kernel_rfl) (fun _ _ _ h => h) (Or.inl ⟨by rfl, ?h104⟩) hS0 ?r104
     case h104 => (intro w hw; obtain ⟨q0, q1, q2, q3, q4⟩ := hw; go_simp; try (with_reducible rfl))
     try simp only [Act.put, zA10, zB10, zC10]
     refine takeQ (some 49) (i := 7) (v := ?v105) rfl rfl (by kernel_rfl) (by kernel_rfl) (by kernel_rfl) (fun _ _ _ h => h) (Or.inl ⟨by rfl, ?h105⟩) hS0 ?r105
     case h105 => (intro w hw; obtain ⟨q0, q1, q2, q3, q4⟩ := hw; go_simp; try (with_reducible rfl))
     try simp only [Act.put, zA10, zB10, zC10]
     refine takeQ (some 44) (i := 2) (v := ?v106) rfl rfl (by kernel_rfl) (by kernel_rfl) (by kernel_rfl) (fun _ _ _ h => h) (Or.inl ⟨by rfl, ?h106⟩) hS0 ?r106
     case h106 => (intro w hw; obtain ⟨q0, q1, q2, q3, q4⟩ := hw; go_simp; try (with_reducible rfl))
     try simp only [Act.put, zA10, zB10, zC10]
     refine takeQ (some 45) (i := 3) (v := ?v107) rfl rfl (by kernel_rfl) (by kernel_rfl) (by kernel_rfl) (fun _ _ _ h => h) (Or.inl ⟨by rfl, ?h107⟩) hS0 ?r107
     case h107 => (intro w hw; obtain ⟨q0, q1, q2, q3, q4⟩ := hw; go_simp; try (with_reducible rfl))
     try simp only [Act.put, zA10, zB10, zC10]
     refine wpAnyH_ready (rs := [4, 8]) (by kernel_rfl) (by simp) ?_
     refine AllReadyH.cons rfl ?_ (AllReadyH.cons rfl ?_ AllReadyH.nil)
     ·intro KK hKK
      go_simp
      refine hKK.out _ _ hS0 (fun _ => ?_)
      clear hKK KK
      refine wpAnyH_ready (rs := [8]) (by kernel_rfl) (by simp) ?_
      refine AllReadyH.cons rfl ?_ AllReadyH.nil
      intro KK hKK
      go_simp
      refine (CK.out _ kd).mono ?_
      rintro e wx ⟨vx, rfl, hox, hbx⟩
      obtain ⟨ax, cx, hvx⟩ := owns_form hox
      subst hvx
      show KK _ _
      have kk := below_then kd hbx
      have hS1 := HS.out _ kk
      have hcw := HCL.out _ kk
      refine hKK.out _ _ hS1 (fun _ => ?_)
      clear hKK KK
      refine wpAnyH_ready (rs := [9]) (by kernel_rfl) (by simp) ?_
      refine AllReadyH.cons rfl ?_ AllReadyH.nil
      intro KK hKK
      go_simp
      have hS2 := hS1.alloc (.cells #[.slice ax rd.length cx] 103)
      have hcw := HCA.out _ kk (.cells #[.slice ax rd.length cx] 103)
      refine hKK.out _ _ hS2 (fun _ => ?_)
      clear hKK KK
      refine wpAnyH_ready (rs := [10]) (by kernel_rfl) (by simp) ?_
      refine AllReadyH.cons rfl ?_ AllReadyH.nil
      intro KK hKK
      refine step_app _ rfl (.tmp 46) (.tmp 51) 99 rfl (w2.heap.size + 2) 103 i2 (.slice none 0 0) 1 24 Tryz.underlying99 hi2 hza2 hzb2 hzc2 rfl (by decide) (.slice aR R.length cR) R.length (R.map (·.1)) (by simp [Act.eval]) ((HRO.out _ kk).alloc _) ⟨_, 0, none⟩ 1 1 [.slice ax rd.length cx] (by rfl) rfl (cell_one_new _ _ _) (by intro u hu; simp at hu; subst hu; rfl) n3.out n4.out (HSZ.out _ _ kk) ?_
      intro v5 w5 hown5 hg5
      obtain ⟨a5, c5, hv5⟩ := owns_form hown5
      subst hv5
      obtain ⟨hfin, hS5, hfz, hcz⟩ := HFIN.out _ _ _ _ kk hox hown5 hg5
      show KK _ _
      refine hKK.out _ _ hS5 (fun _ => ?_)
      clear hKK KK
      refine takeQ (some 53) (i := 11) (v := ?v108) rfl rfl (by kernel_rfl) (by kernel_rfl) (by kernel_rfl) (fun _ _ _ h => h) (Or.inl ⟨by rfl, ?h108⟩) hS5 ?r108
      case h108 => (intro w hw; obtain ⟨q0, q1, q2, q3, q4⟩ := hw; go_simp; try (with_reducible rfl))
      try simp only [Act.put, List.setIfInBounds_toArray]
      refine takeQ (some 54) (i := 12) (v := ?v109) rfl rfl (by kernel_rfl) (by kernel_rfl) (by kernel_rfl) (fun _ _ _ h => h) (Or.inl ⟨by rfl, ?h109⟩) hS5 ?r109
      case h109 => (intro w hw; obtain ⟨q0, q1, q2, q3, q4⟩ := hw; go_simp; try (with_reducible rfl))
      try simp only [Act.put]
      refine wpAnyH_ready (rs := [13]) (by kernel_rfl) (by simp) ?_
      refine AllReadyH.cons rfl ?_ AllReadyH.nil
      intro KK hKK
      go_simp
      refine hKK.out _ _ hfin.s (fun _ => ?_)
      clear hKK KK
      refine wpAnyH_done (by kernel_rfl) ?_ _
      go_wp2_with fail
      go_meet
      exact ⟨_, _, rfl, hfin⟩
     ·intro KK hKK
      go_simp
      refine (CK.out _ kd).mono ?_
      rintro e wx ⟨vx, rfl, hox, hbx⟩
      obtain ⟨ax, cx, hvx⟩ := owns_form hox
      subst hvx
      show KK _ _
      have kk := below_then kd hbx
      have hS1 := HS.out _ kk
      have hcw := HCL.out _ kk
      refine hKK.out _ _ hS1 (fun _ => ?_)
      clear hKK KK
      refine wpAnyH_ready (rs := [4, 9]) (by kernel_rfl) (by simp) ?_
      refine AllReadyH.cons rfl ?_ (AllReadyH.cons rfl ?_ AllReadyH.nil)
      ·intro KK hKK
       go_simp
       refine hKK.out _ _ hS1 (fun _ => ?_)
       clear hKK KK
       refine wpAnyH_ready (rs := [9]) (by kernel_rfl) (by simp) ?_
       refine AllReadyH.cons rfl ?_ AllReadyH.nil
       intro KK hKK
       go_simp
       have hS2 := hS1.alloc (.cells #[.slice ax rd.length cx] 103)
       have hcw := HCA.out _ kk (.cells #[.slice ax rd.length cx] 103)
       refine hKK.out _ _ hS2 (fun _ => ?_)
       clear hKK KK
       refine wpAnyH_ready (rs := [10]) (by kernel_rfl) (by simp) ?_
       refine AllReadyH.cons rfl ?_ AllReadyH.nil
       intro KK hKK
       refine step_app _ rfl (.tmp 46) (.tmp 51) 99 rfl (w2.heap.size + 2) 103 i2 (.slice none 0 0) 1 24 Tryz.underlying99 hi2 hza2 hzb2 hzc2 rfl (by decide) (.slice aR R.length cR) R.length (R.map (·.1)) (by simp [Act.eval]) ((HRO.out _ kk).alloc _) ⟨_, 0, none⟩ 1 1 [.slice ax rd.length cx] (by rfl) rfl (cell_one_new _ _ _) (by intro u hu; simp at hu; subst hu; rfl) n3.out n4.out (HSZ.out _ _ kk) ?_
       intro v5 w5 hown5 hg5
       obtain ⟨a5, c5, hv5⟩ := owns_form hown5
       subst hv5
       obtain ⟨hfin, hS5, hfz, hcz⟩ := HFIN.out _ _ _ _ kk hox hown5 hg5
       show KK _ _
       refine hKK.out _ _ hS5 (fun _ => ?_)
       clear hKK KK
       refine takeQ (some 53) (i := 11) (v := ?v110) rfl rfl (by kernel_rfl) (by kernel_rfl) (by kernel_rfl) (fun _ _ _ h => h) (Or.inl ⟨by rfl, ?h110⟩) hS5 ?r110
       case h110 => (intro w hw; obtain ⟨q0, q1, q2, q3, q4⟩ := hw; go_simp; try (with_reducible rfl))
       try simp only [Act.put, List.setIfInBounds_toArray]
       refine takeQ (some 54) (i := 12) (v := ?v111) rfl rfl (by kernel_rfl) (by kernel_rfl) (by kernel_rfl) (fun _ _ _ h => h) (Or.inl ⟨by rfl, ?h111⟩) hS5 ?r111
       case h111 => (intro w hw; obtain ⟨q0, q1, q2, q3, q4⟩ := hw; go_simp; try (with_reducible rfl))
       try simp only [Act.put]
       refine wpAnyH_ready (rs := [13]) (by kernel_rfl) (by simp) ?_
       refine AllReadyH.cons rfl ?_ AllReadyH.nil
       intro KK hKK
       go_simp
       refine hKK.out _ _ hfin.s (fun _ => ?_)
       clear hKK KK
       refine wpAnyH_done (by kernel_rfl) ?_ _
       go_wp2_with fail
       go_meet
       exact ⟨_, _, rfl, hfin⟩
      ·intro KK hKK
       go_simp
       have hS2 := hS1.alloc (.cells #[.slice ax rd.length cx] 103)
       have hcw := HCA.out _ kk (.cells #[.slice ax rd.length cx] 103)
       refine hKK.out _ _ hS2 (fun _ => ?_)
       clear hKK KK
       refine wpAnyH_ready (rs := [4]) (by kernel_rfl) (by simp) ?_
       refine AllReadyH.cons rfl ?_ AllReadyH.nil
       intro KK hKK
       go_simp
       refine hKK.out _ _ hS2 (fun _ => ?_)
       clear hKK KK
       refine wpAnyH_ready (rs := [10]) (by kernel_rfl) (by simp) ?_
       refine AllReadyH.cons rfl ?_ AllReadyH.nil
       intro KK hKK
       refine step_app _ rfl (.tmp 46) (.tmp 51) 99 rfl (w2.heap.size + 2) 103 i2 (.slice none 0 0) 1 24 Tryz.underlying99 hi2 hza2 hzb2 hzc2 rfl (by decide) (.slice aR R.length cR) R.length (R.map (·.1)) (by simp [Act.eval]) ((HRO.out _ kk).alloc _) ⟨_, 0, none⟩ 1 1 [.slice ax rd.length cx] (by rfl) rfl (cell_one_new _ _ _) (by intro u hu; simp at hu; subst hu; rfl) n3.out n4.out (HSZ.out _ _ kk) ?_
       intro v5 w5 hown5 hg5
       obtain ⟨a5, c5, hv5⟩ := owns_form hown5
       subst hv5
       obtain ⟨hfin, hS5, hfz, hcz⟩ := HFIN.out _ _ _ _ kk hox hown5 hg5
       show KK _ _
       refine hKK.out _ _ hS5 (fun _ => ?_)
       clear hKK KK
       refine takeQ (some 53) (i := 11) (v := ?v112) rfl rfl (by kernel_rfl) (by kernel_rfl) (by kernel_rfl) (fun _ _ _ h => h) (Or.inl ⟨by rfl, ?h112⟩) hS5 ?r112
       case h112 => (intro w hw; obtain ⟨q0, q1, q2, q3, q4⟩ := hw; go_simp; try (with_reducible rfl))
       try simp only [Act.put, List.setIfInBounds_toArray]
       refine takeQ (some 54) (i := 12) (v := ?v113) rfl rfl (by kernel_rfl) (by kernel_rfl) (by kernel_rfl) (fun _ _ _ h => h) (Or.inl ⟨by rfl, ?h113⟩) hS5 ?r113
       case h113 => (intro w hw; obtain ⟨q0, q1, q2, q3, q4⟩ := hw; go_simp; try (with_reducible rfl))
       try simp only [Act.put]
       refine wpAnyH_ready (rs := [13]) (by kernel_rfl) (by simp) ?_
       refine AllReadyH.cons rfl ?_ AllReadyH.nil
       intro KK hKK
       go_simp
       refine hKK.out _ _ hfin.s (fun _ => ?_)
       clear hKK KK
       refine wpAnyH_done (by kernel_rfl) ?_ _
       go_wp2_with fail
       go_meet
       exact ⟨_, _, rfl, hfin⟩
    case rest =>
     obtain ⟨vr5, vy, rfl, hX5⟩ := hcut
     clear hX
     have hX := hX5
     clear hX5
     have hOps1 := HOPF.out wc hX.b
     have hMc := hM.below hX.b
     have kd := (Below.refl wc.heap.size wc).drew
     have HSO : Hid (∃ so, so = (!(refReads l).any (badFr (wrTo h h.length) (k : Int)) && steadyL l)) := hid ⟨_, rfl⟩
     obtain ⟨so, hso⟩ := HSO.out
     have HSO2 := hid hso
     clear hso HSO
     have CK : Hid (∀ wx, Below wc.heap.size wc wx → Calls Tryz.prog 59 #[.int .i64 k, .agg #[.int .i64 ts, .int .i64 tb, .int .i64 tc, .slice a2 l.length cap2], .map (some bm)] wx fun e w' => e = .returned (.bool so) ∧ Below wx.heap.size wx w') := hid (fun wx hx => (osound_any (k : Int) ts tb tc _ l (wrTo h h.length) bm _ _ wx (hOps1.below hx) HOL.out (by omega) (hMc.below hx)).mono (fun e w' ⟨out, he, hr, _, hbb⟩ => by
      obtain rfl := hr.eq (refReads_rise HKL.out)
      rw [← HSO2.out] at he
      exact ⟨he, hbb⟩))
     have HK0 : Hid ((K ++ [(vx, keysOf l)]).map (·.2) = keysTo h (k + 1) ∧ (R ++ [(vy, rd)]).map (·.2) = readsTo h (k + 1) ∧ (sd && so) = soundTo h (k + 1)) := hid (by
      refine ⟨?_, ?_, ?_⟩
      ·rw [List.map_append, keysTo_succ, ← HK.out.1, HLK.out]; rfl
      ·rw [List.map_append, readsTo_succ, ← HK.out.2.1]
       unfold readsOf
       rw [HLK.out, ← HRD2.out]; rfl
      ·rw [soundTo_succ, ← HK.out.2.2]
       unfold soundOf
       rw [HLK.out, ← HSO2.out])
     go_upto_region 11 with fail
     cases sd
     ·have HK1 : Hid ((K ++ [(vx, keysOf l)]).map (·.2) = keysTo h (k + 1) ∧ (R ++ [(vy, rd)]).map (·.2) = readsTo h (k + 1) ∧ false = soundTo h (k + 1)) := hid HK0.out
      clear HK0
      refine wp_region_held_drew (S := SB (w2.heap.size + 1) w2.heap.size gx ts tb tc (.slice a2 l.length cap2)) (by kernel_rfl) hX.s.drew (fun hS0 => ?_)
      have hc0 := hX.o.cS
      refine takeQ (some 55) (i := 0) (v := ?v201) rfl rfl (by kernel_rfl) (by kernel_rfl) (by kernel_rfl) (fun _ _ _ h => h) (Or.inl ⟨by rfl, ?h201⟩) hS0 ?r201
      case h201 => (intro w hw; obtain ⟨q0, q1, q2, q3, q4⟩ := hw; go_simp; try (with_reducible rfl))
      try simp only [Act.put, zA10, zB10, zC10]
      refine takeQ (some 56) (i := 1) (v := ?v202) rfl rfl (by kernel_rfl) (by kernel_rfl) (by kernel_rfl) (fun _ _ _ h => h) (Or.inl ⟨by rfl, ?h202⟩) hS0 ?r202
      case h202 => (intro w hw; obtain ⟨q0, q1, q2, q3, q4⟩ := hw; go_simp; try (with_reducible rfl))
      try simp only [Act.put, zA10, zB10, zC10]
      refine takeQ (some 57) (i := 2) (v := ?v203) rfl rfl (by kernel_rfl) (by kernel_rfl) (by kernel_rfl) (fun _ _ _ h => h) (Or.inl ⟨by rfl, ?h203⟩) hS0 ?r203
      case h203 => (intro w hw; obtain ⟨q0, q1, q2, q3, q4⟩ := hw; go_simp; try (with_reducible rfl))
      try simp only [Act.put, zA10, zB10, zC10]
      refine takeQ (some 58) (i := 3) (v := ?v204) rfl rfl (by kernel_rfl) (by kernel_rfl) (by kernel_rfl) (fun _ _ _ h => h) (Or.inl ⟨by rfl, ?h204⟩) hS0 ?r204
      case h204 => (intro w hw; obtain ⟨q0, q1, q2, q3, q4⟩ := hw; go_simp; try (with_reducible rfl))
      try simp only [Act.put, zA10, zB10, zC10]
      refine wpAnyH_ready (rs := [4]) (by kernel_rfl) (by simp) ?_
      refine AllReadyH.cons rfl ?_ AllReadyH.nil
      intro KK hKK
      go_simp
      refine hKK.out _ _ hS0 (fun _ => ?_)
      clear hKK KK
      refine takeQ (some 60) (i := 5) (v := ?v205) rfl rfl (by kernel_rfl) (by kernel_rfl) (by kernel_rfl) (fun _ _ _ h => h) (Or.inl ⟨by rfl, ?h205⟩) hS0 ?r205
      case h205 => (intro w hw; obtain ⟨q0, q1, q2, q3, q4⟩ := hw; go_simp; try (with_reducible rfl))
      try simp only [Act.put, zA10, zB10, zC10]
      refine takeQ (some 61) (i := 6) (v := undef) rfl rfl (by kernel_rfl) (by kernel_rfl) (by kernel_rfl) (fun _ _ _ h => h) (Or.inr ⟨by rfl, rfl⟩) hS0 ?_
      try simp only [Act.put, zA10, zB10, zC10]
      refine takeQ (some 62) (i := 7) (v := undef) rfl rfl (by kernel_rfl) (by kernel_rfl) (by kernel_rfl) (fun _ _ _ h => h) (Or.inr ⟨by rfl, rfl⟩) hS0 ?_
      try simp only [Act.put, zA10, zB10, zC10]
      refine takeQ (some 63) (i := 8) (v := undef) rfl rfl (by kernel_rfl) (by kernel_rfl) (by kernel_rfl) (fun _ _ _ h => h) (Or.inr ⟨by rfl, rfl⟩) hS0 ?_
      try simp only [Act.put, zA10, zB10, zC10]
      refine wpAnyH_ready (rs := [9]) (by kernel_rfl) (by simp) ?_
      refine AllReadyH.cons rfl ?_ AllReadyH.nil
      intro KK hKK
      go_simp
      have hY := hX.below kd
      have hf := hY.o.free (i := 196) (by omega)
      have hc := hY.o.cS
      refine hKK.out _ _ hS0 (fun _ => ?_)
      clear hKK KK
      refine takeQ (some 65) (i := 10) (v := ?v206) rfl rfl (by kernel_rfl) (by kernel_rfl) (by kernel_rfl) (fun _ _ _ h => h) (Or.inl ⟨by rfl, ?h206⟩) hS0 ?r206
      case h206 => (intro w hw; obtain ⟨q0, q1, q2, q3, q4⟩ := hw; go_simp; try (with_reducible rfl))
      try simp only [Act.put, zA10, zB10, zC10]
      refine takeQ (some 66) (i := 11) (v := ?v207) rfl rfl (by kernel_rfl) (by kernel_rfl) (by kernel_rfl) (fun _ _ _ h => h) (Or.inl ⟨by rfl, ?h207⟩) hS0 ?r207
      case h207 => (intro w hw; obtain ⟨q0, q1, q2, q3, q4⟩ := hw; go_simp; try (with_reducible rfl))
      try simp only [Act.put, zA10, zB10, zC10]
      refine takeQ (some 67) (i := 12) (v := ?v208) rfl rfl (by kernel_rfl) (by kernel_rfl) (by kernel_rfl) (fun _ _ _ h => h) (Or.inl ⟨by rfl, ?h208⟩) hS0 ?r208
      case h208 => (intro w hw; obtain ⟨q0, q1, q2, q3, q4⟩ := hw; go_simp; try (with_reducible rfl))
      try simp only [Act.put, zA10, zB10, zC10]
      refine wpAnyH_ready (rs := [13]) (by kernel_rfl) (by simp) ?_
      refine AllReadyH.cons rfl ?_ AllReadyH.nil
      intro KK hKK
      go_simp
      have hZ := hY.setS false
      refine hKK.out _ _ hZ.s (fun _ => ?_)
      clear hKK KK
      refine wpAnyH_done (by kernel_rfl) ?_ _
      clear hX hY CK kd hc hf hS0
      go_wp2_with fail
      go_roundw
      case rel => exact ⟨k + 1, _, _, _, _, _, by omega, by go_num, HK1.out.1, HK1.out.2.1, HK1.out.2.2, hZ.o, hZ.s.1, hZ.r, hZ.b, hZ.z⟩
      case measure => simp [intOf]; omega
     ·have HK1 : Hid ((K ++ [(vx, keysOf l)]).map (·.2) = keysTo h (k + 1) ∧ (R ++ [(vy, rd)]).map (·.2) = readsTo h (k + 1) ∧ so = soundTo h (k + 1)) := hid HK0.out
      clear HK0
      refine wp_region_held_drew (S := SB (w2.heap.size + 1) w2.heap.size gx ts tb tc (.slice a2 l.length cap2)) (by kernel_rfl) hX.s.drew (fun hS0 => ?_)
      have hc0 := hX.o.cS
      refine takeQ (some 55) (i := 0) (v := ?v301) rfl rfl (by kernel_rfl) (by kernel_rfl) (by kernel_rfl) (fun _ _ _ h => h) (Or.inl ⟨by rfl, ?h301⟩) hS0 ?r301
      case h301 => (intro w hw; obtain ⟨q0, q1, q2, q3, q4⟩ := hw; go_simp; try (with_reducible rfl))
      try simp only [Act.put, zA10, zB10, zC10]
      refine takeQ (some 56) (i := 1) (v := ?v302) rfl rfl (by kernel_rfl) (by kernel_rfl) (by kernel_rfl) (fun _ _ _ h => h) (Or.inl ⟨by rfl, ?h302⟩) hS0 ?r302
      case h302 => (intro w hw; obtain ⟨q0, q1, q2, q3, q4⟩ := hw; go_simp; try (with_reducible rfl))
      try simp only [Act.put, zA10, zB10, zC10]
      refine takeQ (some 57) (i := 2) (v := ?v303) rfl rfl (by kernel_rfl) (by kernel_rfl) (by kernel_rfl) (fun _ _ _ h => h) (Or.inl ⟨by rfl, ?h303⟩) hS0 ?r303
      case h303 => (intro w hw; obtain ⟨q0, q1, q2, q3, q4⟩ := hw; go_simp; try (with_reducible rfl))
      try simp only [Act.put, zA10, zB10, zC10]
      refine takeQ (some 58) (i := 3) (v := ?v304) rfl rfl (by kernel_rfl) (by kernel_rfl) (by kernel_rfl) (fun _ _ _ h => h) (Or.inl ⟨by rfl, ?h304⟩) hS0 ?r304
      case h304 => (intro w hw; obtain ⟨q0, q1, q2, q3, q4⟩ := hw; go_simp; try (with_reducible rfl))
      try simp only [Act.put, zA10, zB10, zC10]
      refine wpAnyH_ready (rs := [4]) (by kernel_rfl) (by simp) ?_
      refine AllReadyH.cons rfl ?_ AllReadyH.nil
      intro KK hKK
      go_simp
      refine hKK.out _ _ hS0 (fun _ => ?_)
      clear hKK KK
      refine takeQ (some 60) (i := 5) (v := ?v305) rfl rfl (by kernel_rfl) (by kernel_rfl) (by kernel_rfl) (fun _ _ _ h => h) (Or.inl ⟨by rfl, ?h305⟩) hS0 ?r305
      case h305 => (intro w hw; obtain ⟨q0, q1, q2, q3, q4⟩ := hw; go_simp; try (with_reducible rfl))
      try simp only [Act.put, zA10, zB10, zC10]
      refine takeQ (some 61) (i := 6) (v := ?v306) rfl rfl (by kernel_rfl) (by kernel_rfl) (by kernel_rfl) (fun _ _ _ h => h) (Or.inl ⟨by rfl, ?h306⟩) hS0 ?r306
      case h306 => (intro w hw; obtain ⟨q0, q1, q2, q3, q4⟩ := hw; go_simp; try (with_reducible rfl))
      try simp only [Act.put, zA10, zB10, zC10]
      refine takeQ (some 62) (i := 7) (v := ?v307) rfl rfl (by kernel_rfl) (by kernel_rfl) (by kernel_rfl) (fun _ _ _ h => h) (Or.inl ⟨by rfl, ?h307⟩) hS0 ?r307
      case h307 => (intro w hw; obtain ⟨q0, q1, q2, q3, q4⟩ := hw; go_simp; try (with_reducible rfl))
      try simp only [Act.put, zA10, zB10, zC10]
      refine takeQ (some 63) (i := 8) (v := ?v308) rfl rfl (by kernel_rfl) (by kernel_rfl) (by kernel_rfl) (fun _ _ _ h => h) (Or.inl ⟨by rfl, ?h308⟩) hS0 ?r308
      case h308 => (intro w hw; obtain ⟨q0, q1, q2, q3, q4⟩ := hw; go_simp; try (with_reducible rfl))
      try simp only [Act.put, zA10, zB10, zC10]
      refine wpAnyH_ready (rs := [9]) (by kernel_rfl) (by simp) ?_
      refine AllReadyH.cons rfl ?_ AllReadyH.nil
      intro KK hKK
      go_simp
      refine (CK.out _ kd).mono ?_
      rintro e wx ⟨rfl, hbx⟩
      show KK _ _
      have kk := below_then kd hbx
      have hY := hX.below kk
      have hf := hY.o.free (i := 196) (by omega)
      have hc := hY.o.cS
      refine hKK.out _ _ hY.s (fun _ => ?_)
      clear hKK KK
      refine takeQ (some 65) (i := 10) (v := ?v309) rfl rfl (by kernel_rfl) (by kernel_rfl) (by kernel_rfl) (fun _ _ _ h => h) (Or.inl ⟨by rfl, ?h309⟩) hY.s ?r309
      case h309 => (intro w hw; obtain ⟨q0, q1, q2, q3, q4⟩ := hw; go_simp; try (with_reducible rfl))
      try simp only [Act.put, zA10, zB10, zC10]
      refine takeQ (some 66) (i := 11) (v := ?v310) rfl rfl (by kernel_rfl) (by kernel_rfl) (by kernel_rfl) (fun _ _ _ h => h) (Or.inl ⟨by rfl, ?h310⟩) hY.s ?r310
      case h310 => (intro w hw; obtain ⟨q0, q1, q2, q3, q4⟩ := hw; go_simp; try (with_reducible rfl))
      try simp only [Act.put, zA10, zB10, zC10]
      refine takeQ (some 67) (i := 12) (v := ?v311) rfl rfl (by kernel_rfl) (by kernel_rfl) (by kernel_rfl) (fun _ _ _ h => h) (Or.inl ⟨by rfl, ?h311⟩) hY.s ?r311
      case h311 => (intro w hw; obtain ⟨q0, q1, q2, q3, q4⟩ := hw; go_simp; try (with_reducible rfl))
      try simp only [Act.put, zA10, zB10, zC10]
      refine wpAnyH_ready (rs := [13]) (by kernel_rfl) (by simp) ?_
      refine AllReadyH.cons rfl ?_ AllReadyH.nil
      intro KK hKK
      go_simp
      have hZ := hY.setS so
      refine hKK.out _ _ hZ.s (fun _ => ?_)
      clear hKK KK
      refine wpAnyH_done (by kernel_rfl) ?_ _
      clear hX hY CK kd hc hf hS0 kk hbx
      go_wp2_with fail
      go_roundw
      case rel => exact ⟨k + 1, _, _, _, _, _, by omega, by go_num, HK1.out.1, HK1.out.2.1, HK1.out.2.2, hZ.o, hZ.s.1, hZ.r, hZ.b, hZ.z⟩
      case measure => simp [intOf]; omega
  ·have hkl : k = h.length := by omega
   subst hkl
   have hA4 := (hb.cell (p := ⟨w.heap.size, 0, none⟩) hlt).trans hA2
   have hbw := below_then hb4 hb
   have hX : OfT w2 w.heap.size (.slice ao h.length cap) h.length noR noR noR (.map none) vk vr sd K R wr := ⟨hO, ⟨hC, hA4⟩, hF, hb, hlt⟩
   have hKl : K.length ≤ 64 := by have := congrArg List.length HK.out.1; simp [keysTo] at this; omega
   obtain ⟨aK, cK, rfl⟩ := owns_form hX.r.kr
   obtain ⟨aR, cR, rfl⟩ := owns_form hX.r.rr
   have HKE : Hid (∀ p ∈ K, p.2.length ≤ 64 ∧ ∀ x ∈ p.2, InI x) := hid (fun p hp => by
    have hm : p.2 ∈ keysTo h h.length := by rw [← HK.out.1]; exact List.mem_map.2 ⟨p, hp, rfl⟩
    unfold keysTo at hm
    obtain ⟨i, hi, he⟩ := List.mem_map.1 hm
    have hil := List.mem_range.1 hi
    rw [← he]
    unfold keysOf
    refine ⟨by rw [List.length_map]; exact upTo_len _ 64, fun x hx => ?_⟩
    obtain ⟨q, hq, rfl⟩ := List.mem_map.1 hx
    have hq2 := lastW_key ((((refWrites_rise (by rw [opsAt_eq hil]; exact HKS.out _ (List.getElem_mem hil))).2 q).1 hq).1)
    exact inI_of (((HOK.out _ (List.getElem_mem hil)).2 q (by rw [← opsAt_eq hil]; exact hq2.2.2)).1))
   have kd := (Below.refl wr.heap.size wr).drew
   have CWR : Hid (∀ wx, Below wr.heap.size wr wx → Calls Tryz.prog 60 #[.slice aK K.length cK] wx fun e w' => ∃ b n c, e = .returned (.map (some b)) ∧ wx.heap.size ≤ b ∧ MapI eS Tryz.prog 3 w' b n (wrsTo K K.length) c ∧ AllSet (wrsTo K K.length) ∧ Below wx.heap.size wx w') := hid (fun wx hx => owriters_any _ K wx ((hX.r.below hx).rws) (by omega) (fun p hp => by have := (HKE.out p hp).1; omega) (fun p hp => (HKE.out p hp).2))
   have hmf : ∀ (fn : Fn) (first cap : Array Value) (w : World), (Instr.makeFunc fn first cap).run Tryz.prog w = .ok (.func fn first cap) w := fun _ _ _ _ => rfl
   clear hO hC hF hb hA4 hbw
   go_wp2_with fail
   refine wp_region_held_drew (S := SA (w2.heap.size + 1) w2.heap.size w.heap.size (.slice ao h.length cap)) (by kernel_rfl) hX.drew.s (fun hS0 => ?_)
   have hc0 := hX.o.cK
   refine takeQ (some 69) (i := 0) (v := ?v401) rfl rfl (by kernel_rfl) (by kernel_rfl) (by kernel_rfl) (fun _ _ _ h => h) (Or.inl ⟨by rfl, ?h401⟩) hS0 ?r401
   case h401 => (intro w hw; obtain ⟨q0, q1⟩ := hw; go_simp; try (with_reducible rfl))
   try simp only [Act.put, zA10, zB10, zC10]
   refine takeQ (some 70) (i := 1) (v := ?v402) rfl rfl (by kernel_rfl) (by kernel_rfl) (by kernel_rfl) (fun _ _ _ h => h) (Or.inl ⟨by rfl, ?h402⟩) hS0 ?r402
   case h402 => (intro w hw; obtain ⟨q0, q1⟩ := hw; go_simp; try (with_reducible rfl))
   try simp only [Act.put, zA10, zB10, zC10]
   refine takeQ (some 71) (i := 2) (v := ?v403) rfl rfl (by kernel_rfl) (by kernel_rfl) (by kernel_rfl) (fun _ _ _ h => h) (Or.inl ⟨by rfl, ?h403⟩) hS0 ?r403
   case h403 => (intro w hw; obtain ⟨q0, q1⟩ := hw; go_simp; try (with_reducible rfl))
   try simp only [Act.put, zA10, zB10, zC10]
   refine takeQ (some 72) (i := 3) (v := ?v404) rfl rfl (by kernel_rfl) (by kernel_rfl) (by kernel_rfl) (fun _ _ _ h => h) (Or.inl ⟨by rfl, ?h404⟩) hS0 ?r404
   case h404 => (intro w hw; obtain ⟨q0, q1⟩ := hw; go_simp; try (with_reducible rfl))
   try simp only [Act.put, zA10, zB10, zC10]
   refine wpAnyH_ready (rs := [4]) (by kernel_rfl) (by simp) ?_
   refine AllReadyH.cons rfl ?_ AllReadyH.nil
   intro KK hKK
   go_simp
   refine hKK.out _ _ hS0 (fun _ => ?_)
   clear hKK KK
   refine wpAnyH_ready (rs := [5]) (by kernel_rfl) (by simp) ?_
   refine AllReadyH.cons rfl ?_ AllReadyH.nil
   intro KK hKK
   go_simp
   refine (CWR.out _ kd).mono ?_
   rintro e wx ⟨bw, nw, cw, rfl, hbw, hMw, hAw, hbx⟩
   show KK _ _
   have hY := hX.below (below_then kd hbx)
   have hbB : w2.heap.size < bw := by have h1 := hX.b.size; have h2 := hX.o.lt; have h3 := kd.size; omega
   have hf := hY.o.free (i := 193) (by omega)
   have hc := hY.o.cM
   refine hKK.out _ _ hY.s (fun _ => ?_)
   clear hKK KK
   refine takeQ (some 75) (i := 6) (v := ?v405) rfl rfl (by kernel_rfl) (by kernel_rfl) (by kernel_rfl) (fun _ _ _ h => h) (Or.inl ⟨by rfl, ?h405⟩) hY.s ?r405
   case h405 => (intro w hw; obtain ⟨q0, q1⟩ := hw; go_simp; try (with_reducible rfl))
   try simp only [Act.put, zA10, zB10, zC10]
   refine takeQ (some 76) (i := 7) (v := ?v406) rfl rfl (by kernel_rfl) (by kernel_rfl) (by kernel_rfl) (fun _ _ _ h => h) (Or.inl ⟨by rfl, ?h406⟩) hY.s ?r406
   case h406 => (intro w hw; obtain ⟨q0, q1⟩ := hw; go_simp; try (with_reducible rfl))
   try simp only [Act.put, zA10, zB10, zC10]
   refine wpAnyH_ready (rs := [8]) (by kernel_rfl) (by simp) ?_
   refine AllReadyH.cons rfl ?_ AllReadyH.nil
   intro KK hKK
   go_simp
   have hX13 := hY.setM (.map (some bw))
   have hM13 := hMw.cell (a := ⟨w2.heap.size, 193, none⟩) (by simp; omega) (.map (some bw))
   refine hKK.out _ _ hX13.s (fun _ => ?_)
   clear hKK KK
   refine wpAnyH_done (by kernel_rfl) ?_ _
   clear hX hY kd CWR hc hf hc0 hS0 hMw
   generalize wx.setCell ⟨w2.heap.size, 193, none⟩ (.map (some bw)) = w3 at *
   have hX := hX13
   have hM3 := hM13
   clear hX13 hM13
   have kd := (Below.refl w3.heap.size w3).drew
   have CP : Hid (∀ wx, Below w3.heap.size w3 wx → Calls Tryz.prog 61 #[.int .i64 h.length, .func (.func 62) #[] #[.pointer (some ⟨w.heap.size, 0, none⟩)]] wx fun e w' => e = .returned (.agg (rowsA (sesM h))) ∧ Below wx.heap.size wx w') := hid (fun wx hx => pairs_any (sesP h) h.length (by omega) _ _ wx enters_ses (fun a b wy ha hb hy => ses_calls _ h _ a b wy ((hX.below (below_then hx hy)).s.2) (HT.out _ (below_then hb4 (hX.below (below_then hx hy)).b)) ha hb))
   go_wp2_with fail
   refine wp_region_held_drew (S := SA (w2.heap.size + 1) w2.heap.size w.heap.size (.slice ao h.length cap)) (by kernel_rfl) hX.drew.s (fun hS0 => ?_)
   refine takeQ (some 77) (i := 0) (v := ?v501) rfl rfl (by kernel_rfl) (by kernel_rfl) (by kernel_rfl) (fun _ _ _ h => h) (Or.inl ⟨by rfl, ?h501⟩) hS0 ?r501
   case h501 => (intro w hw; obtain ⟨q0, q1⟩ := hw; go_simp; try (with_reducible rfl))
   try simp only [Act.put, zA10, zB10, zC10]
   refine takeQ (some 78) (i := 1) (v := ?v502) rfl rfl (by kernel_rfl) (by kernel_rfl) (by kernel_rfl) (fun _ _ _ h => h) (Or.inl ⟨by rfl, ?h502⟩) hS0 ?r502
   case h502 => (intro w hw; obtain ⟨q0, q1⟩ := hw; go_simp; try (with_reducible rfl))
   try simp only [Act.put, zA10, zB10, zC10]
   refine takeQ (some 79) (i := 2) (v := ?v503) rfl rfl (by kernel_rfl) (by kernel_rfl) (by kernel_rfl) (fun _ _ _ h => h) (Or.inl ⟨by rfl, ?h503⟩) hS0 ?r503
   case h503 => (intro w hw; obtain ⟨q0, q1⟩ := hw; go_simp; try (with_reducible rfl))
   try simp only [Act.put, zA10, zB10, zC10]
   refine takeQ (some 80) (i := 3) (v := ?v504) rfl rfl (by kernel_rfl) (by kernel_rfl) (by kernel_rfl) (fun _ _ _ h => h) (Or.inl ⟨by rfl, ?h504⟩) hS0 ?r504
   case h504 => (intro w hw; obtain ⟨q0, q1⟩ := hw; go_simp; try (with_reducible rfl))
   try simp only [Act.put, zA10, zB10, zC10]
   refine wpAnyH_ready (rs := [4]) (by kernel_rfl) (by simp) ?_
   refine AllReadyH.cons rfl ?_ AllReadyH.nil
   intro KK hKK
   go_simp
   refine (CP.out _ kd).mono ?_
   rintro e wx ⟨rfl, hbx⟩
   show KK _ _
   have kk := below_then kd hbx
   have hY := hX.below kk
   have hMY := hM3.below kk
   refine hKK.out _ _ hY.s (fun _ => ?_)
   clear hKK KK
   refine takeQ (some 82) (i := 5) (v := ?v505) rfl rfl (by kernel_rfl) (by kernel_rfl) (by kernel_rfl) (fun _ _ _ h => h) (Or.inl ⟨by rfl, ?h505⟩) hY.s ?r505
   case h505 => (intro w hw; obtain ⟨q0, q1⟩ := hw; go_simp; try (with_reducible rfl))
   try simp only [Act.put, List.setIfInBounds_toArray]
   refine takeQ (some 83) (i := 6) (v := ?v506) rfl rfl (by kernel_rfl) (by kernel_rfl) (by kernel_rfl) (fun _ _ _ h => h) (Or.inl ⟨by rfl, ?h506⟩) hY.s ?r506
   case h506 => (intro w hw; obtain ⟨q0, q1⟩ := hw; go_simp; try (with_reducible rfl))
   try simp only [Act.put]
   refine wpAnyH_ready (rs := [7]) (by kernel_rfl) (by simp) ?_
   refine AllReadyH.cons rfl ?_ AllReadyH.nil
   intro KK hKK
   rw [if_pos (by rfl)]
   refine wp_store_mid 97 (.tmp 83) (.tmp 81) rfl w2.heap.size 1 (rowsA (sesM h)) rfl rfl (by rw [rowsA_size]; exact hY.o.there 1 (by omega)) (infoRel' _) (rows_one _) ?_
   have hXn := hY.setS (sesM h)
   have hMn := MapI.cells (g := w2.heap.size) (by omega) (rowsA (sesM h)).toList 1 _ hMY
   refine hKK.out _ _ hXn.s (fun _ => ?_)
   clear hKK KK
   refine wpAnyH_done (by kernel_rfl) ?_ _
   clear hX hM3 hY kd CP hS0 hMY kk hbx
   generalize wx.setCells w2.heap.size 1 (rowsA (sesM h)).toList = w3 at *
   have hX := hXn
   have hM3 := hMn
   clear hXn hMn
   have kd := (Below.refl w3.heap.size w3).drew
   have CP : Hid (∀ wx, Below w3.heap.size w3 wx → Calls Tryz.prog 61 #[.int .i64 h.length, .func (.func 63) #[] #[.pointer (some ⟨w.heap.size, 0, none⟩)]] wx fun e w' => e = .returned (.agg (rowsA (timM h))) ∧ Below wx.heap.size wx w') := hid (fun wx hx => pairs_any (timP h) h.length (by omega) _ _ wx enters_tim (fun a b wy ha hb hy => tim_calls _ h _ a b wy ((hX.below (below_then hx hy)).s.2) (HT.out _ (below_then hb4 (hX.below (below_then hx hy)).b)) ha hb))
   go_wp2_with fail
   refine wp_region_held_drew (S := SA (w2.heap.size + 1) w2.heap.size w.heap.size (.slice ao h.length cap)) (by kernel_rfl) hX.drew.s (fun hS0 => ?_)
   refine takeQ (some 84) (i := 0) (v := ?v601) rfl rfl (by kernel_rfl) (by kernel_rfl) (by kernel_rfl) (fun _ _ _ h => h) (Or.inl ⟨by rfl, ?h601⟩) hS0 ?r601
   case h601 => (intro w hw; obtain ⟨q0, q1⟩ := hw; go_simp; try (with_reducible rfl))
   try simp only [Act.put, zA10, zB10, zC10]
   refine takeQ (some 85) (i := 1) (v := ?v602) rfl rfl (by kernel_rfl) (by kernel_rfl) (by kernel_rfl) (fun _ _ _ h => h) (Or.inl ⟨by rfl, ?h602⟩) hS0 ?r602
   case h602 => (intro w hw; obtain ⟨q0, q1⟩ := hw; go_simp; try (with_reducible rfl))
   try simp only [Act.put]
   refine takeQ (some 86) (i := 2) (v := ?v603) rfl rfl (by kernel_rfl) (by kernel_rfl) (by kernel_rfl) (fun _ _ _ h => h) (Or.inl ⟨by rfl, ?h603⟩) hS0 ?r603
   case h603 => (intro w hw; obtain ⟨q0, q1⟩ := hw; go_simp; try (with_reducible rfl))
   try simp only [Act.put]
   refine takeQ (some 87) (i := 3) (v := ?v604) rfl rfl (by kernel_rfl) (by kernel_rfl) (by kernel_rfl) (fun _ _ _ h => h) (Or.inl ⟨by rfl, ?h604⟩) hS0 ?r604
   case h604 => (intro w hw; obtain ⟨q0, q1⟩ := hw; go_simp; try (with_reducible rfl))
   try simp only [Act.put]
   refine wpAnyH_ready (rs := [4]) (by kernel_rfl) (by simp) ?_
   refine AllReadyH.cons rfl ?_ AllReadyH.nil
   intro KK hKK
   go_simp
   refine (CP.out _ kd).mono ?_
   rintro e wx ⟨rfl, hbx⟩
   show KK _ _
   have kk := below_then kd hbx
   have hY := hX.below kk
   have hMY := hM3.below kk
   refine hKK.out _ _ hY.s (fun _ => ?_)
   clear hKK KK
   refine takeQ (some 89) (i := 5) (v := ?v605) rfl rfl (by kernel_rfl) (by kernel_rfl) (by kernel_rfl) (fun _ _ _ h => h) (Or.inl ⟨by rfl, ?h605⟩) hY.s ?r605
   case h605 => (intro w hw; obtain ⟨q0, q1⟩ := hw; go_simp; try (with_reducible rfl))
   try simp only [Act.put, List.setIfInBounds_toArray]
   refine takeQ (some 90) (i := 6) (v := ?v606) rfl rfl (by kernel_rfl) (by kernel_rfl) (by kernel_rfl) (fun _ _ _ h => h) (Or.inl ⟨by rfl, ?h606⟩) hY.s ?r606
   case h606 => (intro w hw; obtain ⟨q0, q1⟩ := hw; go_simp; try (with_reducible rfl))
   try simp only [Act.put]
   refine wpAnyH_ready (rs := [7]) (by kernel_rfl) (by simp) ?_
   refine AllReadyH.cons rfl ?_ AllReadyH.nil
   intro KK hKK
   rw [if_pos (by rfl)]
   refine wp_store_mid 97 (.tmp 90) (.tmp 88) rfl w2.heap.size 65 (rowsA (timM h)) rfl rfl (by rw [rowsA_size]; exact hY.o.there 65 (by omega)) (infoRel' _) (rows_one _) ?_
   have hXn := hY.setT (timM h)
   have hMn := MapI.cells (g := w2.heap.size) (by omega) (rowsA (timM h)).toList 65 _ hMY
   refine hKK.out _ _ hXn.s (fun _ => ?_)
   clear hKK KK
   refine wpAnyH_done (by kernel_rfl) ?_ _
   clear hX hM3 hY kd CP hS0 hMY kk hbx
   generalize wx.setCells w2.heap.size 65 (rowsA (timM h)).toList = w3 at *
   have hX := hXn
   have hM3 := hMn
   clear hXn hMn
   have kd := (Below.refl w3.heap.size w3).drew
   have CP : Hid (∀ wx, Below w3.heap.size w3 wx → Calls Tryz.prog 61 #[.int .i64 h.length, .func (.func 64) #[] #[.pointer (some ⟨w2.heap.size + 1, 0, none⟩)]] wx fun e w' => e = .returned (.agg (rowsA (froM h))) ∧ Below wx.heap.size wx w') := hid (fun wx hx => pairs_any (froP h) h.length (by omega) _ _ wx enters_fro (fun a b wy ha hb hy => fro_calls _ h R _ _ a b wy ((hX.below (below_then hx hy)).s.1) ((hX.below (below_then hx hy)).o.cR) ((hX.below (below_then hx hy)).r.frws) HK.out.2.1 hb))
   go_wp2_with fail
   refine wp_region_held_drew (S := SA (w2.heap.size + 1) w2.heap.size w.heap.size (.slice ao h.length cap)) (by kernel_rfl) hX.drew.s (fun hS0 => ?_)
   refine takeQ (some 91) (i := 0) (v := ?v701) rfl rfl (by kernel_rfl) (by kernel_rfl) (by kernel_rfl) (fun _ _ _ h => h) (Or.inl ⟨by rfl, ?h701⟩) hS0 ?r701
   case h701 => (intro w hw; obtain ⟨q0, q1⟩ := hw; go_simp; try (with_reducible rfl))
   try simp only [Act.put, zA10, zB10, zC10]
   refine takeQ (some 92) (i := 1) (v := ?v702) rfl rfl (by kernel_rfl) (by kernel_rfl) (by kernel_rfl) (fun _ _ _ h => h) (Or.inl ⟨by rfl, ?h702⟩) hS0 ?r702
   case h702 => (intro w hw; obtain ⟨q0, q1⟩ := hw; go_simp; try (with_reducible rfl))
   try simp only [Act.put]
   refine takeQ (some 93) (i := 2) (v := ?v703) rfl rfl (by kernel_rfl) (by kernel_rfl) (by kernel_rfl) (fun _ _ _ h => h) (Or.inl ⟨by rfl, ?h703⟩) hS0 ?r703
   case h703 => (intro w hw; obtain ⟨q0, q1⟩ := hw; go_simp; try (with_reducible rfl))
   try simp only [Act.put]
   refine takeQ (some 94) (i := 3) (v := ?v704) rfl rfl (by kernel_rfl) (by kernel_rfl) (by kernel_rfl) (fun _ _ _ h => h) (Or.inl ⟨by rfl, ?h704⟩) hS0 ?r704
   case h704 => (intro w hw; obtain ⟨q0, q1⟩ := hw; go_simp; try (with_reducible rfl))
   try simp only [Act.put]
   refine wpAnyH_ready (rs := [4]) (by kernel_rfl) (by simp) ?_
   refine AllReadyH.cons rfl ?_ AllReadyH.nil
   intro KK hKK
   go_simp
   refine (CP.out _ kd).mono ?_
   rintro e wx ⟨rfl, hbx⟩
   show KK _ _
   have kk := below_then kd hbx
   have hY := hX.below kk
   have hMY := hM3.below kk
   refine hKK.out _ _ hY.s (fun _ => ?_)
   clear hKK KK
   refine takeQ (some 96) (i := 5) (v := ?v705) rfl rfl (by kernel_rfl) (by kernel_rfl) (by kernel_rfl) (fun _ _ _ h => h) (Or.inl ⟨by rfl, ?h705⟩) hY.s ?r705
   case h705 => (intro w hw; obtain ⟨q0, q1⟩ := hw; go_simp; try (with_reducible rfl))
   try simp only [Act.put, List.setIfInBounds_toArray]
   refine takeQ (some 97) (i := 6) (v := ?v706) rfl rfl (by kernel_rfl) (by kernel_rfl) (by kernel_rfl) (fun _ _ _ h => h) (Or.inl ⟨by rfl, ?h706⟩) hY.s ?r706
   case h706 => (intro w hw; obtain ⟨q0, q1⟩ := hw; go_simp; try (with_reducible rfl))
   try simp only [Act.put]
   refine wpAnyH_ready (rs := [7]) (by kernel_rfl) (by simp) ?_
   refine AllReadyH.cons rfl ?_ AllReadyH.nil
   intro KK hKK
   rw [if_pos (by rfl)]
   refine wp_store_mid 97 (.tmp 97) (.tmp 95) rfl w2.heap.size 129 (rowsA (froM h)) rfl rfl (by rw [rowsA_size]; exact hY.o.there 129 (by omega)) (infoRel' _) (rows_one _) ?_
   have hXn := hY.setF (froM h)
   have hMn := MapI.cells (g := w2.heap.size) (by omega) (rowsA (froM h)).toList 129 _ hMY
   refine hKK.out _ _ hXn.s (fun _ => ?_)
   clear hKK KK
   refine wpAnyH_done (by kernel_rfl) ?_ _
   clear hX hM3 hY kd CP hS0 hMY kk hbx
   generalize wx.setCells w2.heap.size 129 (rowsA (froM h)).toList = w3 at *
   have hq := hXn.s.1
   go_wp2_with fail
   go_ret2
   exact ⟨⟨_, rfl, by have := hb4.size; omega, _, _, _, _, _, K, R, HK.out.2.2 ▸ hXn.o, hMn, hAw, hXn.r, HK.out.1, HK.out.2.1⟩, below_then hb4 hXn.b⟩
end

section
open Go.RowKit
def sp14 (v1 v2 : Value) : List TxnV := [⟨0, 1, 4, v1, [⟨false, 0, 1⟩]⟩, ⟨1, 2, 3, v2, [⟨true, 0, 1⟩]⟩]
theorem sp14_ok (v1 v2 : Value) : ∀ t ∈ sp14 v1 v2, t.ok := by
 intro t ht
 simp [sp14] at ht
 rcases ht with rfl | rfl <;> refine ⟨?_, fun o ho => ?_⟩
 all_goals first
  | (refine ⟨?_, ?_, ?_⟩ <;> simp [IntOk])
  | (simp at ho; subst ho; refine ⟨?_, ?_⟩ <;> simp [IntOk])
theorem sp14_short (v1 v2 : Value) : Short (sp14 v1 v2) := by
 intro t ht
 simp [sp14] at ht
 rcases ht with rfl | rfl <;> simp
theorem sp14_check (v1 v2 : Value) : checkI (sp14 v1 v2) = 0 := by rfl
end

section
open Go.RowKit
def decW (h : List TxnV) (lv : Int) : List Int × List (List Int) × Bool := match (decN h lv).1 with
 | none => ([], [], false)
 | some r => (r.reverse.map Int.ofNat, seesL (seesR h (clI ((askN lv : Nat) : Int)) r) h.length, true)
theorem lists_none (w : World) : Lists w (.slice none 0 0) [] := ⟨[], ⟨rfl, none, 0, rfl, ⟨by decide, by decide⟩, fun _ => ⟨rfl, rfl⟩, fun h => (by cases h)⟩, fun k hk => (by cases hk)⟩
theorem decW_yes (h : List TxnV) (lv : Int) : (decW h lv).2.2 = (decN h lv).1.isSome := by
 unfold decW
 cases (decN h lv).1 <;> rfl
section
variable {w0 w : World} {B b : Nat} {h : List TxnV}
theorem sdecide_ok (lv : Int) (T F U : Nat) (hO : OrdIs w0 B b h) (ht : Tab w0) (hK : Kinds w0) (hc : checkI h = 0) (hb : Below w0.heap.size w0 w) (hT : w0.heap.size ≤ T) (hm : MtAt w T F U)
  (hM : (decN h lv).2.2 + 2 ≤ 1099511627776) (hU : F = 4611686018427387904 → U + (decN h lv).2.2 ≤ 4611686018427387904) (hl : Lasts F U (decN h lv).2.2) :
  Calls Tryz.prog 24 #[.pointer (some ⟨B, 0, none⟩), .int .i64 lv, .pointer (some ⟨T, 0, none⟩)] w fun e w' =>
   ∃ vo vs, e = .returned (.tuple #[.agg #[vo, vs], .bool (decW h lv).2.2, .int .i64 0]) ∧ Ints w' vo (decW h lv).1 ∧ Lists w' vs (decW h lv).2.1 ∧ MtAt w' T F (U + (decN h lv).2.2) ∧ w.grownBy w' (some T) ∧ Below w0.heap.size w0 w' := by
 refine (sdecide_any lv T F U hO ht hK hc hb hT hm hM hU).mono ?_
 rintro e w' ⟨hg, hr⟩
 have hb' : Below w0.heap.size w0 w' := hb.grown hg hb.size (fun j hj => by cases hj; exact hT)
 rcases hr with ⟨_, hm', hr⟩ | ⟨hn, _⟩
 ·rcases hr with ⟨hd, rfl⟩ | ⟨r, vo, vs, hd, _, _, rfl, hI, hL⟩
  ·refine ⟨_, _, by rw [decW_yes, hd]; rfl, ?_, ?_, hm', hg, hb'⟩
   ·unfold decW; rw [hd]; exact ints_nil w'
   ·unfold decW; rw [hd]; exact lists_none w'
  ·refine ⟨vo, vs, by rw [decW_yes, hd]; rfl, ?_, ?_, hm', hg, hb'⟩
   ·unfold decW; rw [hd]; exact hI
   ·unfold decW; rw [hd]; exact hL
 ·exact (hn hl).elim
theorem sdecide_no (lv : Int) (T F U : Nat) (hO : OrdIs w0 B b h) (ht : Tab w0) (hK : Kinds w0) (hc : checkI h = 0) (hb : Below w0.heap.size w0 w) (hT : w0.heap.size ≤ T) (hm : MtAt w T F U)
  (hM : (decN h lv).2.2 + 2 ≤ 1099511627776) (hl : ¬ Lasts F U (decN h lv).2.2) :
  Calls Tryz.prog 24 #[.pointer (some ⟨B, 0, none⟩), .int .i64 lv, .pointer (some ⟨T, 0, none⟩)] w fun e w' =>
   e = .returned (.tuple #[.agg #[.slice none 0 0, .slice none 0 0], .bool false, .int .i64 4]) ∧ MtAt w' T F F ∧ w.grownBy w' (some T) ∧ Below w0.heap.size w0 w' := by
 refine (sdecide_any lv T F U hO ht hK hc hb hT hm hM (fun e => (hl (.inl e)).elim)).mono ?_
 rintro e w' ⟨hg, hr⟩
 have hb' : Below w0.heap.size w0 w' := hb.grown hg hb.size (fun j hj => by cases hj; exact hT)
 rcases hr with ⟨hy, _⟩ | ⟨_, hm', rfl⟩
 ·exact (hl hy).elim
 ·exact ⟨rfl, hm', hg, hb'⟩
end
theorem srch_pos {h : List TxnV} {C n k : Nat} (hn : 0 < n) : 1 ≤ (srch h C n (k + 1) [] []).2.2 := by
 rw [srch_go (by simp), srchEnd_cost.1]
 refine Nat.le_trans ?_ (srchTo_cost (i := 1) hn)
 rw [srchTo_succ, srchTo_zero]
 cases ht : tryP h C [] 0 with
 | false => rw [step_no rfl (by simp) ht]; exact Nat.le_refl _
 | true => rw [step_yes rfl (by simp) ht]; exact Nat.le_add_right _ _
theorem sp17_dec (v1 v2 : Value) : (decW (sp14 v1 v2) 11).1 = [1, 0] ∧ (decW (sp14 v1 v2) 11).2.2 = true ∧ (decN (sp14 v1 v2) 11).2.2 ≤ 4 ∧ 1 ≤ (decN (sp14 v1 v2) 11).2.2 := by
 have hf : (ordersN (sp14 v1 v2).length).find? (keptL (sp14 v1 v2) 11) = some [1, 0] := by kernel_rfl
 rw [← dec_first (sp14_check v1 v2)] at hf
 have h2 : soundTo (sp14 v1 v2) (sp14 v1 v2).length = true := by kernel_rfl
 cases hd : (decN (sp14 v1 v2) 11).1 with
 | none => rw [hd] at hf; cases hf
 | some r =>
  rw [hd, Option.map_some] at hf
  have hr : r.reverse = [1, 0] := by injection hf
  refine ⟨by unfold decW; rw [hd]; show r.reverse.map Int.ofNat = _; rw [hr]; rfl, by rw [decW_yes, hd]; rfl, ?_, ?_⟩
  ·exact Nat.le_trans (dec_tries _ _) (by show trN 2 ≤ 4; decide)
  ·unfold decN
   rw [if_pos ⟨rfl, h2⟩]
   exact srch_pos (k := 1) (by show 0 < 2; omega)
theorem speaks17_any (w : World) (ht : Tab w) (hK : Kinds w) :
  Calls Tryz.prog 22 #[] w fun e w' => e = .returned (.bool true) ∧ Below w.heap.size w w' := by
 have hg := ht.pos
 have HT : Hid (∀ wx, Below w.heap.size w wx → Tab wx ∧ Kinds wx) := hid (fun wx hb => ⟨ht.below hb hg, hK.below hb⟩)
 have C1 := fun (wx : World) => hid (read_any 0 1 wx)
 have C2 := fun (wx : World) => hid (write_op 0 1 wx)
 clear ht hK
 go_enter Tryz.func22, Tryz.ntmps22
 go_wp2_with fail
 refine ((C1 w).out).mono ?_
 rintro e w1 ⟨rfl, hb1⟩
 have hx1 := hb1.alloc hb1.size (.cells #[.bool false, .int .i64 0, .int .i64 1] 55)
 have hO1 : Ops _ (.slice (some ⟨w1.heap.size, 0, none⟩) 1 1) [⟨false, 0, 1⟩] := Row.of_owns (World.ownsRow_lit (base := 0) (e := 55) (size := 3) w1 #[.bool false, .int .i64 0, .int .i64 1] 1 (Nat.zero_le _) (by decide) rfl)
 clear hb1
 go_wp2_with fail
 refine ((C2 _).out).mono ?_
 rintro e w2 ⟨rfl, hb2⟩
 have hO1 := Row.below hO1 hb2
 have hx2 := below_then hx1 hb2
 have hO2 : Ops _ (.slice (some ⟨w2.heap.size, 0, none⟩) 1 1) [⟨true, 0, 1⟩] := Row.of_owns (World.ownsRow_lit (base := 0) (e := 55) (size := 3) w2 #[.bool true, .int .i64 0, .int .i64 1] 1 (Nat.zero_le _) (by decide) rfl)
 have hO1 := Row.below hO1 (box_below w2 (.cells #[.bool true, .int .i64 0, .int .i64 1] 55))
 have hx3 := hx2.alloc hx2.size (.cells #[.bool true, .int .i64 0, .int .i64 1] 55)
 have hR : Row _ _ 2 4 _ := Row.of_owns (World.ownsRow_lit (base := 0) (e := 59) (size := 4) (w2.alloc (.cells #[.bool true, .int .i64 0, .int .i64 1] 55)) #[.int .i64 0, .int .i64 1, .int .i64 4, .slice (some ⟨w1.heap.size, 0, none⟩) 1 1, .int .i64 1, .int .i64 2, .int .i64 3, .slice (some ⟨w2.heap.size, 0, none⟩) 1 1] 2 (Nat.zero_le _) (by decide) rfl)
 rw [show (w2.alloc (.cells #[.bool true, .int .i64 0, .int .i64 1] 55)).heap.size = w2.heap.size + 1 from by simp] at hR
 have hO1 := Row.below hO1 (box_below _ (.cells #[.int .i64 0, .int .i64 1, .int .i64 4, .slice (some ⟨w1.heap.size, 0, none⟩) 1 1, .int .i64 1, .int .i64 2, .int .i64 3, .slice (some ⟨w2.heap.size, 0, none⟩) 1 1] 59))
 have hO2 := Row.below hO2 (box_below _ (.cells #[.int .i64 0, .int .i64 1, .int .i64 4, .slice (some ⟨w1.heap.size, 0, none⟩) 1 1, .int .i64 1, .int .i64 2, .int .i64 3, .slice (some ⟨w2.heap.size, 0, none⟩) 1 1] 59))
 have hb4 := hx3.alloc hx3.size (.cells #[.int .i64 0, .int .i64 1, .int .i64 4, .slice (some ⟨w1.heap.size, 0, none⟩) 1 1, .int .i64 1, .int .i64 2, .int .i64 3, .slice (some ⟨w2.heap.size, 0, none⟩) 1 1] 59)
 clear hb2 hx1 hx2 hx3 C1 C2
 go_wp2_with fail
 generalize (w2.alloc (.cells #[.bool true, .int .i64 0, .int .i64 1] 55)).alloc (.cells #[.int .i64 0, .int .i64 1, .int .i64 4, .slice (some ⟨w1.heap.size, 0, none⟩) 1 1, .int .i64 1, .int .i64 2, .int .i64 3, .slice (some ⟨w2.heap.size, 0, none⟩) 1 1] 59) = w4 at *
 generalize w1.heap.size = a1 at *
 generalize w2.heap.size = a2 at *
 have hT : Txns w4 (.slice (some ⟨a2 + 1, 0, none⟩) 2 2) (sp14 (.slice (some ⟨a1, 0, none⟩) 1 1) (.slice (some ⟨a2, 0, none⟩) 1 1)) := ⟨hR, fun t ht => by
  simp [sp14] at ht
  rcases ht with rfl | rfl
  ·exact hO1
  ·exact hO2⟩
 have hck := sp14_check (.slice (some ⟨a1, 0, none⟩) 1 1) (.slice (some ⟨a2, 0, none⟩) 1 1)
 have CO := hid (of_done _ _ _ hT (sp14_ok _ _) (sp14_short _ _) hck)
 have HC := hid hck
 have HDC := hid (sp17_dec (.slice (some ⟨a1, 0, none⟩) 1 1) (.slice (some ⟨a2, 0, none⟩) 1 1))
 have HL : Hid ((sp14 (.slice (some ⟨a1, 0, none⟩) 1 1) (.slice (some ⟨a2, 0, none⟩) 1 1)).length = 2) := hid rfl
 clear hT hR hO1 hO2 hck
 generalize sp14 (.slice (some ⟨a1, 0, none⟩) 1 1) (.slice (some ⟨a2, 0, none⟩) 1 1) = h at *
 refine (CO.out).mono ?_
 rintro e w5 ⟨⟨B, rfl, hB, hO⟩, hb5⟩
 have hb5 := below_then hb4 hb5
 have hO5 := hO
 have HW := hid (fun wx (hx : Below w5.heap.size w5 wx) => below_then hb5 hx)
 obtain ⟨d1, d2, d3, d4⟩ := HDC.out
 have CN1 := hid (fun wx => fnew_any 6 wx)
 have CN2 := hid (fun wx => fnew_any 0 wx)
 have e6 : fuelN 6 = 6 := by decide +kernel
 have e0 : fuelN 0 = 0 := by decide +kernel
 rw [e6] at CN1
 rw [e0] at CN2
 have CD1 := hid (fun T wx (hx : Below w5.heap.size w5 wx) hT hm => sdecide_ok (w := wx) 11 T 6 0 hO (HT.out _ hb5).1 (HT.out _ hb5).2 HC.out hx hT hm (by omega) (fun e => (by cases e)) (.inr (by omega)))
 have CD2 := hid (fun T wx (hx : Below w5.heap.size w5 wx) hT hm => sdecide_no (w := wx) 11 T 0 0 hO (HT.out _ hb5).1 (HT.out _ hb5).2 HC.out hx hT hm (by omega) (fun q => by rcases q with q | q; cases q; omega))
 rw [d1, d2] at CD1
 clear CO hO hB hb4 hO5 d1 d2 d3 d4 HDC
 go_wp2_with fail
 refine (CN1.out _).mono ?_
 rintro e w6 ⟨T1, rfl, hm6, hT6, h6⟩
 have CD1 := hid (CD1.out T1 w6 h6 hT6 hm6)
 have h56 := h6
 clear hm6 h6
 go_wp2_with fail
 refine (CD1.out).mono ?_
 rintro e w7 ⟨vo, vs, rfl, hI, hL, _, _, h7⟩
 obtain ⟨oo, oc, rfl, _⟩ := hI.form
 obtain ⟨so, sc, rfl, _⟩ := hL.form
 simp only [List.length_cons, List.length_nil] at hI ⊢
 generalize hLn : (decW h 11).2.1.length = nL at *
 have W8 := WitT.made w7 (.slice oo 2 oc) (.slice so nL sc) 32
 have hx8 := box_below w7 (.cells #[.slice oo 2 oc, .slice so nL sc] 32)
 have hI := hI.below hx8
 have h8 := h7.trans (hx8.mono h7.size)
 clear CD1 h56 h7 hx8 hL hLn
 go_upto_region 5 with fail
 generalize w7.alloc (.cells #[.slice oo 2 oc, .slice so nL sc] 32) = w8 at *
 go_wp2_with fail
 refine (CN2.out _).mono ?_
 rintro e w9 ⟨T2, rfl, hm9, hT9, h9⟩
 have h89 := h8.trans (h9.mono h8.size)
 have CD2 := hid (CD2.out T2 w9 h89 (by have := h8.size; omega) hm9)
 clear hm9 h89
 go_wp2_with fail
 refine (CD2.out).mono ?_
 rintro e w10 ⟨rfl, _, hg, _⟩
 have h10 : Below w8.heap.size w8 w10 := h9.grown hg h9.size (fun j hj => by cases hj; exact hT9)
 have hx11 := box_below w10 (.cells #[.slice none 0 0, .slice none 0 0] 32)
 have h11 := h10.trans (hx11.mono h10.size)
 have W11 := W8.below h11
 have hI := hI.below h11
 have h11 := h8.trans (h11.mono h8.size)
 have hs11 : (w10.alloc (.cells #[.slice none 0 0, .slice none 0 0] 32)).heap.size = w10.heap.size + 1 := by simp
 clear h10 hx11 hg h9 W8 h8 CD2
 go_upto_region 6 with fail
 generalize w10.alloc (.cells #[.slice none 0 0, .slice none 0 0] 32) = w11 at *
 have hI1 : Ints (w11.alloc (.cells #[.int .i64 1, .int .i64 0] 3)) (.slice (some ⟨w11.heap.size, 0, none⟩) 2 2) [1, 0] := Row.of_owns (World.ownsRow_lit (base := 0) (e := 3) (size := 1) w11 #[.int .i64 1, .int .i64 0] 2 (Nat.zero_le _) (by decide) rfl)
 have CS := hid (same_any _ _ _ _ _ (hI.below (box_below w11 (.cells #[.int .i64 1, .int .i64 0] 3))) hI1)
 rw [sameL_one] at CS
 have hz := h11.alloc h11.size (.cells #[.int .i64 1, .int .i64 0] 3)
 obtain ⟨n0, n1⟩ := W11
 clear hs11 hI hI1
 go_wp2_with fail
 refine CS.out.mono ?_
 rintro e w12 ⟨rfl, h12⟩
 have hz := hz.trans (h12.mono hz.size)
 have hz := HW.out _ hz
 clear h12 n0 n1
 go_wp2_with fail
 go_ret
 exact ⟨rfl, hz⟩
end

section
open Go.RowKit
theorem tr_le : ∀ k, k ≤ 7 → trN k ≤ 20000 := by decide +kernel
end

section
open Go.RowKit
theorem read_of {h : List TxnV} (hc : checkI h = 0) {k : Nat} (hk : k < h.length) {o : OpV} (ho : o ∈ refReads h[k].l) :
  (o.val = 0 ∧ badFr (wrTo h h.length) (k : Int) o = false) ∨ (o.val ≠ 0 ∧ ∃ n : Nat, ∃ hn : n < h.length, wrI o.key o.val h = (n : Int) ∧ badFr (wrTo h h.length) (k : Int) o = (decide ((n : Int) = (k : Int)) || !(vOf h[n].l o.key == o.val))) := by
 obtain ⟨h1, h2⟩ := refReads_in ho
 rcases reads_F (may_of hc) hk h1 h2 with ⟨h0, hn⟩ | ⟨h0, u, hu, hku, hw⟩
 ·refine .inl ⟨h0, ?_⟩
  unfold badFr
  rw [h0, hn]
 ·refine .inr ⟨h0, ?_⟩
  obtain ⟨p, hp, hpv, hpk⟩ := real_wr h h.length (Nat.le_refl _) o.val u hu
  obtain ⟨t, ht, hpt, hpw⟩ := wrs_mem.1 hp
  obtain ⟨n, hn, rfl⟩ := List.getElem_of_mem ht
  have h3 := may_wr (may_of hc) hn hpt hpw
  rw [hpv, hu] at h3
  have h4 := Option.some.inj h3
  refine ⟨n, hn, ?_, ?_⟩
  ·rw [hw, h4]
  ·unfold badFr
   rw [hu, h4, hpk, hku]
theorem rsound_any (va : Value) (h : List TxnV) (hc : checkI h = 0) (w : World) (hT : Txns w va h) :
  Calls Tryz.prog 35 #[va] w fun e w' => e = .returned (.bool (soundTo h h.length)) ∧ Below w.heap.size w w' := by
 obtain ⟨ao, cap, rfl, hal⟩ := hT.form
 have HT := hid (fun wx (hx : Below w.heap.size w wx) => hT.below hx)
 have HC := hid hc
 have HQ : Hid (soundTo h h.length = (List.range h.length).all (soundOf h)) := hid rfl
 clear hT hc
 generalize soundTo h h.length = q at *
 go_enter Tryz.func35, Tryz.ntmps35
 go_wp2_with fail
 go_loopw [3] (fun i wr => ∃ k : Nat, k ≤ h.length ∧ i = .int .i64 k ∧ (List.range k).all (soundOf h) = true ∧ Below w.heap.size w wr) (fun i _ => h.length - (intOf i).toNat)
 case atStart => exact ⟨0, by omega, rfl, rfl, Below.refl _ _⟩
 case round =>
  obtain ⟨k, hk, rfl, hall, hb⟩ := hrel
  by_cases hlt : k < h.length
  ·have hki : (k : Int) < (h.length : Int) := by omega
   have HN := hid (show (List.range (k + 1)).all (soundOf h) = soundOf h k by rw [List.range_succ, List.all_append, hall]; simp)
   have HF : Hid (soundOf h k = false → false = q) := hid (fun e => by rw [HQ.out]; symm; exact List.all_eq_false.2 ⟨k, List.mem_range.2 hlt, by simp [e]⟩)
   have HS : Hid (soundOf h k = (!(refReads h[k].l).any (badFr (wrTo h h.length) (k : Int)) && steadyL h[k].l)) := hid (by unfold soundOf; rw [opsAt_eq hlt])
   have HR := hid (fun o (ho : o ∈ refReads h[k].l) => read_of HC.out hlt ho)
   have C1 := hid (fun wx (hx : Below w.heap.size w wx) => rsteady_any h[k].v h[k].l wx ((HT.out _ hx).ops hlt))
   have C2 := hid (fun wx (hx : Below w.heap.size w wx) => rreads_any h[k].v h[k].l wx ((HT.out _ hx).ops hlt))
   have HAT := hid (fun wx (hx : Below w.heap.size w wx) => (HT.out _ hx).at hlt)
   generalize soundOf h k = sk at *
   generalize refReads h[k].l = L at *
   generalize steadyL h[k].l = st at *
   generalize h[k].v = vk at *
   obtain ⟨g, o, hao, c0, c1, c2, c3⟩ := HAT.out _ hb
   cases hao
   clear c0 c1 c2
   go_wp2_with fail
   refine (C1.out _ hb).mono ?_
   rintro e w1 ⟨rfl, hb1⟩
   have hb2 := below_then hb hb1
   clear c3 hb hb1 C1
   cases st
   ·have HE : Hid (false = q) := hid (HF.out (by rw [HS.out, Bool.and_false]))
    clear HF HS HN HR C2
    go_wp2_with fail
    go_ret
    exact ⟨ret_b HE.out, hb2⟩
   ·obtain ⟨_, _, hao, _, _, _, c3⟩ := HAT.out _ hb2
    cases hao
    go_wp2_with fail
    refine (C2.out _ hb2).mono ?_
    rintro e w3 ⟨v3, rfl, hO, hb3⟩
    have hb4 := below_then hb2 hb3
    have hL := hO.ops
    obtain ⟨a3, cap3, rfl, _⟩ := hL.form
    clear C2 c3 hO hb2 hb3
    go_wp2_with fail
    go_loopw [5] (fun j wx => ∃ n : Nat, n ≤ L.length ∧ j = .int .i64 n ∧ (L.take n).any (badFr (wrTo h h.length) (k : Int)) = false ∧ Below w.heap.size w wx ∧ Below w3.heap.size w3 wx) (fun j _ => L.length - (intOf j).toNat)
    case atStart => exact ⟨0, by omega, rfl, rfl, hb4, Below.refl _ _⟩
    case round =>
     obtain ⟨n, hn, rfl, hany, hbx, hb5⟩ := hrel
     by_cases hltn : n < L.length
     ·have hni : (n : Int) < (L.length : Int) := by omega
      obtain ⟨g1, o1, hao, d0, d1, d2⟩ := (hL.below hb5).at hltn
      cases hao
      have HX := hid (anyf_take (f := badFr (wrTo h h.length) (k : Int)) hltn hany)
      have HH := hid (fun e => anyf_hit (f := badFr (wrTo h h.length) (k : Int)) hltn e)
      have hr := HR.out _ (List.getElem_mem hltn)
      generalize badFr (wrTo h h.length) (k : Int) L[n] = bd at *
      generalize L[n].key = y at *
      generalize L[n].val = z at *
      rcases hr with ⟨hz, hbad⟩ | ⟨hz, m, hm, hwm, hbad⟩
      ·have HB := hid (HX.out.trans hbad)
       subst hz
       clear HX HH hbad
       go_wp2_with fail
       go_roundw
       case rel => exact ⟨n + 1, by omega, by go_num, HB.out, hbx, hb5⟩
       case measure => simp [intOf]; omega
      ·have CW := hid (fun wx (hx : Below w.heap.size w wx) => writer_any _ h y z wx (HT.out _ hx))
       rw [hwm] at CW
       have CL := hid (fun wx (hx : Below w.heap.size w wx) => rlast_any h[m].s h[m].b h[m].c h[m].v h[m].l y z wx ((HT.out _ hx).ops hm))
       have HAM := hid (fun wx (hx : Below w.heap.size w wx) => (HT.out _ hx).at hm)
       have hmi : (m : Int) < (h.length : Int) := by omega
       have hlo := block_lt d1
       simp only at hlo
       clear hwm
       go_wp2_with fail
       have kk := Below.refl wr.heap.size wr
       go_region_held3 (fun w' => w'.cell? ⟨g1, o1 + n * 3 + 1, none⟩ = some (.int .i64 y) ∧ w'.cell? ⟨g1, o1 + n * 3 + 2, none⟩ = some (.int .i64 z))
        (go_keep)
        (first
         | (go_at_call 85; refine (CW.out _ (below_then hbx (by first | exact kk | exact kk.drew | exact below_drewN kk _))).mono ?_; rintro e wy ⟨rfl, hby⟩; have kk : Below wr.heap.size wr wy := (by first | exact below_then kk hby | exact below_then kk ⟨hby.os, hby.tape, hby.output, hby.size, hby.block⟩); have d1 := (kk.cell (p := ⟨g1, o1 + n * 3 + 1, none⟩) hlo).trans d1; have d2 := (kk.cell (p := ⟨g1, o1 + n * 3 + 2, none⟩) hlo).trans d2))
       have hb6 := below_then hbx kk
       have hb7 := below_then hb5 kk
       obtain ⟨g2, o2, hao, e0, e1, e2, e3⟩ := HAM.out _ hb6
       cases hao
       clear CW hby
       by_cases hmk : m = k
       ·have HE : Hid (false = q) := hid (HF.out (by
         have h1 := HH.out (by rw [hbad, decide_eq_true (by omega)]; rfl)
         rw [HS.out, h1]; rfl))
        subst hmk
        clear HF HS HN HH HX HR HAT HAM CL hbad e0 e1 e2 e3
        go_wp2_with fail
        go_quiet (fail)
        go_wp2_with fail
        go_ret
        exact ⟨ret_b HE.out, by first | exact hb6 | exact below_drewN hb6 _⟩
       ·have hmki : ¬ (m : Int) = (k : Int) := by omega
        have hbq : ((m : Int) == (k : Int)) = false := by simpa using hmki
        rw [decide_eq_false hmki, Bool.false_or] at hbad
        have hm0 := block_lt e0
        simp only at hm0
        have hlo2 := block_lt d1
        simp only at hlo2
        have d0' := d0
        clear kk d0'
        go_wp2_with fail
        have kk := Below.refl wy.heap.size wy
        go_region_held3 (fun w' => (w'.cell? ⟨g, o + m * 4, none⟩ = some (.int .i64 h[m].s) ∧ w'.cell? ⟨g, o + m * 4 + 1, none⟩ = some (.int .i64 h[m].b) ∧ w'.cell? ⟨g, o + m * 4 + 2, none⟩ = some (.int .i64 h[m].c) ∧ w'.cell? ⟨g, o + m * 4 + 3, none⟩ = some h[m].v) ∧ w'.cell? ⟨g1, o1 + n * 3 + 1, none⟩ = some (.int .i64 y) ∧ w'.cell? ⟨g1, o1 + n * 3 + 2, none⟩ = some (.int .i64 z))
         (go_keep)
         (first
          | (go_at_call 86; refine (CL.out _ (below_then hb6 (by first | exact kk | exact kk.drew | exact below_drewN kk _))).mono ?_; rintro e wz ⟨rfl, hbz⟩; have kk : Below wy.heap.size wy wz := (by first | exact below_then kk hbz | exact below_then kk ⟨hbz.os, hbz.tape, hbz.output, hbz.size, hbz.block⟩); have d1 := (kk.cell (p := ⟨g1, o1 + n * 3 + 1, none⟩) hlo2).trans d1; have d2 := (kk.cell (p := ⟨g1, o1 + n * 3 + 2, none⟩) hlo2).trans d2; have e0 := (kk.cell (p := ⟨g, o + m * 4, none⟩) hm0).trans e0; have e1 := (kk.cell (p := ⟨g, o + m * 4 + 1, none⟩) hm0).trans e1; have e2 := (kk.cell (p := ⟨g, o + m * 4 + 2, none⟩) hm0).trans e2; have e3 := (kk.cell (p := ⟨g, o + m * 4 + 3, none⟩) hm0).trans e3))
        have hb8 := below_then hb6 kk
        have hb9 := below_then hb7 kk
        clear CL hbz d1 d2 e0 e1 e2 e3 HAM
        cases hv : (vOf h[m].l y == z)
        ·have HE : Hid (false = q) := hid (HF.out (by
          have h1 := HH.out (by rw [hbad, hv]; rfl)
          rw [HS.out, h1]; rfl))
         clear HF HS HN HH HX HR HAT hbad
         go_wp2_with fail
         go_ret
         exact ⟨ret_b HE.out, hb8⟩
        ·have HB := hid (HX.out.trans (hbad.trans (by rw [hv, Bool.not_true])))
         clear HF HS HN HH HX HR HAT hbad
         go_wp2_with fail
         go_roundw
         case rel => exact ⟨n + 1, by omega, by go_num, HB.out, hb8, hb9⟩
         case measure => simp [intOf]; omega
     ·have hn2 : n = L.length := by omega
      subst hn2
      rw [List.take_length] at hany
      have HE : Hid ((List.range (k + 1)).all (soundOf h) = true) := hid (by rw [HN.out, HS.out, hany]; rfl)
      clear HN HF HS HR HAT
      go_wp2_with fail
      go_roundw
      case rel => exact ⟨k + 1, by omega, by go_num, HE.out, hbx⟩
      case measure => simp [intOf]; omega
  ·have hk2 : k = h.length := by omega
   subst hk2
   have HE : Hid (true = q) := hid (by rw [HQ.out]; exact hall.symm)
   go_wp2_with fail
   go_ret
   exact ⟨ret_b HE.out, hb⟩
end

section
open Go.RowKit
theorem rlast12_any (va vr vm : Value) (h : List TxnV) (l : List Int) (m : List Pr) (i key : Int) (w : World) (hT : Txns w va h) (hl : Ints w vr l) (hm : Prs w vm m) (hin : ∀ a ∈ l, 0 ≤ a ∧ a < (h.length : Int)) :
  Calls Tryz.prog 172 #[va, vr, vm, .int .i64 i, .int .i64 key] w fun e w' => e = .returned (.int .i64 (lstR h m i key l)) ∧ Below w.heap.size w w' := by
 have CH := hid (fun (a : Int) wx (hx : Below w.heap.size w wx) => phas_any vm m a i wx (hm.below hx))
 have CW := hid (fun (j : Nat) (hj : j < h.length) wx (hx : Below w.heap.size w wx) => rwrts8_any va h j key hj wx (hT.below hx))
 have HL := hid (fun wx (hx : Below w.heap.size w wx) => hl.below hx)
 have HIN := hid hin
 have HTK := hid (fun k hk => lstR_take h m i key l k hk)
 have HE : Hid (lstR h m i key (l.take l.length) = lstR h m i key l) := hid (by rw [List.take_length])
 have H0 : Hid (lstR h m i key (l.take 0) = -1) := hid rfl
 obtain ⟨ao, cap, rfl, hal⟩ := hT.form
 obtain ⟨ro, rcap, rfl, hrl⟩ := hl.form
 obtain ⟨mo, mcap, rfl, hml⟩ := hm.form
 clear hT hl hm hin
 go_enter Tryz.func172, Tryz.ntmps172
 go_wp2_with fail
 go_loopw [11, 12] (fun ov kv wr => ∃ k : Nat, k ≤ l.length ∧ kv = .int .i64 k ∧ ov = .int .i64 (lstR h m i key (l.take k)) ∧ Below w.heap.size w wr) (fun _ kv _ => l.length - (intOf kv).toNat)
 case atStart => exact ⟨0, by omega, rfl, by rw [H0.out], Below.refl _ _⟩
 case round =>
  obtain ⟨k, hk, rfl, rfl, hb⟩ := hrel
  by_cases hlt : k < l.length
  ·have hki : (k : Int) < (l.length : Int) := by omega
   obtain ⟨g, o, hao, e0⟩ := (HL.out _ hb).at hlt
   cases hao
   have HS := hid (HTK.out k hlt)
   have hr := HIN.out _ (List.getElem_mem hlt)
   obtain ⟨j, hj⟩ : ∃ j : Nat, l[k] = (j : Int) := ⟨l[k].toNat, by omega⟩
   rw [hj] at e0 HS hr
   rw [Int.toNat_natCast] at HS
   have hjn : j < h.length := by omega
   have D1 := hid (CH.out (j : Int) _ hb)
   have D2 := hid (CW.out j hjn _ hb)
   generalize hasP m (j : Int) i = p1 at *
   generalize wrsR h j key = p2 at *
   generalize lstR h m i key (l.take k) = f0 at *
   clear CH CW HTK hj
   go_wp2_with fail
   refine (D1.out).mono ?_
   rintro e w1 ⟨rfl, rfl⟩
   cases p1 with
   | false =>
    have HN : Hid (lstR h m i key (l.take (k + 1)) = f0) := hid (by rw [HS.out]; rfl)
    go_wp2_with fail
    go_roundw
    case rel => exact ⟨k + 1, by omega, by go_num, by rw [HN.out], hb⟩
    case measure => simp [intOf]; omega
   | true =>
    go_wp2_with fail
    refine (D2.out).mono ?_
    rintro e w2 ⟨rfl, h2⟩
    have e1 := (h2.cell (p := ⟨g, o + k, none⟩) (block_lt e0)).trans e0
    have hb2 := below_then hb h2
    clear e0 hb h2
    cases p2 with
    | false =>
     have HN : Hid (lstR h m i key (l.take (k + 1)) = f0) := hid (by rw [HS.out]; rfl)
     go_wp2_with fail
     go_roundw
     case rel => exact ⟨k + 1, by omega, by go_num, by rw [HN.out], hb2⟩
     case measure => simp [intOf]; omega
    | true =>
     have HN : Hid (lstR h m i key (l.take (k + 1)) = (j : Int)) := hid (by rw [HS.out]; rfl)
     go_wp2_with fail
     go_roundw
     case rel => exact ⟨k + 1, by omega, by go_num, by rw [HN.out], hb2⟩
     case measure => simp [intOf]; omega
  ·have hkn : k = l.length := by omega
   subst hkn
   go_wp2_with fail
   go_ret
   exact ⟨congrArg (fun q => Ending.returned (Value.int .i64 q)) HE.out, hb⟩
theorem all_noH {α : Type} {p : α → Bool} {l : List α} {a : α} (ha : a ∈ l) (h : p a = false) : l.all p = false := by
 rw [List.all_eq_false]; exact ⟨a, ha, by rw [h]; decide⟩
theorem all_takeH {α : Type} {p : α → Bool} {l : List α} {k : Nat} (hk : k < l.length) (h : (l.take k).all p = true) (h1 : p l[k] = true) : (l.take (k + 1)).all p = true := by
 rw [List.take_succ_eq_append_getElem hk, List.all_append, h]; simp [h1]
theorem all_rng {p : Nat → Bool} {k : Nat} (h : (List.range k).all p = true) (h1 : p k = true) : (List.range (k + 1)).all p = true := by
 rw [List.range_succ, List.all_append, h]; simp [h1]
theorem rright12_any (va vr vm : Value) (h : List TxnV) (l : List Int) (m : List Pr) (w : World) (hn : h.length ≤ 64) (hT : Txns w va h) (hl : Ints w vr l) (hm : Prs w vm m) :
  Calls Tryz.prog 129 #[va, vr, vm] w fun e w' => e = .returned (.bool (rightR h l m)) ∧ Below w.heap.size w w' := by
 have CR := hid (rrow12_any h.length vr l w (by omega) hl)
 have CP := hid (fun (a : Int) wx (hx : Below w.heap.size w wx) => rplace_any vr l a wx (hl.below hx))
 have CL := hid (fun (hin : ∀ a ∈ l, 0 ≤ a ∧ a < (h.length : Int)) (i key : Int) wx (hx : Below w.heap.size w wx) => rlast12_any va vr vm h l m i key wx (hT.below hx) (hl.below hx) (hm.below hx) hin)
 have CD := hid (fun (i : Nat) (hi : i < h.length) wx (hx : Below w.heap.size w wx) => rreads8_any va h i hi wx (hT.below hx))
 have HM := hid (fun wx (hx : Below w.heap.size w wx) => hm.below hx)
 have HR : Hid (rightR h l m = (rowRef12 h.length l && (m.all (pairOkR l) && (List.range h.length).all fun (i : Nat) => (rdR h (i : Int) (refReads (opsAt h i))).all (rdOkR h l m i)))) := hid rfl
 have HF := hid (fun hr : rowRef12 h.length l = true => full_of_row hr)
 obtain ⟨ao, cap, rfl, hal⟩ := hT.form
 obtain ⟨ro, rcap, rfl, hrl⟩ := hl.form
 obtain ⟨mo, mcap, rfl, hml⟩ := hm.form
 clear hT hl hm hn
 generalize rightR h l m = z at *
 go_enter Tryz.func129, Tryz.ntmps129
 go_wp2_with fail
 refine (CR.out).mono ?_
 rintro e w1 ⟨rfl, rfl⟩
 cases hrow : rowRef12 h.length l with
 | false =>
  rw [hrow] at HR
  go_wp2_with fail
  go_ret
  exact ⟨ret_b (by rw [HR.out]; rfl), Below.refl _ _⟩
 | true =>
  have HIN := hid (fun a ha => ((HF.out hrow).2 a).1 ha)
  rw [hrow, Bool.true_and] at HR
  clear HF CR hrow
  go_wp2_with fail
  go_loopw [7] (fun kv wr => ∃ k : Nat, k ≤ m.length ∧ kv = .int .i64 k ∧ Hid ((m.take k).all (pairOkR l) = true) ∧ Below w.heap.size w wr) (fun kv _ => m.length - (intOf kv).toNat)
  case atStart => exact ⟨0, by omega, rfl, hid rfl, Below.refl _ _⟩
  case round =>
   obtain ⟨k, hk, rfl, HA, hb⟩ := hrel
   by_cases hlt : k < m.length
   ·have hki : (k : Int) < (m.length : Int) := by omega
    obtain ⟨g, o, hao, c1, c2⟩ := (HM.out _ hb).at hlt
    cases hao
    have HY := hid (fun hp : pairOkR l m[k] = true => all_takeH hlt HA.out hp)
    have HNO := hid (fun hp : pairOkR l m[k] = false => show z = false by rw [HR.out, all_noH (List.getElem_mem hlt) hp]; rfl)
    have HP : Hid (pairOkR l m[k] = (decide (0 ≤ placeI l m[k].1) && (decide (0 ≤ placeI l m[k].2) && decide (placeI l m[k].1 < placeI l m[k].2)))) := hid rfl
    have D1 := hid (CP.out m[k].1 _ hb)
    have D2 := hid (CP.out m[k].2 _ hb)
    generalize pairOkR l m[k] = q at *
    generalize placeI l m[k].1 = x at *
    generalize placeI l m[k].2 = y at *
    generalize m[k].1 = m1 at *
    generalize m[k].2 = m2 at *
    clear HA CP CL CD
    go_wp2_with fail
    refine (D1.out).mono ?_
    rintro e w1 ⟨rfl, rfl⟩
    go_wp2_with fail
    refine (D2.out).mono ?_
    rintro e w1 ⟨rfl, rfl⟩
    by_cases hx : x < 0
    ·have HV : Hid (false = z) := hid (HNO.out (by rw [HP.out, decide_eq_false (by omega)]; rfl)).symm
     clear HY HNO HP
     go_wp2_with fail
     go_ret
     exact ⟨ret_b HV.out, hb⟩
    by_cases hy : y < 0
    ·have HV : Hid (false = z) := hid (HNO.out (by rw [HP.out, decide_eq_false (show ¬ 0 ≤ y by omega), Bool.false_and, Bool.and_false])).symm
     clear HY HNO HP
     go_wp2_with fail
     go_ret
     exact ⟨ret_b HV.out, hb⟩
    by_cases hxy : x < y
    ·have hle : ¬ y ≤ x := by omega
     have HV := hid (HY.out (by rw [HP.out, decide_eq_true (show 0 ≤ x by omega), decide_eq_true (show 0 ≤ y by omega), decide_eq_true hxy]; rfl))
     clear HY HNO HP
     go_wp2_with fail
     go_roundw
     case rel => exact ⟨k + 1, by omega, by go_num, HV, hb⟩
     case measure => simp [intOf]; omega
    ·have hle : y ≤ x := by omega
     have HV : Hid (false = z) := hid (HNO.out (by rw [HP.out, decide_eq_false hxy, Bool.and_false, Bool.and_false])).symm
     clear HY HNO HP
     go_wp2_with fail
     go_ret
     exact ⟨ret_b HV.out, hb⟩
   ·have hkn : k = m.length := by omega
    subst hkn
    have hA := HA.out
    rw [List.take_length] at hA
    rw [hA, Bool.true_and] at HR
    clear HA hA CP HM hlt hk
    go_wp2_with fail
    go_loopw [10] (fun iv wr => ∃ i : Nat, i ≤ h.length ∧ iv = .int .i64 i ∧ Hid (((List.range i).all fun (i : Nat) => (rdR h (i : Int) (refReads (opsAt h i))).all (rdOkR h l m i)) = true) ∧ Below w.heap.size w wr) (fun iv _ => h.length - (intOf iv).toNat)
    case atStart => exact ⟨0, by omega, rfl, hid rfl, hb⟩
    case round =>
     clear hb
     obtain ⟨i, hi, rfl, HA, hb⟩ := hrel
     by_cases hlt : i < h.length
     ·have hii : (i : Int) < (h.length : Int) := by omega
      have DD := hid (CD.out i hlt _ hb)
      have HL := hid (show rdR h (i : Int) (refReads (opsAt h i)) = rdR h (i : Int) (refReads h[i].l) by rw [opsAt_eq hlt])
      have HY := hid (fun hp : (rdR h (i : Int) (refReads h[i].l)).all (rdOkR h l m i) = true => all_rng (p := fun (i : Nat) => (rdR h (i : Int) (refReads (opsAt h i))).all (rdOkR h l m i)) HA.out (by show (rdR h (i : Int) (refReads (opsAt h i))).all (rdOkR h l m i) = true; rw [HL.out]; exact hp))
      have HNO := hid (fun hp : (rdR h (i : Int) (refReads h[i].l)).all (rdOkR h l m i) = false => show z = false by rw [HR.out]; exact all_noH (p := fun (i : Nat) => (rdR h (i : Int) (refReads (opsAt h i))).all (rdOkR h l m i)) (List.mem_range.2 hlt) (by show (rdR h (i : Int) (refReads (opsAt h i))).all (rdOkR h l m i) = false; rw [HL.out]; exact hp))
      clear HA HL CD
      generalize rdR h (i : Int) (refReads h[i].l) = L at *
      go_wp2_with fail
      refine (DD.out).mono ?_
      rintro e w2 ⟨v2, rfl, hO2, h2⟩
      have hL : Frs w2 v2 L := Row.of_owns hO2
      obtain ⟨a2, cap2, rfl, hll⟩ := hL.form
      have hb2 := below_then hb h2
      clear DD hO2 hb h2
      go_wp2_with fail
      go_loopw [12] (fun kv wr => ∃ k : Nat, k ≤ L.length ∧ kv = .int .i64 k ∧ Hid ((L.take k).all (rdOkR h l m i) = true) ∧ Below w.heap.size w wr ∧ Below w2.heap.size w2 wr) (fun kv _ => L.length - (intOf kv).toNat)
      case atStart => exact ⟨0, by omega, rfl, hid rfl, hb2, Below.refl _ _⟩
      case round =>
       clear hb2
       obtain ⟨k, hk, rfl, HA, hb, hb1⟩ := hrel
       by_cases hlk : k < L.length
       ·have hkk : (k : Int) < (L.length : Int) := by omega
        obtain ⟨g, o, hao, d1, d2⟩ := (hL.below hb1).at hlk
        cases hao
        have HYY := hid (fun hp : rdOkR h l m i L[k] = true => all_takeH hlk HA.out hp)
        have HNN := hid (fun hp : rdOkR h l m i L[k] = false => HNO.out (all_noH (List.getElem_mem hlk) hp))
        have HQ : Hid (rdOkR h l m i L[k] = decide (lstR h m (i : Int) L[k].1 l = L[k].2)) := hid rfl
        have DL := hid (fun wx (hx : Below w.heap.size w wx) => CL.out HIN.out (i : Int) L[k].1 wx hx)
        generalize rdOkR h l m i L[k] = q at *
        generalize lstR h m (i : Int) L[k].1 l = x at *
        generalize L[k].1 = y at *
        generalize L[k].2 = t at *
        clear HA CL HY HNO
        have hlo := block_lt d1
        simp only at hlo
        go_wp2_with fail
        have kk := Below.refl wr.heap.size wr
        go_region_held3 (fun w' => w'.cell? ⟨g, o + k * 2, none⟩ = some (.int .i64 y) ∧ w'.cell? ⟨g, o + k * 2 + 1, none⟩ = some (.int .i64 t))
         (go_keep)
         (first
          | (go_at_call 172; refine (DL.out _ (below_then hb (by first | exact kk | exact kk.drew | exact below_drewN kk _))).mono ?_; rintro e wx ⟨rfl, hbx⟩; have kk : Below wr.heap.size wr wx := (by first | exact below_then kk hbx | exact below_then kk ⟨hbx.os, hbx.tape, hbx.output, hbx.size, hbx.block⟩); have d1 := (kk.cell (p := ⟨g, o + k * 2, none⟩) hlo).trans d1; have d2 := (kk.cell (p := ⟨g, o + k * 2 + 1, none⟩) hlo).trans d2))
        have hb4 := below_then hb kk
        have hb5 := below_then hb1 kk
        clear DL hbx hb hb1
        by_cases hxt : x = t
        ·have HV := hid (HYY.out (by rw [HQ.out, decide_eq_true hxt]))
         subst hxt
         clear HYY HNN HQ
         go_wp2_with fail
         go_roundw
         case rel => exact ⟨k + 1, by omega, by go_num, HV, hb4, hb5⟩
         case measure => simp [intOf]; omega
        ·have HV : Hid (false = z) := hid (HNN.out (by rw [HQ.out, decide_eq_false hxt])).symm
         clear HYY HNN HQ
         go_wp2_with fail
         go_ret
         exact ⟨ret_b HV.out, hb4⟩
       ·have hkn : k = L.length := by omega
        subst hkn
        have HV := hid (HY.out (by have := HA.out; rwa [List.take_length] at this))
        clear HY HNO HA
        go_wp2_with fail
        go_roundw
        case rel => exact ⟨i + 1, by omega, by go_num, HV, hb⟩
        case measure => simp [intOf]; omega
     ·have hin : i = h.length := by omega
      subst hin
      have HV : Hid (true = z) := hid (by rw [HR.out]; exact HA.out.symm)
      go_wp2_with fail
      go_ret
      exact ⟨ret_b HV.out, hb⟩
end

section
open Go.RowKit
theorem lv_lt {lv : Int} (h : isLv lv = true) : 0 ≤ lv ∧ lv < 12 := by unfold isLv at h; exact of_decide_eq_true h
theorem full_ref {n : Nat} {row : List Nat} (hp : row.Perm (List.range n)) (hn : n ≤ 64) : rowRef12 n (row.map Int.ofNat) = true := by
 rw [← row_same n hn]; exact row_perm hn hp
theorem kept_right {h : List TxnV} (hc : checkI h = 0) {lv : Int} {row : List Nat} {m : List Pr} (hp : row.Perm (List.range h.length)) (hlv : isLv lv = true) (hs : soundTo h h.length = true) (hL : LeaL h (askN lv) (row.map Int.ofNat) h.length m) :
  rightR h (row.map Int.ofNat) m = keptL h lv row ∧ ∀ R, LeastIs h (askN lv) (row.map Int.ofNat) R → Rep R m := by
 have hx := askN_lt lv
 have hR : ∀ R, LeastIs h (askN lv) (row.map Int.ofNat) R → Rep R m := fun R hR => lea_rep hc (full_of_perm hp) hx (by omega) (fun _ _ => rfl) hL hR
 refine ⟨?_, hR⟩
 obtain ⟨R, hRl⟩ := least_some h (askN lv) (row.map Int.ofNat)
 rw [← kept_holds hc lv hp hRl, ← right_same hc (hR R hRl)]
 unfold holdsB
 rw [hlv, hs, least_kept hx hRl]
 simp
theorem rin13_any (va vr : Value) (h : List TxnV) (lv : Int) (row : List Nat) (w : World) (hc : checkI h = 0) (hp : row.Perm (List.range h.length)) (hT : Txns w va h) (hl : Ints w vr (row.map Int.ofNat)) :
  Calls Tryz.prog 76 #[va, .int .i64 lv, vr] w fun e w' => (∃ v, e = .returned (.tuple #[v, .bool (keptL h lv row)]) ∧ (keptL h lv row = true → ∃ m, Prs w' v m ∧ ∀ R, LeastIs h (askN lv) (row.map Int.ofNat) R → Rep R m)) ∧ Below w.heap.size w w' := by
 have h64 := (check_zero hc).1
 obtain ⟨ro, rcap, rfl, hrl⟩ := hl.form
 rw [List.length_map] at hl ⊢
 have CR := hid (rrow12_any h.length (.slice ro row.length rcap) (row.map Int.ofNat) w (by omega) hl)
 rw [full_ref hp h64] at CR
 have CS := hid (rsound_any va h hc w hT)
 have CA := hid (fun wx => rl_asks lv wx)
 have CO := hid (fun wx (hx : Below w.heap.size w wx) => rof11_any va (.slice ro row.length rcap) h (askN lv) (askN_lt lv) (row.map Int.ofNat) wx h64 (hT.below hx) (hl.below hx))
 have CG := hid (fun vm m wx (hx : Below w.heap.size w wx) (hm : Prs wx vm m) => rright12_any va (.slice ro row.length rcap) vm h (row.map Int.ofNat) m wx h64 (hT.below hx) (hl.below hx) hm)
 have HK := hid (fun m hlv hs hL => kept_right (lv := lv) (m := m) hc hp hlv hs hL)
 have HF : Hid (isLv lv = false → keptL h lv row = false) := hid (fun h => by unfold keptL; rw [h]; rfl)
 have HS : Hid (soundTo h h.length = false → keptL h lv row = false) := hid (fun h => by unfold keptL; rw [h, Bool.false_and, Bool.and_false])
 obtain ⟨ao, cap, rfl, hal⟩ := hT.form
 cases hlv : isLv lv with
 | false =>
  have HV := hid (HF.out hlv)
  have hr : lv < 0 ∨ (¬ lv < 0 ∧ 11 < lv) := by unfold isLv at hlv; rw [decide_eq_false_iff_not] at hlv; omega
  clear CR CS CA CO CG HK HF HS hlv hT hl
  rw [HV.out]
  rcases hr with hr | ⟨hr, hr2⟩
  all_goals
   go_enter Tryz.func76, Tryz.ntmps76
   go_wp2_with fail
   go_ret2
   first | exact ⟨⟨_, rfl, fun h => (by cases h)⟩, Below.refl _ _⟩ | exact ⟨⟨_, rfl⟩, Below.refl _ _⟩
 | true =>
  obtain ⟨h0, h1⟩ := lv_lt hlv
  cases hs : soundTo h h.length with
  | false =>
   have HV := hid (HS.out hs)
   rw [hs] at CS
   clear CA CO CG HK HF HS hlv hT hl hs
   rw [HV.out]
   go_enter Tryz.func76, Tryz.ntmps76
   go_wp2_with fail
   refine CR.out.mono ?_
   rintro e wq ⟨rfl, rfl⟩
   go_wp2_with fail
   refine CS.out.mono ?_
   rintro e w1 ⟨rfl, hb1⟩
   go_wp2_with fail
   go_ret2
   exact ⟨⟨_, rfl, fun h => (by cases h)⟩, hb1⟩
  | true =>
   have HK := hid (fun m => HK.out m hlv hs)
   rw [hs] at CS
   clear HF HS hlv hT hl hs
   generalize keptL h lv row = z at *
   go_enter Tryz.func76, Tryz.ntmps76
   go_wp2_with fail
   refine CR.out.mono ?_
   rintro e wq ⟨rfl, rfl⟩
   go_wp2_with fail
   refine CS.out.mono ?_
   rintro e w1 ⟨rfl, hb1⟩
   have CO1 := hid (CO.out _ hb1)
   go_wp2_with fail
   refine (CA.out _).mono ?_
   rintro e wq ⟨rfl, rfl⟩
   go_wp2_with fail
   refine CO1.out.mono ?_
   rintro e w2 ⟨v, m, rfl, hm, hL, hb2⟩
   have hb2 := below_then hb1 hb2
   have HM := hid (HK.out m hL)
   have CG2 := hid (CG.out v m w2 hb2 hm)
   rw [HM.out.1] at CG2
   have HP := hid hm
   clear hm hL CO CO1 CG
   go_wp2_with fail
   refine CG2.out.mono ?_
   rintro e w3 ⟨rfl, hb3⟩
   have HP3 := hid (HP.out.below hb3)
   go_wp2_with fail
   go_ret2
   exact ⟨⟨_, rfl, fun _ => ⟨m, HP3.out, HM.out.2⟩⟩, below_then hb2 hb3⟩
end

section
open Go.RowKit
theorem ahead_pos {i j : Nat} : ∀ {L : List Nat}, Ahead (L.map Int.ofNat) (i : Int) (j : Int) → ∃ (p q : Nat) (h1 : p < q) (h2 : q < L.length), L[p] = i ∧ L[q] = j
 | [], h => by cases h
 | a :: L, h => by
  rcases h with h | ⟨e, hj⟩
  rotate_left
  ·obtain ⟨b, hb, e2⟩ := List.mem_map.1 hj
   obtain ⟨q, hq, e3⟩ := List.getElem_of_mem hb
   exact ⟨0, q + 1, by omega, by simp; omega, Int.ofNat.inj e, by simp [e3]; exact Int.ofNat.inj e2⟩
  ·obtain ⟨p, q, h1, h2, e1, e2⟩ := ahead_pos h
   exact ⟨p + 1, q + 1, by omega, by simp; omega, by simpa using e1, by simpa using e2⟩
section
variable {h : List TxnV} {lv : Int} {L : List Nat}
end
end

section
open Go.RowKit
theorem rall_any (n : Nat) (hn : n ≤ 1000) (w : World) :
  Calls Tryz.prog 71 #[.int .i64 (n : Int)] w fun e w' => (∃ v, e = .returned v ∧ Ints w' v ((List.range n).map Int.ofNat)) ∧ Below w.heap.size w w' := by
 obtain ⟨i0, hi, hz0, hz1, hz2⟩ := info_parts infoInt
 have hlit : (w.alloc (.cells #[] 3)).ownsRow w.heap.size 3 1 (.slice (some ⟨w.heap.size, 0, none⟩) 0 0) 0 ((List.range 0).map fun i : Nat => Value.int .i64 (i : Int)) := World.ownsRow_lit (size := 1) _ _ _ (Nat.le_refl _) (by simp) (by simp)
 have hb0 := box_below w (.cells #[] 3)
 go_enter Tryz.func71, Tryz.ntmps71
 go_wp2_with fail
 generalize w.alloc (.cells #[] 3) = w0 at *
 go_loopw [3, 4] (fun v i wr => ∃ k : Nat, k ≤ n ∧ i = .int .i64 k ∧ wr.ownsRow w.heap.size 3 1 v k ((List.range k).map fun i : Nat => Value.int .i64 (i : Int)) ∧ Below w.heap.size w wr) (fun _ i _ => n - (intOf i).toNat)
 case atStart => exact ⟨0, by omega, rfl, hlit, hb0⟩
 case round =>
  clear hlit hb0
  obtain ⟨k, hk, rfl, hown, hb⟩ := hrel
  by_cases hlt : k < n
  ·have hki : (k : Int) < (n : Int) := by omega
   have HR : Hid ((List.range (k + 1)).map (fun i : Nat => Value.int .i64 (i : Int)) = (List.range k).map (fun i : Nat => Value.int .i64 (i : Int)) ++ [.int .i64 (k : Int)]) := hid (by rw [List.range_succ, List.map_append]; rfl)
   generalize (List.range k).map (fun i : Nat => Value.int .i64 (i : Int)) = xs at *
   go_wp2_with (at_builtin; refine wpList_append_own _ rfl _ _ 29 rfl w.heap.size 3 i0 (.int .i64 0) 1 8 Tryz.underlying29 hi hz0 hz1 hz2 rfl (by decide) _ _ _ rfl (hown.alloc _) ⟨_, 0, none⟩ 1 1 [.int .i64 (k : Int)] rfl rfl ?c1 ?c2 ?c3 ?c4 ?c5 ?_)
   try case c1 => exact cell_one_new _ _ _
   case c2 => first | rfl | (intro u hu; simp at hu; subst hu; rfl)
   case c3 => unfold maxLen; omega
   case c4 => omega
   case c5 => have := hb.size; simp; omega
   intro v6 w6 hown6 hg6 _
   have hsz := hb.size
   have hb6 : Below w.heap.size w w6 := hb.trans (below_app (Below.refl _ _) hsz hown hg6)
   clear hown hg6 hb
   go_wp2_with fail
   go_roundw
   case rel => exact ⟨k + 1, by omega, by go_num, by rw [HR.out]; exact hown6, hb6⟩
   case measure => simp [intOf]; omega
  ·have hkn : k = n := by omega
   subst hkn
   have hI : Ints wr u3 ((List.range k).map Int.ofNat) := Ints.of_nats hown
   clear hown hlt
   go_wp2_with fail
   go_ret
   exact ⟨⟨_, rfl, hI⟩, hb⟩
theorem rwithout_any (vl : Value) (L : List Nat) (j : Nat) (w : World) (hI : Ints w vl (L.map Int.ofNat)) (hjl : j < L.length) (hn : L.length ≤ 1000) :
  Calls Tryz.prog 125 #[vl, .int .i64 (j : Int)] w fun e w' => (∃ v, e = .returned v ∧ Ints w' v ((L.take j ++ L.drop (j + 1)).map Int.ofNat)) ∧ Below w.heap.size w w' := by
 obtain ⟨i0, hi, hz0, hz1, hz2⟩ := info_parts infoInt
 obtain ⟨lo, lcap, rfl, ⟨hlc, hlm⟩, hno⟩ := hI.full
 rw [List.length_map] at hlc hno
 rw [List.length_map] at hI ⊢
 obtain ⟨g, o, hgo, hcj⟩ := ints_at hI hjl
 cases hgo
 have hji : (j : Int) < (L.length : Int) := by omega
 have hW : Below w.heap.size w (w.drew.alloc (.cells #[] 3)) := (⟨rfl, rfl, rfl, Nat.le_refl _, fun _ _ => rfl⟩ : Below w.heap.size w w.drew).alloc (Nat.le_refl _) _
 have HOW := hid (World.ownsRow_made (base := w.heap.size) (e := 3) (size := 1) w.drew #[] 0 (Nat.le_refl _) (by decide) rfl)
 obtain ⟨A, hA, HC2⟩ : ∃ A : Addr, (if lcap = j + 1 then some (⟨g, o, none⟩ : Addr) else some ⟨g, o + (j + 1), none⟩) = some A ∧ Hid (∀ w7, Below w.heap.size w w7 → ∀ i u, ((L.drop (j + 1)).map fun i : Nat => Value.int .i64 (i : Int))[i]? = some u → w7.cell? (A.add i) = some u) := by
  by_cases h : lcap = j + 1
  ·refine ⟨⟨g, o, none⟩, by simp [h], fun w7 hb7 i u hu => ?_⟩
   rw [List.drop_eq_nil_of_le (by omega)] at hu
   simp at hu
  ·exact ⟨⟨g, o + (j + 1), none⟩, by simp [h], fun w7 hb7 => (hI.below hb7).news (j + 1)⟩
 have HC1 : Hid (∀ i u, ((L.take j).map fun i : Nat => Value.int .i64 (i : Int))[i]? = some u → (w.drew.alloc (.cells #[] 3)).cell? ((⟨g, o, none⟩ : Addr).add i) = some u) := hid (fun i u hu => by
  have hi : i < j := by
   have := (List.getElem?_eq_some_iff.1 hu).1
   simp at this; omega
  refine (hI.below hW).news 0 i u ?_
  rw [List.drop_zero, ← hu, List.map_take, List.getElem?_take, if_pos hi])
 have s1 : Hid (((L.take j).map fun i : Nat => Value.int .i64 (i : Int)).length = j * 1) := hid (by simp; omega)
 have s2 : Hid (∀ u ∈ ((L.take j).map fun i : Nat => Value.int .i64 (i : Int)), u.oneCell' = true) := hid (fun u hu => by
  obtain ⟨x, _, rfl⟩ := List.mem_map.1 hu
  rfl)
 have t1 : Hid (((L.drop (j + 1)).map fun i : Nat => Value.int .i64 (i : Int)).length = (L.length - (j + 1)) * 1) := hid (by simp)
 have t2 : Hid (∀ u ∈ ((L.drop (j + 1)).map fun i : Nat => Value.int .i64 (i : Int)), u.oneCell' = true) := hid (fun u hu => by
  obtain ⟨x, _, rfl⟩ := List.mem_map.1 hu
  rfl)
 have HS5 : Hid (w.heap.size ≤ (w.drew.alloc (.cells #[] 3)).heap.size) := hid hW.size
 have HB7 : Hid (∀ w7, (w.drew.alloc (.cells #[] 3)).grownBy w7 (some w.heap.size) → Below w.heap.size w w7) := hid (fun w7 hg => hW.grown hg hW.size (fun k hk => by cases hk; exact Nat.le_refl _))
 have hjc : j ≤ lcap := by omega
 have hwr : IntKind.i64.wrap ((j : Int) + 1) = (j : Int) + 1 := by rw [IntKind.wrap_i64]; omega
 have hp0 : (0 : Int) ≤ (j : Int) + 1 := by omega
 have hp1 : (j : Int) + 1 ≤ (L.length : Int) := by omega
 have hp2 : ((j : Int) + 1).toNat = j + 1 := by omega
 clear hI hW hcj hno
 go_enter Tryz.func125, Tryz.ntmps125
 go_wp2_with fail
 go_region_law (first
  | (refine step_append_own _ rfl (.tmp 9) (.tmp 13) 29 rfl w.heap.size 3 i0 (.int .i64 0) 1 8 Tryz.underlying29 hi hz0 hz1 hz2 rfl (by decide) v7 (0 + j) _ (by simp [Act.eval]) hown7 A (L.length - (j + 1)) (lcap - (j + 1)) _ (by simp [Act.eval]) t1.out (HC2.out _ (HB7.out _ hg7)) t2.out (by unfold maxLen; omega) (by omega) (Nat.le_trans HS5.out hg7.size) ?_; intro v8 w8 hown8 hg8)
  | (refine step_append_own _ rfl (.tmp 5) (.tmp 8) 29 rfl w.heap.size 3 i0 (.int .i64 0) 1 8 Tryz.underlying29 hi hz0 hz1 hz2 rfl (by decide) _ 0 [] (by simp [Act.eval]) HOW.out ⟨g, o, none⟩ j lcap _ (by simp [Act.eval]) s1.out HC1.out s2.out (by unfold maxLen; omega) (by omega) HS5.out ?_; intro v7 w7 hown7 hg7))
 all_goals have hb8 : Below w.heap.size w w8 := (HB7.out _ hg7).trans ((Below.refl _ _).grown hg8 (Nat.le_trans HS5.out hg7.size) (fun k hk => (hown7.lt k hk).1))
 all_goals have hI8 : Ints w8 v8 ((L.take j ++ L.drop (j + 1)).map Int.ofNat) := Ints.of_nats (base := w.heap.size) (e := 3) (n := 0 + j + (L.length - (j + 1))) (by rw [List.map_append]; exact hown8)
 all_goals clear HB7 HC1 HC2 HOW hown7 hg7 hown8 hg8
 all_goals go_simp
 all_goals go_wp2
 all_goals go_ret
 all_goals exact ⟨⟨_, rfl, hI8⟩, hb8⟩
end

section
open Go.RowKit Go.Shelf
attribute [local go_sem] Oper.semAt_some
theorem bin_kept (lv : Int) (va : Value) (r : List Nat) (h : List TxnV) (B b : Nat) (w : World) (hO : OrdIs w B b h) (hc : checkI h = 0) (ht : Tab w) (hK : Kinds w) (hl : Ints w va (r.map Int.ofNat)) (hr : r ∈ ordersN h.length) :
  Calls Tryz.prog 68 #[.pointer (some ⟨B, 0, none⟩), .int .i64 lv, va] w fun e w' => (∃ X, (keptL h lv r = true → LeastIs h (askN lv) (r.map Int.ofNat) X) ∧ e = .returned (.tuple #[.agg (rowsA X), .bool (keptL h lv r)])) ∧ Below w.heap.size w w' := by
 refine (bin_any lv va (r.map Int.ofNat) h B b w hO hc ht hK hl).mono ?_
 rintro e w' ⟨⟨R, hR, rfl⟩, hb⟩
 have e1 := kept_holds hc lv (orders_perm hr) hR
 refine ⟨⟨inR h lv (r.map Int.ofNat) R, fun hk => ?_, by rw [e1]⟩, hb⟩
 unfold inR
 rw [if_pos (by rw [e1]; exact hk)]
 exact hR
end

end Go.Proofs.YtecpeegbfeijaaaGreatDoor
