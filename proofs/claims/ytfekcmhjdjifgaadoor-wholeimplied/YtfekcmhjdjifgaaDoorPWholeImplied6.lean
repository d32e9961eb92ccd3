/- Walks and plain facts that the proof of the statement WholeImplied uses, joined: AxiE LeaB RelU OrdAA LeaH TblA AxiF. Conditions: each theorem's own. -/
import Derived.Laws.Tables
import Derived.Laws.CopyOwn
import Derived.Deep.QuietTactic
import Derived.BigQuiet
import Derived.Test.YtfekcmhjdjifgaaDoorPWholeImplied0
import Derived.Test.YtfekcmhjdjifgaaDoorPWholeImplied1
import Derived.Test.YtfekcmhjdjifgaaDoorPWholeImplied3
import Derived.Test.YtfekcmhjdjifgaaDoorPWholeImplied4
import Derived.Test.YtfekcmhjdjifgaaDoorPWholeImplied5
namespace Go.Proofs.YtfekcmhjdjifgaaDoor
set_option maxRecDepth 100000
open Go.RowKit

/-- What is asked and isn't kept. -/
def lackN (a b : Nat) : Nat := a ^^^ (a &&& b)
/-- Does a history keep what a level asks? -/
def holdsB (h : List TxnV) (lv : Int) (l : List Int) (V : Mat) : Bool := isLv lv && (soundTo h h.length && (rightM h l V && decide (lackN (askN lv) (keptN h l V) = 0)))
set_option maxRecDepth 100000 in
set_option maxHeartbeats 16000000 in
theorem aholds_any (lv : Int) (va : Value) (l : List Int) (V : Mat) (h : List TxnV) (B b : Nat) (w : World) (hO : OrdIs w B b h) (hc : checkI h = 0) (ht : Tab w) (hK : Kinds w) (hl : Ints w va l) :
    Calls Tryd.prog 19 #[.pointer (some ⟨B, 0, none⟩), .int .i64 lv, va, .agg (rowsA V)] w fun e w' => e = .returned (.bool (holdsB h lv l V)) ∧ Below w.heap.size w w' := by
  have hg := ht.pos
  have r0 : RelAt (w.alloc (.cells (rowsA V) 37)) w.heap.size 37 V := RelAt.made w _ _ rfl rfl
  have hb0 := box_below w (.cells (rowsA V) 37)
  have HW := Lib.hid (fun wx (hx : Below w.heap.size w wx) => And.intro (hO.below hx) (And.intro (ht.below hx hg) (And.intro (hK.below hx) (hl.below hx))))
  have HC := Lib.hid hc
  have HR : Hid (holdsB h lv l V = (isLv lv && (soundTo h h.length && (rightM h l V && decide (lackN (askN lv) (keptN h l V) = 0))))) := Lib.hid rfl
  obtain ⟨ao, cap, rfl, hal⟩ := hl.form
  clear hO hc ht hK hl
  go_enter Tryd.func19, Tryd.ntmps19
  go_upto_region 1 with fail
  generalize w.alloc (.cells (rowsA V) 37) = w0 at *
  have HB := Lib.hid (fun wx (hx : Below w0.heap.size w0 wx) => hb0.trans (hx.mono hb0.size))
  have HS : Hid (∀ wx, Below w0.heap.size w0 wx → OrdB wx B h ∧ RelAt wx w.heap.size 37 V) := Lib.hid (fun wx hx => ⟨(HW.out wx (hb0.trans (hx.mono hb0.size))).1.blk, r0.below hx r0.lt⟩)
  have CI := Lib.hid (fun wx => lis_any lv wx)
  have CR := Lib.hid (fun wx (hx : Below w0.heap.size w0 wx) => aright_any _ l V h B b wx (HW.out wx (hb0.trans (hx.mono hb0.size))).1 HC.out (HW.out wx (hb0.trans (hx.mono hb0.size))).2.2.2)
  have CA := Lib.hid (fun wx (hx : Below w0.heap.size w0 wx) => lasks_any lv wx (HW.out wx (hb0.trans (hx.mono hb0.size))).2.2.1)
  have CK := Lib.hid (fun wx (hx : Below w0.heap.size w0 wx) => akept_any _ l V h B b wx (HW.out wx (hb0.trans (hx.mono hb0.size))).1 HC.out (HW.out wx (hb0.trans (hx.mono hb0.size))).2.1 (HW.out wx (hb0.trans (hx.mono hb0.size))).2.2.2)
  have kd := (Below.refl w0.heap.size w0).drew
  have hka := askN_lt lv
  have hkk : keptN h l V < 64 := keptTo_lt _ _ _
  have HLK := Lib.hid (i64_andNot_nat (askN lv) (keptN h l V) (by omega) (by omega))
  clear r0 hb0 HW
  generalize rightM h l V = rt at *
  generalize askN lv = na at *
  generalize keptN h l V = nk at *
  generalize isLv lv = il at *
  cases il with
  | false =>
    have HV : Hid (false = holdsB h lv l V) := Lib.hid (by rw [HR.out]; rfl)
    clear HR
    refine wp_region_held_drew (S := fun wx => OrdB wx B h ∧ RelAt wx w.heap.size 37 V) (by kernel_rfl) (HS.out _ kd) (fun hS0 => ?_)
    refine takeG (some 9) (i := 0) (v := ?va0) rfl rfl (by kernel_rfl) (by kernel_rfl) (by kernel_rfl) (fun _ _ _ h => h) (Or.inl ⟨by rfl, ?ha0⟩) hS0 ?ra0
    case ha0 => (intro w _; go_simp; try (with_reducible rfl))
    try simp only [Act.put, List.setIfInBounds_toArray, List.set_cons_zero, List.set_cons_succ]
    refine wpAnyH_ready (rs := [1]) (by kernel_rfl) (by simp) ?_
    refine AllReadyH.cons rfl (fun K hK => ?_) AllReadyH.nil
    go_simp
    refine (CI.out _).mono ?_
    rintro e q1 ⟨rfl, rfl⟩
    show K _ _
    refine hK.out _ _ hS0 (fun _ => ?_)
    clear hK K
    refine takeG (some 11) (i := 2) (v := ?va2) rfl rfl (by kernel_rfl) (by kernel_rfl) (by kernel_rfl) (fun _ _ _ h => h) (Or.inl ⟨by rfl, ?ha2⟩) hS0 ?ra2
    case ha2 => (intro w _; go_simp; try (with_reducible rfl))
    try simp only [Act.put, List.setIfInBounds_toArray, List.set_cons_zero, List.set_cons_succ]
    refine takeG (some 12) (i := 3) (v := undef) rfl rfl (by kernel_rfl) (by kernel_rfl) (by kernel_rfl) (fun _ _ _ h => h) (Or.inr ⟨by rfl, rfl⟩) hS0 ?_
    try simp only [Act.put, List.setIfInBounds_toArray, List.set_cons_zero, List.set_cons_succ]
    refine takeG (some 13) (i := 4) (v := undef) rfl rfl (by kernel_rfl) (by kernel_rfl) (by kernel_rfl) (fun _ _ _ h => h) (Or.inr ⟨by rfl, rfl⟩) hS0 ?_
    try simp only [Act.put, List.setIfInBounds_toArray, List.set_cons_zero, List.set_cons_succ]
    refine takeG (some 14) (i := 5) (v := undef) rfl rfl (by kernel_rfl) (by kernel_rfl) (by kernel_rfl) (fun _ _ _ h => h) (Or.inr ⟨by rfl, rfl⟩) hS0 ?_
    try simp only [Act.put, List.setIfInBounds_toArray, List.set_cons_zero, List.set_cons_succ]
    refine takeG (some 15) (i := 6) (v := undef) rfl rfl (by kernel_rfl) (by kernel_rfl) (by kernel_rfl) (fun _ _ _ h => h) (Or.inr ⟨by rfl, rfl⟩) hS0 ?_
    try simp only [Act.put, List.setIfInBounds_toArray, List.set_cons_zero, List.set_cons_succ]
    refine takeG (some 16) (i := 7) (v := ?va7) rfl rfl (by kernel_rfl) (by kernel_rfl) (by kernel_rfl) (fun _ _ _ h => h) (Or.inl ⟨by rfl, ?ha7⟩) hS0 ?ra7
    case ha7 => (intro w _; go_simp; try (with_reducible rfl))
    try simp only [Act.put, List.setIfInBounds_toArray, List.set_cons_zero, List.set_cons_succ]
    refine takeG (some 17) (i := 8) (v := ?va8) rfl rfl (by kernel_rfl) (by kernel_rfl) (by kernel_rfl) (fun _ _ _ h => h) (Or.inl ⟨by rfl, ?ha8⟩) hS0 ?ra8
    case ha8 => (intro w _; go_simp; try (with_reducible rfl))
    try simp only [Act.put, List.setIfInBounds_toArray, List.set_cons_zero, List.set_cons_succ]
    refine takeG (some 18) (i := 9) (v := undef) rfl rfl (by kernel_rfl) (by kernel_rfl) (by kernel_rfl) (fun _ _ _ h => h) (Or.inr ⟨by rfl, rfl⟩) hS0 ?_
    try simp only [Act.put, List.setIfInBounds_toArray, List.set_cons_zero, List.set_cons_succ]
    refine takeG (some 19) (i := 10) (v := undef) rfl rfl (by kernel_rfl) (by kernel_rfl) (by kernel_rfl) (fun _ _ _ h => h) (Or.inr ⟨by rfl, rfl⟩) hS0 ?_
    try simp only [Act.put, List.setIfInBounds_toArray, List.set_cons_zero, List.set_cons_succ]
    refine takeG (some 20) (i := 11) (v := undef) rfl rfl (by kernel_rfl) (by kernel_rfl) (by kernel_rfl) (fun _ _ _ h => h) (Or.inr ⟨by rfl, rfl⟩) hS0 ?_
    try simp only [Act.put, List.setIfInBounds_toArray, List.set_cons_zero, List.set_cons_succ]
    refine takeG (some 21) (i := 12) (v := undef) rfl rfl (by kernel_rfl) (by kernel_rfl) (by kernel_rfl) (fun _ _ _ h => h) (Or.inr ⟨by rfl, rfl⟩) hS0 ?_
    try simp only [Act.put, List.setIfInBounds_toArray, List.set_cons_zero, List.set_cons_succ]
    refine takeG (some 22) (i := 13) (v := ?va13) rfl rfl (by kernel_rfl) (by kernel_rfl) (by kernel_rfl) (fun _ _ _ h => h) (Or.inl ⟨by rfl, ?ha13⟩) hS0 ?ra13
    case ha13 => (intro w _; go_simp; try (with_reducible rfl))
    try simp only [Act.put, List.setIfInBounds_toArray, List.set_cons_zero, List.set_cons_succ]
    refine takeG (some 23) (i := 14) (v := ?va14) rfl rfl (by kernel_rfl) (by kernel_rfl) (by kernel_rfl) (fun _ _ _ h => h) (Or.inl ⟨by rfl, ?ha14⟩) hS0 ?ra14
    case ha14 => (intro w _; go_simp; try (with_reducible rfl))
    try simp only [Act.put, List.setIfInBounds_toArray, List.set_cons_zero, List.set_cons_succ]
    refine takeG (some 24) (i := 15) (v := undef) rfl rfl (by kernel_rfl) (by kernel_rfl) (by kernel_rfl) (fun _ _ _ h => h) (Or.inr ⟨by rfl, rfl⟩) hS0 ?_
    try simp only [Act.put, List.setIfInBounds_toArray, List.set_cons_zero, List.set_cons_succ]
    refine takeG (some 25) (i := 16) (v := undef) rfl rfl (by kernel_rfl) (by kernel_rfl) (by kernel_rfl) (fun _ _ _ h => h) (Or.inr ⟨by rfl, rfl⟩) hS0 ?_
    try simp only [Act.put, List.setIfInBounds_toArray, List.set_cons_zero, List.set_cons_succ]
    refine takeG (some 26) (i := 17) (v := undef) rfl rfl (by kernel_rfl) (by kernel_rfl) (by kernel_rfl) (fun _ _ _ h => h) (Or.inr ⟨by rfl, rfl⟩) hS0 ?_
    try simp only [Act.put, List.setIfInBounds_toArray, List.set_cons_zero, List.set_cons_succ]
    refine takeG (some 27) (i := 18) (v := undef) rfl rfl (by kernel_rfl) (by kernel_rfl) (by kernel_rfl) (fun _ _ _ h => h) (Or.inr ⟨by rfl, rfl⟩) hS0 ?_
    try simp only [Act.put, List.setIfInBounds_toArray, List.set_cons_zero, List.set_cons_succ]
    refine takeG (some 28) (i := 19) (v := undef) rfl rfl (by kernel_rfl) (by kernel_rfl) (by kernel_rfl) (fun _ _ _ h => h) (Or.inr ⟨by rfl, rfl⟩) hS0 ?_
    try simp only [Act.put, List.setIfInBounds_toArray, List.set_cons_zero, List.set_cons_succ]
    refine takeG (some 29) (i := 20) (v := undef) rfl rfl (by kernel_rfl) (by kernel_rfl) (by kernel_rfl) (fun _ _ _ h => h) (Or.inr ⟨by rfl, rfl⟩) hS0 ?_
    try simp only [Act.put, List.setIfInBounds_toArray, List.set_cons_zero, List.set_cons_succ]
    refine takeG (some 30) (i := 21) (v := undef) rfl rfl (by kernel_rfl) (by kernel_rfl) (by kernel_rfl) (fun _ _ _ h => h) (Or.inr ⟨by rfl, rfl⟩) hS0 ?_
    try simp only [Act.put, List.setIfInBounds_toArray, List.set_cons_zero, List.set_cons_succ]
    refine takeG (some 31) (i := 22) (v := undef) rfl rfl (by kernel_rfl) (by kernel_rfl) (by kernel_rfl) (fun _ _ _ h => h) (Or.inr ⟨by rfl, rfl⟩) hS0 ?_
    try simp only [Act.put, List.setIfInBounds_toArray, List.set_cons_zero, List.set_cons_succ]
    refine takeG (some 32) (i := 23) (v := ?va23) rfl rfl (by kernel_rfl) (by kernel_rfl) (by kernel_rfl) (fun _ _ _ h => h) (Or.inl ⟨by rfl, ?ha23⟩) hS0 ?ra23
    case ha23 => (intro w _; go_simp; try (with_reducible rfl))
    try simp only [Act.put, List.setIfInBounds_toArray, List.set_cons_zero, List.set_cons_succ]
    refine takeG (some 8) (i := 24) (v := ?va24) rfl rfl (by kernel_rfl) (by kernel_rfl) (by kernel_rfl) (fun _ _ _ h => h) (Or.inl ⟨by rfl, ?ha24⟩) hS0 ?ra24
    case ha24 => (intro w _; go_simp; try (with_reducible rfl))
    try simp only [Act.put, List.setIfInBounds_toArray, List.set_cons_zero, List.set_cons_succ]
    refine wpAnyH_done (by kernel_rfl) ?_ _
    go_wp2_with fail
    go_ret
    exact ⟨ret_b HV.out, HB.out _ kd⟩
  | true =>
  cases hsd : soundTo h h.length with
  | false =>
    have HSD := Lib.hid hsd
    have HV : Hid (false = holdsB h lv l V) := Lib.hid (by rw [HR.out, hsd]; rfl)
    clear hsd
    clear HR
    refine wp_region_held_drew (S := fun wx => OrdB wx B h ∧ RelAt wx w.heap.size 37 V) (by kernel_rfl) (HS.out _ kd) (fun hS0 => ?_)
    refine takeG (some 9) (i := 0) (v := ?vb0) rfl rfl (by kernel_rfl) (by kernel_rfl) (by kernel_rfl) (fun _ _ _ h => h) (Or.inl ⟨by rfl, ?hb0⟩) hS0 ?rb0
    case hb0 => (intro w _; go_simp; try (with_reducible rfl))
    try simp only [Act.put, List.setIfInBounds_toArray, List.set_cons_zero, List.set_cons_succ]
    refine wpAnyH_ready (rs := [1]) (by kernel_rfl) (by simp) ?_
    refine AllReadyH.cons rfl (fun K hK => ?_) AllReadyH.nil
    go_simp
    refine (CI.out _).mono ?_
    rintro e q1 ⟨rfl, rfl⟩
    show K _ _
    refine hK.out _ _ hS0 (fun _ => ?_)
    clear hK K
    refine takeG (some 11) (i := 2) (v := ?vb2) rfl rfl (by kernel_rfl) (by kernel_rfl) (by kernel_rfl) (fun _ _ _ h => h) (Or.inl ⟨by rfl, ?hb2⟩) hS0 ?rb2
    case hb2 => (intro w _; go_simp; try (with_reducible rfl))
    try simp only [Act.put, List.setIfInBounds_toArray, List.set_cons_zero, List.set_cons_succ]
    refine takeG (some 12) (i := 3) (v := ?vb3) rfl rfl (by kernel_rfl) (by kernel_rfl) (by kernel_rfl) (fun _ _ _ h => h) (Or.inl ⟨by rfl, ?hb3⟩) hS0 ?rb3
    case hb3 => (intro w hw; have hn := hw.1.cS; rw [HSD.out] at hn; have hm := hw.1.cN; go_simp; try (with_reducible rfl))
    try simp only [Act.put, List.setIfInBounds_toArray, List.set_cons_zero, List.set_cons_succ]
    refine takeG (some 13) (i := 4) (v := ?vb4) rfl rfl (by kernel_rfl) (by kernel_rfl) (by kernel_rfl) (fun _ _ _ h => h) (Or.inl ⟨by rfl, ?hb4⟩) hS0 ?rb4
    case hb4 => (intro w hw; have hn := hw.1.cS; rw [HSD.out] at hn; have hm := hw.1.cN; go_simp; try (with_reducible rfl))
    try simp only [Act.put, List.setIfInBounds_toArray, List.set_cons_zero, List.set_cons_succ]
    refine takeG (some 14) (i := 5) (v := ?vb5) rfl rfl (by kernel_rfl) (by kernel_rfl) (by kernel_rfl) (fun _ _ _ h => h) (Or.inl ⟨by rfl, ?hb5⟩) hS0 ?rb5
    case hb5 => (intro w hw; have hn := hw.1.cS; rw [HSD.out] at hn; have hm := hw.1.cN; go_simp; try (with_reducible rfl))
    try simp only [Act.put, List.setIfInBounds_toArray, List.set_cons_zero, List.set_cons_succ]
    refine takeG (some 15) (i := 6) (v := ?vb6) rfl rfl (by kernel_rfl) (by kernel_rfl) (by kernel_rfl) (fun _ _ _ h => h) (Or.inl ⟨by rfl, ?hb6⟩) hS0 ?rb6
    case hb6 => (intro w hw; have hn := hw.1.cS; rw [HSD.out] at hn; have hm := hw.1.cN; go_simp; try (with_reducible rfl))
    try simp only [Act.put, List.setIfInBounds_toArray, List.set_cons_zero, List.set_cons_succ]
    refine takeG (some 16) (i := 7) (v := ?vb7) rfl rfl (by kernel_rfl) (by kernel_rfl) (by kernel_rfl) (fun _ _ _ h => h) (Or.inl ⟨by rfl, ?hb7⟩) hS0 ?rb7
    case hb7 => (intro w _; go_simp; try (with_reducible rfl))
    try simp only [Act.put, List.setIfInBounds_toArray, List.set_cons_zero, List.set_cons_succ]
    refine takeG (some 17) (i := 8) (v := ?vb8) rfl rfl (by kernel_rfl) (by kernel_rfl) (by kernel_rfl) (fun _ _ _ h => h) (Or.inl ⟨by rfl, ?hb8⟩) hS0 ?rb8
    case hb8 => (intro w _; go_simp; try (with_reducible rfl))
    try simp only [Act.put, List.setIfInBounds_toArray, List.set_cons_zero, List.set_cons_succ]
    refine takeG (some 18) (i := 9) (v := undef) rfl rfl (by kernel_rfl) (by kernel_rfl) (by kernel_rfl) (fun _ _ _ h => h) (Or.inr ⟨by rfl, rfl⟩) hS0 ?_
    try simp only [Act.put, List.setIfInBounds_toArray, List.set_cons_zero, List.set_cons_succ]
    refine takeG (some 19) (i := 10) (v := undef) rfl rfl (by kernel_rfl) (by kernel_rfl) (by kernel_rfl) (fun _ _ _ h => h) (Or.inr ⟨by rfl, rfl⟩) hS0 ?_
    try simp only [Act.put, List.setIfInBounds_toArray, List.set_cons_zero, List.set_cons_succ]
    refine takeG (some 20) (i := 11) (v := undef) rfl rfl (by kernel_rfl) (by kernel_rfl) (by kernel_rfl) (fun _ _ _ h => h) (Or.inr ⟨by rfl, rfl⟩) hS0 ?_
    try simp only [Act.put, List.setIfInBounds_toArray, List.set_cons_zero, List.set_cons_succ]
    refine takeG (some 21) (i := 12) (v := undef) rfl rfl (by kernel_rfl) (by kernel_rfl) (by kernel_rfl) (fun _ _ _ h => h) (Or.inr ⟨by rfl, rfl⟩) hS0 ?_
    try simp only [Act.put, List.setIfInBounds_toArray, List.set_cons_zero, List.set_cons_succ]
    refine takeG (some 22) (i := 13) (v := ?vb13) rfl rfl (by kernel_rfl) (by kernel_rfl) (by kernel_rfl) (fun _ _ _ h => h) (Or.inl ⟨by rfl, ?hb13⟩) hS0 ?rb13
    case hb13 => (intro w _; go_simp; try (with_reducible rfl))
    try simp only [Act.put, List.setIfInBounds_toArray, List.set_cons_zero, List.set_cons_succ]
    refine takeG (some 23) (i := 14) (v := ?vb14) rfl rfl (by kernel_rfl) (by kernel_rfl) (by kernel_rfl) (fun _ _ _ h => h) (Or.inl ⟨by rfl, ?hb14⟩) hS0 ?rb14
    case hb14 => (intro w _; go_simp; try (with_reducible rfl))
    try simp only [Act.put, List.setIfInBounds_toArray, List.set_cons_zero, List.set_cons_succ]
    refine takeG (some 24) (i := 15) (v := undef) rfl rfl (by kernel_rfl) (by kernel_rfl) (by kernel_rfl) (fun _ _ _ h => h) (Or.inr ⟨by rfl, rfl⟩) hS0 ?_
    try simp only [Act.put, List.setIfInBounds_toArray, List.set_cons_zero, List.set_cons_succ]
    refine takeG (some 25) (i := 16) (v := undef) rfl rfl (by kernel_rfl) (by kernel_rfl) (by kernel_rfl) (fun _ _ _ h => h) (Or.inr ⟨by rfl, rfl⟩) hS0 ?_
    try simp only [Act.put, List.setIfInBounds_toArray, List.set_cons_zero, List.set_cons_succ]
    refine takeG (some 26) (i := 17) (v := undef) rfl rfl (by kernel_rfl) (by kernel_rfl) (by kernel_rfl) (fun _ _ _ h => h) (Or.inr ⟨by rfl, rfl⟩) hS0 ?_
    try simp only [Act.put, List.setIfInBounds_toArray, List.set_cons_zero, List.set_cons_succ]
    refine takeG (some 27) (i := 18) (v := undef) rfl rfl (by kernel_rfl) (by kernel_rfl) (by kernel_rfl) (fun _ _ _ h => h) (Or.inr ⟨by rfl, rfl⟩) hS0 ?_
    try simp only [Act.put, List.setIfInBounds_toArray, List.set_cons_zero, List.set_cons_succ]
    refine takeG (some 28) (i := 19) (v := undef) rfl rfl (by kernel_rfl) (by kernel_rfl) (by kernel_rfl) (fun _ _ _ h => h) (Or.inr ⟨by rfl, rfl⟩) hS0 ?_
    try simp only [Act.put, List.setIfInBounds_toArray, List.set_cons_zero, List.set_cons_succ]
    refine takeG (some 29) (i := 20) (v := undef) rfl rfl (by kernel_rfl) (by kernel_rfl) (by kernel_rfl) (fun _ _ _ h => h) (Or.inr ⟨by rfl, rfl⟩) hS0 ?_
    try simp only [Act.put, List.setIfInBounds_toArray, List.set_cons_zero, List.set_cons_succ]
    refine takeG (some 30) (i := 21) (v := undef) rfl rfl (by kernel_rfl) (by kernel_rfl) (by kernel_rfl) (fun _ _ _ h => h) (Or.inr ⟨by rfl, rfl⟩) hS0 ?_
    try simp only [Act.put, List.setIfInBounds_toArray, List.set_cons_zero, List.set_cons_succ]
    refine takeG (some 31) (i := 22) (v := undef) rfl rfl (by kernel_rfl) (by kernel_rfl) (by kernel_rfl) (fun _ _ _ h => h) (Or.inr ⟨by rfl, rfl⟩) hS0 ?_
    try simp only [Act.put, List.setIfInBounds_toArray, List.set_cons_zero, List.set_cons_succ]
    refine takeG (some 32) (i := 23) (v := ?vb23) rfl rfl (by kernel_rfl) (by kernel_rfl) (by kernel_rfl) (fun _ _ _ h => h) (Or.inl ⟨by rfl, ?hb23⟩) hS0 ?rb23
    case hb23 => (intro w _; go_simp; try (with_reducible rfl))
    try simp only [Act.put, List.setIfInBounds_toArray, List.set_cons_zero, List.set_cons_succ]
    refine takeG (some 8) (i := 24) (v := ?vb24) rfl rfl (by kernel_rfl) (by kernel_rfl) (by kernel_rfl) (fun _ _ _ h => h) (Or.inl ⟨by rfl, ?hb24⟩) hS0 ?rb24
    case hb24 => (intro w _; go_simp; try (with_reducible rfl))
    try simp only [Act.put, List.setIfInBounds_toArray, List.set_cons_zero, List.set_cons_succ]
    refine wpAnyH_done (by kernel_rfl) ?_ _
    go_wp2_with fail
    go_ret
    exact ⟨ret_b HV.out, HB.out _ kd⟩
  | true =>
  have HSD := Lib.hid hsd
  cases rt with
  | false =>
    have HV : Hid (false = holdsB h lv l V) := Lib.hid (by rw [HR.out, hsd]; rfl)
    clear hsd
    clear HR
    refine wp_region_held_drew (S := fun wx => OrdB wx B h ∧ RelAt wx w.heap.size 37 V) (by kernel_rfl) (HS.out _ kd) (fun hS0 => ?_)
    refine takeG (some 9) (i := 0) (v := ?vc0) rfl rfl (by kernel_rfl) (by kernel_rfl) (by kernel_rfl) (fun _ _ _ h => h) (Or.inl ⟨by rfl, ?hc0⟩) hS0 ?rc0
    case hc0 => (intro w _; go_simp; try (with_reducible rfl))
    try simp only [Act.put, List.setIfInBounds_toArray, List.set_cons_zero, List.set_cons_succ]
    refine wpAnyH_ready (rs := [1]) (by kernel_rfl) (by simp) ?_
    refine AllReadyH.cons rfl (fun K hK => ?_) AllReadyH.nil
    go_simp
    refine (CI.out _).mono ?_
    rintro e q1 ⟨rfl, rfl⟩
    show K _ _
    refine hK.out _ _ hS0 (fun _ => ?_)
    clear hK K
    refine takeG (some 11) (i := 2) (v := ?vc2) rfl rfl (by kernel_rfl) (by kernel_rfl) (by kernel_rfl) (fun _ _ _ h => h) (Or.inl ⟨by rfl, ?hc2⟩) hS0 ?rc2
    case hc2 => (intro w _; go_simp; try (with_reducible rfl))
    try simp only [Act.put, List.setIfInBounds_toArray, List.set_cons_zero, List.set_cons_succ]
    refine takeG (some 12) (i := 3) (v := ?vc3) rfl rfl (by kernel_rfl) (by kernel_rfl) (by kernel_rfl) (fun _ _ _ h => h) (Or.inl ⟨by rfl, ?hc3⟩) hS0 ?rc3
    case hc3 => (intro w hw; have hn := hw.1.cS; rw [HSD.out] at hn; have hm := hw.1.cN; go_simp; try (with_reducible rfl))
    try simp only [Act.put, List.setIfInBounds_toArray, List.set_cons_zero, List.set_cons_succ]
    refine takeG (some 13) (i := 4) (v := ?vc4) rfl rfl (by kernel_rfl) (by kernel_rfl) (by kernel_rfl) (fun _ _ _ h => h) (Or.inl ⟨by rfl, ?hc4⟩) hS0 ?rc4
    case hc4 => (intro w hw; have hn := hw.1.cS; rw [HSD.out] at hn; have hm := hw.1.cN; go_simp; try (with_reducible rfl))
    try simp only [Act.put, List.setIfInBounds_toArray, List.set_cons_zero, List.set_cons_succ]
    refine takeG (some 14) (i := 5) (v := ?vc5) rfl rfl (by kernel_rfl) (by kernel_rfl) (by kernel_rfl) (fun _ _ _ h => h) (Or.inl ⟨by rfl, ?hc5⟩) hS0 ?rc5
    case hc5 => (intro w hw; have hn := hw.1.cS; rw [HSD.out] at hn; have hm := hw.1.cN; go_simp; try (with_reducible rfl))
    try simp only [Act.put, List.setIfInBounds_toArray, List.set_cons_zero, List.set_cons_succ]
    refine takeG (some 15) (i := 6) (v := ?vc6) rfl rfl (by kernel_rfl) (by kernel_rfl) (by kernel_rfl) (fun _ _ _ h => h) (Or.inl ⟨by rfl, ?hc6⟩) hS0 ?rc6
    case hc6 => (intro w hw; have hn := hw.1.cS; rw [HSD.out] at hn; have hm := hw.1.cN; go_simp; try (with_reducible rfl))
    try simp only [Act.put, List.setIfInBounds_toArray, List.set_cons_zero, List.set_cons_succ]
    refine takeG (some 16) (i := 7) (v := ?vc7) rfl rfl (by kernel_rfl) (by kernel_rfl) (by kernel_rfl) (fun _ _ _ h => h) (Or.inl ⟨by rfl, ?hc7⟩) hS0 ?rc7
    case hc7 => (intro w _; go_simp; try (with_reducible rfl))
    try simp only [Act.put, List.setIfInBounds_toArray, List.set_cons_zero, List.set_cons_succ]
    refine takeG (some 17) (i := 8) (v := ?vc8) rfl rfl (by kernel_rfl) (by kernel_rfl) (by kernel_rfl) (fun _ _ _ h => h) (Or.inl ⟨by rfl, ?hc8⟩) hS0 ?rc8
    case hc8 => (intro w _; go_simp; try (with_reducible rfl))
    try simp only [Act.put, List.setIfInBounds_toArray, List.set_cons_zero, List.set_cons_succ]
    refine takeG (some 18) (i := 9) (v := ?vc9) rfl rfl (by kernel_rfl) (by kernel_rfl) (by kernel_rfl) (fun _ _ _ h => h) (Or.inl ⟨by rfl, ?hc9⟩) hS0 ?rc9
    case hc9 => (intro w _; go_simp; try (with_reducible rfl))
    try simp only [Act.put, List.setIfInBounds_toArray, List.set_cons_zero, List.set_cons_succ]
    refine takeG (some 19) (i := 10) (v := ?vc10) rfl rfl (by kernel_rfl) (by kernel_rfl) (by kernel_rfl) (fun _ _ _ h => h) (Or.inl ⟨by rfl, ?hc10⟩) hS0 ?rc10
    case hc10 => (intro w _; go_simp; try (with_reducible rfl))
    try simp only [Act.put, List.setIfInBounds_toArray, List.set_cons_zero, List.set_cons_succ]
    refine takeG (some 20) (i := 11) (v := _) rfl rfl (by kernel_rfl) (by kernel_rfl) (by kernel_rfl) (fun _ _ _ h => h) (yields_rel (by rfl) _ rfl rfl (fun wx hx => hx.2)) hS0 ?_
    try simp only [Act.put, List.setIfInBounds_toArray, List.set_cons_zero, List.set_cons_succ]
    refine wpAnyH_ready (rs := [12]) (by kernel_rfl) (by simp) ?_
    refine AllReadyH.cons rfl (fun K hK => ?_) AllReadyH.nil
    go_simp
    refine (CR.out _ kd).mono ?_
    rintro e q2 ⟨rfl, hq2⟩
    show K _ _
    have k2 := below_then kd hq2
    have s2 := HS.out _ k2
    refine hK.out _ _ s2 (fun _ => ?_)
    clear hK K
    refine takeG (some 22) (i := 13) (v := ?vc13) rfl rfl (by kernel_rfl) (by kernel_rfl) (by kernel_rfl) (fun _ _ _ h => h) (Or.inl ⟨by rfl, ?hc13⟩) s2 ?rc13
    case hc13 => (intro w _; go_simp; try (with_reducible rfl))
    try simp only [Act.put, List.setIfInBounds_toArray, List.set_cons_zero, List.set_cons_succ]
    refine takeG (some 23) (i := 14) (v := ?vc14) rfl rfl (by kernel_rfl) (by kernel_rfl) (by kernel_rfl) (fun _ _ _ h => h) (Or.inl ⟨by rfl, ?hc14⟩) s2 ?rc14
    case hc14 => (intro w _; go_simp; try (with_reducible rfl))
    try simp only [Act.put, List.setIfInBounds_toArray, List.set_cons_zero, List.set_cons_succ]
    refine takeG (some 24) (i := 15) (v := undef) rfl rfl (by kernel_rfl) (by kernel_rfl) (by kernel_rfl) (fun _ _ _ h => h) (Or.inr ⟨by rfl, rfl⟩) s2 ?_
    try simp only [Act.put, List.setIfInBounds_toArray, List.set_cons_zero, List.set_cons_succ]
    refine takeG (some 25) (i := 16) (v := undef) rfl rfl (by kernel_rfl) (by kernel_rfl) (by kernel_rfl) (fun _ _ _ h => h) (Or.inr ⟨by rfl, rfl⟩) s2 ?_
    try simp only [Act.put, List.setIfInBounds_toArray, List.set_cons_zero, List.set_cons_succ]
    refine takeG (some 26) (i := 17) (v := undef) rfl rfl (by kernel_rfl) (by kernel_rfl) (by kernel_rfl) (fun _ _ _ h => h) (Or.inr ⟨by rfl, rfl⟩) s2 ?_
    try simp only [Act.put, List.setIfInBounds_toArray, List.set_cons_zero, List.set_cons_succ]
    refine takeG (some 27) (i := 18) (v := undef) rfl rfl (by kernel_rfl) (by kernel_rfl) (by kernel_rfl) (fun _ _ _ h => h) (Or.inr ⟨by rfl, rfl⟩) s2 ?_
    try simp only [Act.put, List.setIfInBounds_toArray, List.set_cons_zero, List.set_cons_succ]
    refine takeG (some 28) (i := 19) (v := undef) rfl rfl (by kernel_rfl) (by kernel_rfl) (by kernel_rfl) (fun _ _ _ h => h) (Or.inr ⟨by rfl, rfl⟩) s2 ?_
    try simp only [Act.put, List.setIfInBounds_toArray, List.set_cons_zero, List.set_cons_succ]
    refine takeG (some 29) (i := 20) (v := undef) rfl rfl (by kernel_rfl) (by kernel_rfl) (by kernel_rfl) (fun _ _ _ h => h) (Or.inr ⟨by rfl, rfl⟩) s2 ?_
    try simp only [Act.put, List.setIfInBounds_toArray, List.set_cons_zero, List.set_cons_succ]
    refine takeG (some 30) (i := 21) (v := undef) rfl rfl (by kernel_rfl) (by kernel_rfl) (by kernel_rfl) (fun _ _ _ h => h) (Or.inr ⟨by rfl, rfl⟩) s2 ?_
    try simp only [Act.put, List.setIfInBounds_toArray, List.set_cons_zero, List.set_cons_succ]
    refine takeG (some 31) (i := 22) (v := undef) rfl rfl (by kernel_rfl) (by kernel_rfl) (by kernel_rfl) (fun _ _ _ h => h) (Or.inr ⟨by rfl, rfl⟩) s2 ?_
    try simp only [Act.put, List.setIfInBounds_toArray, List.set_cons_zero, List.set_cons_succ]
    refine takeG (some 32) (i := 23) (v := ?vc23) rfl rfl (by kernel_rfl) (by kernel_rfl) (by kernel_rfl) (fun _ _ _ h => h) (Or.inl ⟨by rfl, ?hc23⟩) s2 ?rc23
    case hc23 => (intro w _; go_simp; try (with_reducible rfl))
    try simp only [Act.put, List.setIfInBounds_toArray, List.set_cons_zero, List.set_cons_succ]
    refine takeG (some 8) (i := 24) (v := ?vc24) rfl rfl (by kernel_rfl) (by kernel_rfl) (by kernel_rfl) (fun _ _ _ h => h) (Or.inl ⟨by rfl, ?hc24⟩) s2 ?rc24
    case hc24 => (intro w _; go_simp; try (with_reducible rfl))
    try simp only [Act.put, List.setIfInBounds_toArray, List.set_cons_zero, List.set_cons_succ]
    refine wpAnyH_done (by kernel_rfl) ?_ _
    go_wp2_with fail
    go_ret
    exact ⟨ret_b HV.out, HB.out _ k2⟩
  | true =>
  by_cases h0 : lackN na nk = 0
  · have HV : Hid (true = holdsB h lv l V) := Lib.hid (by rw [HR.out, hsd, decide_eq_true h0]; rfl)
    have hlk : bits .andNot .i64 (na : Int) (nk : Int) = 0 := by rw [HLK.out]; exact congrArg Nat.cast h0
    clear HR h0 hsd
    refine wp_region_held_drew (S := fun wx => OrdB wx B h ∧ RelAt wx w.heap.size 37 V) (by kernel_rfl) (HS.out _ kd) (fun hS0 => ?_)
    refine takeG (some 9) (i := 0) (v := ?vd0) rfl rfl (by kernel_rfl) (by kernel_rfl) (by kernel_rfl) (fun _ _ _ h => h) (Or.inl ⟨by rfl, ?hd0⟩) hS0 ?rd0
    case hd0 => (intro w _; go_simp; try (with_reducible rfl))
    try simp only [Act.put, List.setIfInBounds_toArray, List.set_cons_zero, List.set_cons_succ]
    refine wpAnyH_ready (rs := [1]) (by kernel_rfl) (by simp) ?_
    refine AllReadyH.cons rfl (fun K hK => ?_) AllReadyH.nil
    go_simp
    refine (CI.out _).mono ?_
    rintro e q1 ⟨rfl, rfl⟩
    show K _ _
    refine hK.out _ _ hS0 (fun _ => ?_)
    clear hK K
    refine takeG (some 11) (i := 2) (v := ?vd2) rfl rfl (by kernel_rfl) (by kernel_rfl) (by kernel_rfl) (fun _ _ _ h => h) (Or.inl ⟨by rfl, ?hd2⟩) hS0 ?rd2
    case hd2 => (intro w _; go_simp; try (with_reducible rfl))
    try simp only [Act.put, List.setIfInBounds_toArray, List.set_cons_zero, List.set_cons_succ]
    refine takeG (some 12) (i := 3) (v := ?vd3) rfl rfl (by kernel_rfl) (by kernel_rfl) (by kernel_rfl) (fun _ _ _ h => h) (Or.inl ⟨by rfl, ?hd3⟩) hS0 ?rd3
    case hd3 => (intro w hw; have hn := hw.1.cS; rw [HSD.out] at hn; have hm := hw.1.cN; go_simp; try (with_reducible rfl))
    try simp only [Act.put, List.setIfInBounds_toArray, List.set_cons_zero, List.set_cons_succ]
    refine takeG (some 13) (i := 4) (v := ?vd4) rfl rfl (by kernel_rfl) (by kernel_rfl) (by kernel_rfl) (fun _ _ _ h => h) (Or.inl ⟨by rfl, ?hd4⟩) hS0 ?rd4
    case hd4 => (intro w hw; have hn := hw.1.cS; rw [HSD.out] at hn; have hm := hw.1.cN; go_simp; try (with_reducible rfl))
    try simp only [Act.put, List.setIfInBounds_toArray, List.set_cons_zero, List.set_cons_succ]
    refine takeG (some 14) (i := 5) (v := ?vd5) rfl rfl (by kernel_rfl) (by kernel_rfl) (by kernel_rfl) (fun _ _ _ h => h) (Or.inl ⟨by rfl, ?hd5⟩) hS0 ?rd5
    case hd5 => (intro w hw; have hn := hw.1.cS; rw [HSD.out] at hn; have hm := hw.1.cN; go_simp; try (with_reducible rfl))
    try simp only [Act.put, List.setIfInBounds_toArray, List.set_cons_zero, List.set_cons_succ]
    refine takeG (some 15) (i := 6) (v := ?vd6) rfl rfl (by kernel_rfl) (by kernel_rfl) (by kernel_rfl) (fun _ _ _ h => h) (Or.inl ⟨by rfl, ?hd6⟩) hS0 ?rd6
    case hd6 => (intro w hw; have hn := hw.1.cS; rw [HSD.out] at hn; have hm := hw.1.cN; go_simp; try (with_reducible rfl))
    try simp only [Act.put, List.setIfInBounds_toArray, List.set_cons_zero, List.set_cons_succ]
    refine takeG (some 16) (i := 7) (v := ?vd7) rfl rfl (by kernel_rfl) (by kernel_rfl) (by kernel_rfl) (fun _ _ _ h => h) (Or.inl ⟨by rfl, ?hd7⟩) hS0 ?rd7
    case hd7 => (intro w _; go_simp; try (with_reducible rfl))
    try simp only [Act.put, List.setIfInBounds_toArray, List.set_cons_zero, List.set_cons_succ]
    refine takeG (some 17) (i := 8) (v := ?vd8) rfl rfl (by kernel_rfl) (by kernel_rfl) (by kernel_rfl) (fun _ _ _ h => h) (Or.inl ⟨by rfl, ?hd8⟩) hS0 ?rd8
    case hd8 => (intro w _; go_simp; try (with_reducible rfl))
    try simp only [Act.put, List.setIfInBounds_toArray, List.set_cons_zero, List.set_cons_succ]
    refine takeG (some 18) (i := 9) (v := ?vd9) rfl rfl (by kernel_rfl) (by kernel_rfl) (by kernel_rfl) (fun _ _ _ h => h) (Or.inl ⟨by rfl, ?hd9⟩) hS0 ?rd9
    case hd9 => (intro w _; go_simp; try (with_reducible rfl))
    try simp only [Act.put, List.setIfInBounds_toArray, List.set_cons_zero, List.set_cons_succ]
    refine takeG (some 19) (i := 10) (v := ?vd10) rfl rfl (by kernel_rfl) (by kernel_rfl) (by kernel_rfl) (fun _ _ _ h => h) (Or.inl ⟨by rfl, ?hd10⟩) hS0 ?rd10
    case hd10 => (intro w _; go_simp; try (with_reducible rfl))
    try simp only [Act.put, List.setIfInBounds_toArray, List.set_cons_zero, List.set_cons_succ]
    refine takeG (some 20) (i := 11) (v := _) rfl rfl (by kernel_rfl) (by kernel_rfl) (by kernel_rfl) (fun _ _ _ h => h) (yields_rel (by rfl) _ rfl rfl (fun wx hx => hx.2)) hS0 ?_
    try simp only [Act.put, List.setIfInBounds_toArray, List.set_cons_zero, List.set_cons_succ]
    refine wpAnyH_ready (rs := [12]) (by kernel_rfl) (by simp) ?_
    refine AllReadyH.cons rfl (fun K hK => ?_) AllReadyH.nil
    go_simp
    refine (CR.out _ kd).mono ?_
    rintro e q2 ⟨rfl, hq2⟩
    show K _ _
    have k2 := below_then kd hq2
    have s2 := HS.out _ k2
    refine hK.out _ _ s2 (fun _ => ?_)
    clear hK K
    refine takeG (some 22) (i := 13) (v := ?vd13) rfl rfl (by kernel_rfl) (by kernel_rfl) (by kernel_rfl) (fun _ _ _ h => h) (Or.inl ⟨by rfl, ?hd13⟩) s2 ?rd13
    case hd13 => (intro w _; go_simp; try (with_reducible rfl))
    try simp only [Act.put, List.setIfInBounds_toArray, List.set_cons_zero, List.set_cons_succ]
    refine takeG (some 23) (i := 14) (v := ?vd14) rfl rfl (by kernel_rfl) (by kernel_rfl) (by kernel_rfl) (fun _ _ _ h => h) (Or.inl ⟨by rfl, ?hd14⟩) s2 ?rd14
    case hd14 => (intro w _; go_simp; try (with_reducible rfl))
    try simp only [Act.put, List.setIfInBounds_toArray, List.set_cons_zero, List.set_cons_succ]
    refine takeG (some 24) (i := 15) (v := ?vd15) rfl rfl (by kernel_rfl) (by kernel_rfl) (by kernel_rfl) (fun _ _ _ h => h) (Or.inl ⟨by rfl, ?hd15⟩) s2 ?rd15
    case hd15 => (intro w _; go_simp; try (with_reducible rfl))
    try simp only [Act.put, List.setIfInBounds_toArray, List.set_cons_zero, List.set_cons_succ]
    refine takeG (some 26) (i := 17) (v := ?vd17) rfl rfl (by kernel_rfl) (by kernel_rfl) (by kernel_rfl) (fun _ _ _ h => h) (Or.inl ⟨by rfl, ?hd17⟩) s2 ?rd17
    case hd17 => (intro w _; go_simp; try (with_reducible rfl))
    try simp only [Act.put, List.setIfInBounds_toArray, List.set_cons_zero, List.set_cons_succ]
    refine takeG (some 27) (i := 18) (v := ?vd18) rfl rfl (by kernel_rfl) (by kernel_rfl) (by kernel_rfl) (fun _ _ _ h => h) (Or.inl ⟨by rfl, ?hd18⟩) s2 ?rd18
    case hd18 => (intro w _; go_simp; try (with_reducible rfl))
    try simp only [Act.put, List.setIfInBounds_toArray, List.set_cons_zero, List.set_cons_succ]
    refine takeG (some 28) (i := 19) (v := _) rfl rfl (by kernel_rfl) (by kernel_rfl) (by kernel_rfl) (fun _ _ _ h => h) (yields_rel (by rfl) _ rfl rfl (fun wx hx => hx.2)) s2 ?_
    try simp only [Act.put, List.setIfInBounds_toArray, List.set_cons_zero, List.set_cons_succ]
    refine wpAnyH_ready (rs := [16]) (by kernel_rfl) (by simp) ?_
    refine AllReadyH.cons rfl (fun K hK => ?_) AllReadyH.nil
    go_simp
    refine (CA.out _ k2).mono ?_
    rintro e q3 ⟨rfl, rfl⟩
    show K _ _
    refine hK.out _ _ s2 (fun _ => ?_)
    clear hK K
    refine wpAnyH_ready (rs := [20]) (by kernel_rfl) (by simp) ?_
    refine AllReadyH.cons rfl (fun K hK => ?_) AllReadyH.nil
    go_simp
    refine (CK.out _ k2).mono ?_
    rintro e q4 ⟨rfl, hq4⟩
    show K _ _
    have k4 := below_then k2 hq4
    have s4 := HS.out _ k4
    refine hK.out _ _ s4 (fun _ => ?_)
    clear hK K
    refine takeG (some 30) (i := 21) (v := ?vd21) rfl rfl (by kernel_rfl) (by kernel_rfl) (by kernel_rfl) (fun _ _ _ h => h) (Or.inl ⟨by rfl, ?hd21⟩) s4 ?rd21
    case hd21 => (intro w _; go_simp; try (with_reducible rfl))
    try simp only [Act.put, List.setIfInBounds_toArray, List.set_cons_zero, List.set_cons_succ]
    refine takeG (some 31) (i := 22) (v := ?vd22) rfl rfl (by kernel_rfl) (by kernel_rfl) (by kernel_rfl) (fun _ _ _ h => h) (Or.inl ⟨by rfl, ?hd22⟩) s4 ?rd22
    case hd22 => (intro w _; go_simp; try (with_reducible rfl))
    try simp only [Act.put, List.setIfInBounds_toArray, List.set_cons_zero, List.set_cons_succ]
    refine takeG (some 32) (i := 23) (v := ?vd23) rfl rfl (by kernel_rfl) (by kernel_rfl) (by kernel_rfl) (fun _ _ _ h => h) (Or.inl ⟨by rfl, ?hd23⟩) s4 ?rd23
    case hd23 => (intro w _; go_simp; try (with_reducible rfl))
    try simp only [Act.put, List.setIfInBounds_toArray, List.set_cons_zero, List.set_cons_succ]
    refine takeG (some 8) (i := 24) (v := ?vd24) rfl rfl (by kernel_rfl) (by kernel_rfl) (by kernel_rfl) (fun _ _ _ h => h) (Or.inl ⟨by rfl, ?hd24⟩) s4 ?rd24
    case hd24 => (intro w _; go_simp; try (with_reducible rfl))
    try simp only [Act.put, List.setIfInBounds_toArray, List.set_cons_zero, List.set_cons_succ]
    refine wpAnyH_done (by kernel_rfl) ?_ _
    go_wp2_with fail
    go_ret
    exact ⟨ret_b HV.out, HB.out _ k4⟩
  · have HV : Hid (false = holdsB h lv l V) := Lib.hid (by rw [HR.out, hsd, decide_eq_false h0]; rfl)
    obtain ⟨z, hz⟩ : ∃ z, z = lackN na nk := ⟨_, rfl⟩
    have hlk : bits .andNot .i64 (na : Int) (nk : Int) = (z : Int) := by rw [HLK.out, hz]; rfl
    have hz0 : ¬ (z : Int) = 0 := by rw [hz]; omega
    clear HR h0 hz hsd
    refine wp_region_held_drew (S := fun wx => OrdB wx B h ∧ RelAt wx w.heap.size 37 V) (by kernel_rfl) (HS.out _ kd) (fun hS0 => ?_)
    refine takeG (some 9) (i := 0) (v := ?ve0) rfl rfl (by kernel_rfl) (by kernel_rfl) (by kernel_rfl) (fun _ _ _ h => h) (Or.inl ⟨by rfl, ?he0⟩) hS0 ?re0
    case he0 => (intro w _; go_simp; try (with_reducible rfl))
    try simp only [Act.put, List.setIfInBounds_toArray, List.set_cons_zero, List.set_cons_succ]
    refine wpAnyH_ready (rs := [1]) (by kernel_rfl) (by simp) ?_
    refine AllReadyH.cons rfl (fun K hK => ?_) AllReadyH.nil
    go_simp
    refine (CI.out _).mono ?_
    rintro e q1 ⟨rfl, rfl⟩
    show K _ _
    refine hK.out _ _ hS0 (fun _ => ?_)
    clear hK K
    refine takeG (some 11) (i := 2) (v := ?ve2) rfl rfl (by kernel_rfl) (by kernel_rfl) (by kernel_rfl) (fun _ _ _ h => h) (Or.inl ⟨by rfl, ?he2⟩) hS0 ?re2
    case he2 => (intro w _; go_simp; try (with_reducible rfl))
    try simp only [Act.put, List.setIfInBounds_toArray, List.set_cons_zero, List.set_cons_succ]
    refine takeG (some 12) (i := 3) (v := ?ve3) rfl rfl (by kernel_rfl) (by kernel_rfl) (by kernel_rfl) (fun _ _ _ h => h) (Or.inl ⟨by rfl, ?he3⟩) hS0 ?re3
    case he3 => (intro w hw; have hn := hw.1.cS; rw [HSD.out] at hn; have hm := hw.1.cN; go_simp; try (with_reducible rfl))
    try simp only [Act.put, List.setIfInBounds_toArray, List.set_cons_zero, List.set_cons_succ]
    refine takeG (some 13) (i := 4) (v := ?ve4) rfl rfl (by kernel_rfl) (by kernel_rfl) (by kernel_rfl) (fun _ _ _ h => h) (Or.inl ⟨by rfl, ?he4⟩) hS0 ?re4
    case he4 => (intro w hw; have hn := hw.1.cS; rw [HSD.out] at hn; have hm := hw.1.cN; go_simp; try (with_reducible rfl))
    try simp only [Act.put, List.setIfInBounds_toArray, List.set_cons_zero, List.set_cons_succ]
    refine takeG (some 14) (i := 5) (v := ?ve5) rfl rfl (by kernel_rfl) (by kernel_rfl) (by kernel_rfl) (fun _ _ _ h => h) (Or.inl ⟨by rfl, ?he5⟩) hS0 ?re5
    case he5 => (intro w hw; have hn := hw.1.cS; rw [HSD.out] at hn; have hm := hw.1.cN; go_simp; try (with_reducible rfl))
    try simp only [Act.put, List.setIfInBounds_toArray, List.set_cons_zero, List.set_cons_succ]
    refine takeG (some 15) (i := 6) (v := ?ve6) rfl rfl (by kernel_rfl) (by kernel_rfl) (by kernel_rfl) (fun _ _ _ h => h) (Or.inl ⟨by rfl, ?he6⟩) hS0 ?re6
    case he6 => (intro w hw; have hn := hw.1.cS; rw [HSD.out] at hn; have hm := hw.1.cN; go_simp; try (with_reducible rfl))
    try simp only [Act.put, List.setIfInBounds_toArray, List.set_cons_zero, List.set_cons_succ]
    refine takeG (some 16) (i := 7) (v := ?ve7) rfl rfl (by kernel_rfl) (by kernel_rfl) (by kernel_rfl) (fun _ _ _ h => h) (Or.inl ⟨by rfl, ?he7⟩) hS0 ?re7
    case he7 => (intro w _; go_simp; try (with_reducible rfl))
    try simp only [Act.put, List.setIfInBounds_toArray, List.set_cons_zero, List.set_cons_succ]
    refine takeG (some 17) (i := 8) (v := ?ve8) rfl rfl (by kernel_rfl) (by kernel_rfl) (by kernel_rfl) (fun _ _ _ h => h) (Or.inl ⟨by rfl, ?he8⟩) hS0 ?re8
    case he8 => (intro w _; go_simp; try (with_reducible rfl))
    try simp only [Act.put, List.setIfInBounds_toArray, List.set_cons_zero, List.set_cons_succ]
    refine takeG (some 18) (i := 9) (v := ?ve9) rfl rfl (by kernel_rfl) (by kernel_rfl) (by kernel_rfl) (fun _ _ _ h => h) (Or.inl ⟨by rfl, ?he9⟩) hS0 ?re9
    case he9 => (intro w _; go_simp; try (with_reducible rfl))
    try simp only [Act.put, List.setIfInBounds_toArray, List.set_cons_zero, List.set_cons_succ]
    refine takeG (some 19) (i := 10) (v := ?ve10) rfl rfl (by kernel_rfl) (by kernel_rfl) (by kernel_rfl) (fun _ _ _ h => h) (Or.inl ⟨by rfl, ?he10⟩) hS0 ?re10
    case he10 => (intro w _; go_simp; try (with_reducible rfl))
    try simp only [Act.put, List.setIfInBounds_toArray, List.set_cons_zero, List.set_cons_succ]
    refine takeG (some 20) (i := 11) (v := _) rfl rfl (by kernel_rfl) (by kernel_rfl) (by kernel_rfl) (fun _ _ _ h => h) (yields_rel (by rfl) _ rfl rfl (fun wx hx => hx.2)) hS0 ?_
    try simp only [Act.put, List.setIfInBounds_toArray, List.set_cons_zero, List.set_cons_succ]
    refine wpAnyH_ready (rs := [12]) (by kernel_rfl) (by simp) ?_
    refine AllReadyH.cons rfl (fun K hK => ?_) AllReadyH.nil
    go_simp
    refine (CR.out _ kd).mono ?_
    rintro e q2 ⟨rfl, hq2⟩
    show K _ _
    have k2 := below_then kd hq2
    have s2 := HS.out _ k2
    refine hK.out _ _ s2 (fun _ => ?_)
    clear hK K
    refine takeG (some 22) (i := 13) (v := ?ve13) rfl rfl (by kernel_rfl) (by kernel_rfl) (by kernel_rfl) (fun _ _ _ h => h) (Or.inl ⟨by rfl, ?he13⟩) s2 ?re13
    case he13 => (intro w _; go_simp; try (with_reducible rfl))
    try simp only [Act.put, List.setIfInBounds_toArray, List.set_cons_zero, List.set_cons_succ]
    refine takeG (some 23) (i := 14) (v := ?ve14) rfl rfl (by kernel_rfl) (by kernel_rfl) (by kernel_rfl) (fun _ _ _ h => h) (Or.inl ⟨by rfl, ?he14⟩) s2 ?re14
    case he14 => (intro w _; go_simp; try (with_reducible rfl))
    try simp only [Act.put, List.setIfInBounds_toArray, List.set_cons_zero, List.set_cons_succ]
    refine takeG (some 24) (i := 15) (v := ?ve15) rfl rfl (by kernel_rfl) (by kernel_rfl) (by kernel_rfl) (fun _ _ _ h => h) (Or.inl ⟨by rfl, ?he15⟩) s2 ?re15
    case he15 => (intro w _; go_simp; try (with_reducible rfl))
    try simp only [Act.put, List.setIfInBounds_toArray, List.set_cons_zero, List.set_cons_succ]
    refine takeG (some 26) (i := 17) (v := ?ve17) rfl rfl (by kernel_rfl) (by kernel_rfl) (by kernel_rfl) (fun _ _ _ h => h) (Or.inl ⟨by rfl, ?he17⟩) s2 ?re17
    case he17 => (intro w _; go_simp; try (with_reducible rfl))
    try simp only [Act.put, List.setIfInBounds_toArray, List.set_cons_zero, List.set_cons_succ]
    refine takeG (some 27) (i := 18) (v := ?ve18) rfl rfl (by kernel_rfl) (by kernel_rfl) (by kernel_rfl) (fun _ _ _ h => h) (Or.inl ⟨by rfl, ?he18⟩) s2 ?re18
    case he18 => (intro w _; go_simp; try (with_reducible rfl))
    try simp only [Act.put, List.setIfInBounds_toArray, List.set_cons_zero, List.set_cons_succ]
    refine takeG (some 28) (i := 19) (v := _) rfl rfl (by kernel_rfl) (by kernel_rfl) (by kernel_rfl) (fun _ _ _ h => h) (yields_rel (by rfl) _ rfl rfl (fun wx hx => hx.2)) s2 ?_
    try simp only [Act.put, List.setIfInBounds_toArray, List.set_cons_zero, List.set_cons_succ]
    refine wpAnyH_ready (rs := [16]) (by kernel_rfl) (by simp) ?_
    refine AllReadyH.cons rfl (fun K hK => ?_) AllReadyH.nil
    go_simp
    refine (CA.out _ k2).mono ?_
    rintro e q3 ⟨rfl, rfl⟩
    show K _ _
    refine hK.out _ _ s2 (fun _ => ?_)
    clear hK K
    refine wpAnyH_ready (rs := [20]) (by kernel_rfl) (by simp) ?_
    refine AllReadyH.cons rfl (fun K hK => ?_) AllReadyH.nil
    go_simp
    refine (CK.out _ k2).mono ?_
    rintro e q4 ⟨rfl, hq4⟩
    show K _ _
    have k4 := below_then k2 hq4
    have s4 := HS.out _ k4
    refine hK.out _ _ s4 (fun _ => ?_)
    clear hK K
    refine takeG (some 30) (i := 21) (v := ?ve21) rfl rfl (by kernel_rfl) (by kernel_rfl) (by kernel_rfl) (fun _ _ _ h => h) (Or.inl ⟨by rfl, ?he21⟩) s4 ?re21
    case he21 => (intro w _; go_simp; try (with_reducible rfl))
    try simp only [Act.put, List.setIfInBounds_toArray, List.set_cons_zero, List.set_cons_succ]
    refine takeG (some 31) (i := 22) (v := ?ve22) rfl rfl (by kernel_rfl) (by kernel_rfl) (by kernel_rfl) (fun _ _ _ h => h) (Or.inl ⟨by rfl, ?he22⟩) s4 ?re22
    case he22 => (intro w _; go_simp; try (with_reducible rfl))
    try simp only [Act.put, List.setIfInBounds_toArray, List.set_cons_zero, List.set_cons_succ]
    refine takeG (some 32) (i := 23) (v := ?ve23) rfl rfl (by kernel_rfl) (by kernel_rfl) (by kernel_rfl) (fun _ _ _ h => h) (Or.inl ⟨by rfl, ?he23⟩) s4 ?re23
    case he23 => (intro w _; go_simp; try (with_reducible rfl))
    try simp only [Act.put, List.setIfInBounds_toArray, List.set_cons_zero, List.set_cons_succ]
    refine takeG (some 8) (i := 24) (v := ?ve24) rfl rfl (by kernel_rfl) (by kernel_rfl) (by kernel_rfl) (fun _ _ _ h => h) (Or.inl ⟨by rfl, ?he24⟩) s4 ?re24
    case he24 => (intro w _; go_simp; try (with_reducible rfl))
    try simp only [Act.put, List.setIfInBounds_toArray, List.set_cons_zero, List.set_cons_succ]
    refine wpAnyH_done (by kernel_rfl) ?_ _
    go_wp2_with fail
    go_ret
    exact ⟨ret_b (((beq_eq_false_iff_ne).2 hz0).trans HV.out), HB.out _ k4⟩
end Go.Proofs.YtfekcmhjdjifgaaDoor

namespace Go.Proofs.YtfekcmhjdjifgaaDoor
set_option maxRecDepth 100000
open Go.RowKit

/-- One stands ahead of another one in a row. -/
def Ahead : List Int → Int → Int → Prop
  | [], _, _ => False
  | c :: L, a, b => Ahead L a b ∨ (c = a ∧ b ∈ L)
theorem Ahead.mem {a b : Int} : ∀ {L : List Int}, Ahead L a b → a ∈ L ∧ b ∈ L
  | [], h => h.elim
  | c :: L, h => by
    rcases h with h | ⟨rfl, h⟩
    · exact ⟨List.mem_cons_of_mem _ (Ahead.mem h).1, List.mem_cons_of_mem _ (Ahead.mem h).2⟩
    · exact ⟨List.mem_cons_self, List.mem_cons_of_mem _ h⟩
theorem ahead_at {a b : Int} : ∀ {L : List Int}, Ahead L a b ↔ ∃ i, i < L.length ∧ L.getD i 0 = a ∧ b ∈ L.drop (i + 1)
  | [] => by simp [Ahead]
  | c :: L => by
    unfold Ahead
    rw [ahead_at]
    constructor
    · rintro (⟨i, hi, h1, h2⟩ | ⟨rfl, h⟩)
      · exact ⟨i + 1, by simpa using hi, by simpa using h1, by simpa using h2⟩
      · exact ⟨0, by simp, by simp, by simpa using h⟩
    · rintro ⟨i, hi, h1, h2⟩
      cases i with
      | zero => exact .inr ⟨by simpa using h1, by simpa using h2⟩
      | succ i => exact .inl ⟨i, by simpa using hi, by simpa using h1, by simpa using h2⟩
theorem Ahead.trans {a m b : Int} : ∀ {L : List Int}, Ahead L a m → Ahead L m b → ¬ Ahead L m m → Ahead L a b
  | [], h, _, _ => h.elim
  | c :: L, h, k, hno => by
    rcases h with h | ⟨rfl, h⟩
    · rcases k with k | ⟨rfl, k⟩
      · exact .inl (Ahead.trans h k fun x => hno (.inl x))
      · exact absurd (.inr ⟨rfl, h.mem.2⟩) hno
    · rcases k with k | ⟨rfl, k⟩
      · exact .inr ⟨rfl, k.mem.2⟩
      · exact .inr ⟨rfl, k⟩
theorem behB_iff (L : List Int) (j : Nat) : behB L j = true ↔ (j : Int) ∈ L := by
  unfold behB
  rw [List.any_eq_true]
  constructor
  · rintro ⟨a, ha, e⟩; rw [beq_iff_eq] at e; exact e ▸ ha
  · intro h; exact ⟨_, h, by simp⟩
theorem chainR_iff (i j : Nat) : ∀ (L : List Int), chainR L i j = true ↔ Ahead L i j
  | [] => by simp [chainR, noR, Ahead]
  | c :: L => by
    show (chainR L i j || (c == (i : Int) && behB L j)) = true ↔ _
    rw [Bool.or_eq_true, Bool.and_eq_true, chainR_iff i j L, beq_iff_eq, behB_iff]; rfl
end Go.Proofs.YtfekcmhjdjifgaaDoor

namespace Go.Proofs.YtfekcmhjdjifgaaDoor
set_option maxRecDepth 100000
open Go.RowKit

theorem ses_tim {h : List TxnV} (hc : checkI h = 0) {i k : Nat} (hi : i < h.length) (hk : k < h.length) (hik : i < k) (hs : h[i].s = h[k].s) : h[i].c < h[k].b := by
  have h1 := (rowR_iff.1 (may_rows (may_of hc) k hk)).2.1
  have h2 : h[i] ∈ h.take k := by
    rw [List.mem_take_iff_getElem]
    exact ⟨i, by omega, rfl⟩
  obtain ⟨⟨_, _, h3, _⟩, h4⟩ := (apartB_iff _ _).1 (List.all_eq_true.1 h1 _ h2)
  by_cases e : h[k].b < h[i].c
  · exact absurd ⟨hs, e⟩ h4
  · omega
theorem ses_in_tim {h : List TxnV} (hc : checkI h = 0) : inM (sesM h) (timM h) = true := by
  unfold inM inMTo
  rw [List.all_eq_true]
  intro i hi
  have hi := List.mem_range.1 hi
  rw [inB_iff (isSet_mkS _)]
  intro j hj hb
  rw [testBit_mkS] at hb ⊢
  simp only [hj, decide_true, Bool.true_and] at hb ⊢
  obtain ⟨h1, h2, h3⟩ := (prsTo_iff (sesP h) h.length i j hi hj h.length).1 hb
  refine (prsTo_iff (timP h) h.length i j hi hj h.length).2 ⟨h1, h2, ?_⟩
  unfold sesP at h3
  unfold timP
  rw [sAt_eq h1, sAt_eq h2] at h3
  simp only [Bool.and_eq_true, decide_eq_true_eq] at h3
  rw [cAt_eq h1, bAt_eq h2]
  exact decide_eq_true (ses_tim hc h1 h2 h3.1 h3.2)
end Go.Proofs.YtfekcmhjdjifgaaDoor

namespace Go.Proofs.YtfekcmhjdjifgaaDoor
set_option maxRecDepth 100000
open Go.RowKit

theorem rivM_in (h : List TxnV) (A : Mat) (i j : Nat) (hr : rivM h A i j = true) : A i j = true := by
  unfold rivM at hr
  rw [Bool.and_eq_true] at hr
  exact hr.1
/-- What follows of what is asked, bit by bit. -/
theorem clN_bits : ∀ k : Fin 64, (clN k.val).testBit 0 = (k.val.testBit 0 || k.val.testBit 5) ∧ (clN k.val).testBit 1 = (k.val.testBit 1 || (k.val.testBit 2 || k.val.testBit 4)) ∧ (clN k.val).testBit 2 = (k.val.testBit 2 || k.val.testBit 4) ∧
    (clN k.val).testBit 3 = (k.val.testBit 3 || k.val.testBit 4) ∧ (clN k.val).testBit 4 = k.val.testBit 4 ∧ (clN k.val).testBit 5 = k.val.testBit 5 := by decide +kernel
theorem ahead_irr {L : List Int} (hn : L.Nodup) (a : Int) : ¬ Ahead L a a := by
  rw [ahead_at]
  rintro ⟨i, hi, h1, h2⟩
  obtain ⟨k, hk, h3⟩ := List.mem_iff_getElem.1 h2
  rw [List.length_drop] at hk
  rw [List.getElem_drop] at h3
  rw [List.getD_eq_getElem?_getD, List.getElem?_eq_getElem hi, Option.getD_some] at h1
  exact List.pairwise_iff_getElem.1 hn i (i + 1 + k) hi (by omega) (by omega) (h1.trans h3.symm)
theorem chain_trans {L : List Int} (hn : L.Nodup) {i m j : Nat} (h1 : chainR L i m = true) (h2 : chainR L m j = true) : chainR L i j = true := by
  rw [chainR_iff] at *
  exact h1.trans h2 (ahead_irr hn _)
theorem nodup_ofNat {L : List Nat} (h : L.Nodup) : (L.map Int.ofNat).Nodup := nodup_map Int.ofNat (fun _ _ e => Int.ofNat.inj e) h
theorem inM_iff (R S : Mat) : inM R S = true ↔ ∀ i j, i < 64 → j < 64 → R i j = true → S i j = true := by
  unfold inM inMTo
  rw [List.all_eq_true]
  constructor
  · intro h i j hi hj hr
    have h1 := (inB_iff (isSet_mkS _)).1 (h i (List.mem_range.2 hi)) j hj (by rw [testBit_mkS, hr, decide_eq_true hj]; rfl)
    rw [testBit_mkS, decide_eq_true hj] at h1
    simpa using h1
  · intro h i hi
    have hi := List.mem_range.1 hi
    rw [inB_iff (isSet_mkS _)]
    intro j hj hb
    rw [testBit_mkS, decide_eq_true hj] at hb ⊢
    simp only [Bool.true_and] at hb ⊢
    exact h i j hi hj hb
end Go.Proofs.YtfekcmhjdjifgaaDoor

namespace Go.Proofs.YtfekcmhjdjifgaaDoor
set_option maxRecDepth 100000
open Go.RowKit

/-- What the second level asks, and doesn't follow of what the first one does; whether nothing is. -/
def missN (a b : Int) : Nat := askN b ^^^ (askN b &&& clN (askN a))
def impB (a b : Int) : Bool := isLv a && (isLv b && decide (missN a b = 0))
theorem clI_ask (a : Int) : clI (askN a : Int) = clN (askN a) := by
  have h := askN_lt a
  unfold clI
  have e : ((askN a : Nat) : Int) % 64 = (askN a : Int) := by omega
  rw [e, Int.toNat_natCast]
theorem lmiss_any (a b : Int) (w : World) (hK : Kinds w) : Calls Tryd.prog 58 #[.int .i64 a, .int .i64 b] w fun e w' => e = .returned (.int .i64 (missN a b)) ∧ w = w' := by
  have ha := askN_lt a
  have hb := askN_lt b
  have hc := clN_lt ⟨askN a, ha⟩
  simp only at hc
  have H : Hid (bits .andNot .i64 (askN b : Int) (clN (askN a) : Int) = (missN a b : Int)) := Lib.hid (i64_andNot_nat _ _ (by omega) (by omega))
  have CA := Lib.hid (fun l => lasks_any l w hK)
  have CC : Hid (Calls Tryd.prog 13 #[.int .i64 (askN a)] w fun e w' => e = .returned (.int .i64 (clN (askN a))) ∧ w = w') := Lib.hid (by have h := lclosed_any (askN a) w; rwa [clI_ask] at h)
  clear hK hc ha hb
  go_enter Tryd.func58, Tryd.ntmps58
  go_wp2_with (first
    | (go_at_call 21; refine (CA.out _).mono ?_; rintro e w' ⟨rfl, rfl⟩)
    | (go_at_call 13; refine (CC.out).mono ?_; rintro e w' ⟨rfl, rfl⟩))
  go_ret
  exact ⟨lret_i H.out, rfl⟩
theorem limp_any (a b : Int) (w : World) (hK : Kinds w) : Calls Tryd.prog 23 #[.int .i64 a, .int .i64 b] w fun e w' => e = .returned (.bool (impB a b)) ∧ w = w' := by
  have CM := Lib.hid (lmiss_any a b w hK)
  have H : Hid (impB a b = (isLv a && (isLv b && decide (missN a b = 0)))) := Lib.hid rfl
  have HE : Hid ((((missN a b : Nat) : Int) == 0) = decide (missN a b = 0)) := Lib.hid (by rw [Bool.eq_iff_iff, beq_iff_eq, decide_eq_true_eq]; omega)
  rw [H.out]
  clear hK H
  generalize decide (missN a b = 0) = B at *
  generalize ((missN a b : Nat) : Int) = m at *
  cases ha : isLv a
  · have C := Lib.hid (fun wx => lis_no ha wx)
    clear ha CM HE
    go_enter Tryd.func23, Tryd.ntmps23
    go_wp2_with (go_at_call 55; refine (C.out _).mono ?_; rintro e w' ⟨rfl, rfl⟩)
    go_ret
    exact ⟨rfl, rfl⟩
  · have C := Lib.hid (fun wx => lis_yes ha wx)
    cases hb : isLv b
    · have D := Lib.hid (fun wx => lis_no hb wx)
      clear ha hb CM HE
      go_enter Tryd.func23, Tryd.ntmps23
      go_wp2_with fail
      refine (C.out _).mono ?_
      rintro e w' ⟨rfl, rfl⟩
      go_wp2_with fail
      refine (D.out _).mono ?_
      rintro e w' ⟨rfl, rfl⟩
      go_wp2_with fail
      go_ret
      exact ⟨rfl, rfl⟩
    · have D := Lib.hid (fun wx => lis_yes hb wx)
      clear ha hb
      go_enter Tryd.func23, Tryd.ntmps23
      go_wp2_with fail
      refine (C.out _).mono ?_
      rintro e w' ⟨rfl, rfl⟩
      go_wp2_with fail
      refine (D.out _).mono ?_
      rintro e w' ⟨rfl, rfl⟩
      go_wp2_with fail
      refine (CM.out).mono ?_
      rintro e w' ⟨rfl, rfl⟩
      go_wp2_with fail
      go_ret
      exact ⟨lret_b HE.out, rfl⟩

end Go.Proofs.YtfekcmhjdjifgaaDoor

namespace Go.Proofs.YtfekcmhjdjifgaaDoor
set_option maxRecDepth 100000
open Go.RowKit

theorem bitA_pow : ∀ m : Fin 6, bitA m.val = 2 ^ m.val := by decide
theorem keptTo_bit (M : Nat → Mat) (V : Mat) (k : Nat) : ∀ m, m ≤ 6 → (keptTo M V m).testBit k = (decide (k < m) && inM (M k) V)
  | 0, _ => by unfold keptTo; simp
  | m + 1, h => by
    have ih := keptTo_bit M V k m (by omega)
    have e := bitA_pow ⟨m, by omega⟩
    simp only at e
    rw [keptTo_succ]
    by_cases hk : k = m
    · subst hk
      rw [decide_eq_false (Nat.lt_irrefl k), Bool.false_and] at ih
      rw [decide_eq_true (Nat.lt_succ_self k), Bool.true_and]
      cases hM : inM (M k) V with
      | true => rw [if_pos rfl, Nat.testBit_or, e, Nat.testBit_two_pow_self, Bool.or_true]
      | false => rw [if_neg (by decide)]; exact ih
    · have hd : decide (k < m + 1) = decide (k < m) := by rw [decide_eq_decide]; omega
      rw [hd]
      split
      · rw [Nat.testBit_or, e, Nat.testBit_two_pow_of_ne (by omega), Bool.or_false]; exact ih
      · exact ih
theorem kept_bit (h : List TxnV) (l : List Int) (V : Mat) {k : Nat} (hk : k < 6) : (keptN h l V).testBit k = inM (keptM h (chainR l) V k) V := by
  unfold keptN
  rw [keptTo_bit _ _ _ 6 (Nat.le_refl 6), decide_eq_true hk, Bool.true_and]
theorem lack_iff (a b : Nat) : lackN a b = 0 ↔ ∀ k, a.testBit k = true → b.testBit k = true := by
  unfold lackN
  constructor
  · intro e k hk
    have t := congrArg (fun x => Nat.testBit x k) e
    simp only [Nat.testBit_xor, Nat.testBit_and, Nat.zero_testBit, hk, Bool.true_and] at t
    cases hb : b.testBit k
    · rw [hb] at t; exact absurd t (by decide)
    · rfl
  · intro H
    apply Nat.eq_of_testBit_eq
    intro k
    rw [Nat.testBit_xor, Nat.testBit_and, Nat.zero_testBit]
    cases ha : a.testBit k
    · rfl
    · rw [H k ha]; rfl
theorem inM_trans {A B C : Mat} (h1 : inM A B = true) (h2 : inM B C = true) : inM A C = true := by
  rw [inM_iff] at *
  exact fun i j hi hj h => h2 i j hi hj (h1 i j hi hj h)
/-- What is kept is closed, where all that is seen comes ahead. -/
theorem kept_closed {h : List TxnV} {l : List Int} {V : Mat} (hc : checkI h = 0) (hn : l.Nodup) (hV : inM V (chainR l) = true) : clN (keptN h l V) = keptN h l V := by
  have hlt : keptN h l V < 64 := keptTo_lt _ _ _
  obtain ⟨b0, b1, b2, b3, b4, b5⟩ := clN_bits ⟨keptN h l V, hlt⟩
  have hlt2 := clN_lt ⟨keptN h l V, hlt⟩
  simp only at b0 b1 b2 b3 b4 b5 hlt2
  have k0 := kept_bit h l V (k := 0) (by omega)
  have k1 := kept_bit h l V (k := 1) (by omega)
  have k2 := kept_bit h l V (k := 2) (by omega)
  have k3 := kept_bit h l V (k := 3) (by omega)
  have k4 := kept_bit h l V (k := 4) (by omega)
  have k5 := kept_bit h l V (k := 5) (by omega)
  have hV' := (inM_iff _ _).1 hV
  have t50 : (keptN h l V).testBit 5 = true → (keptN h l V).testBit 0 = true := fun e => by
    rw [k0]; rw [k5] at e; exact inM_trans (ses_in_tim hc) e
  have t21 : (keptN h l V).testBit 2 = true → (keptN h l V).testBit 1 = true := fun e => by
    rw [k1]; rw [k2] at e
    rw [inM_iff] at *
    intro i j hi hj hr
    obtain ⟨m, hm, h1, h2⟩ := (thenR_iff V V i j).1 hr
    exact e i j hi hj ((thenR_iff _ _ i j).2 ⟨m, hm, hV' i m hi hm h1, h2⟩)
  have t42 : (keptN h l V).testBit 4 = true → (keptN h l V).testBit 2 = true := fun e => by
    rw [k2]; rw [k4] at e
    rw [inM_iff] at *
    intro i j hi hj hr
    obtain ⟨m, hm, h1, h2⟩ := (thenR_iff _ V i j).1 hr
    exact e i j hi hj (chain_trans hn h1 (hV' m j hm hj h2))
  have t43 : (keptN h l V).testBit 4 = true → (keptN h l V).testBit 3 = true := fun e => by
    rw [k3]; rw [k4] at e
    rw [inM_iff] at *
    exact fun i j hi hj hr => e i j hi hj (rivM_in h _ i j hr)
  apply Nat.eq_of_testBit_eq
  intro k
  by_cases hk : k < 6
  · have h6 : k = 0 ∨ k = 1 ∨ k = 2 ∨ k = 3 ∨ k = 4 ∨ k = 5 := by omega
    rcases h6 with rfl | rfl | rfl | rfl | rfl | rfl
    · rw [b0]; cases h5 : (keptN h l V).testBit 5; · rw [Bool.or_false]
      rw [t50 h5]; rfl
    · rw [b1]; cases h2 : (keptN h l V).testBit 2
      · cases h4 : (keptN h l V).testBit 4; · rw [Bool.or_false, Bool.or_false]
        rw [t42 h4] at h2; cases h2
      · rw [t21 h2]; rfl
    · rw [b2]; cases h4 : (keptN h l V).testBit 4; · rw [Bool.or_false]
      rw [t42 h4]; rfl
    · rw [b3]; cases h4 : (keptN h l V).testBit 4; · rw [Bool.or_false]
      rw [t43 h4]; rfl
    · exact b4
    · exact b5
  · have hp : (64 : Nat) ≤ 2 ^ k := by
      have := Nat.pow_le_pow_right (n := 2) (by omega) (show 6 ≤ k by omega)
      omega
    rw [Nat.testBit_lt_two_pow (by omega), Nat.testBit_lt_two_pow (by omega)]
theorem cl_mono {a b : Nat} (ha : a < 64) (hb : b < 64) (H : ∀ k, a.testBit k = true → b.testBit k = true) : ∀ k, (clN a).testBit k = true → (clN b).testBit k = true := by
  intro k hk
  have hla := clN_lt ⟨a, ha⟩
  simp only at hla
  by_cases h6 : k < 6
  · obtain ⟨a0, a1, a2, a3, a4, a5⟩ := clN_bits ⟨a, ha⟩
    obtain ⟨b0, b1, b2, b3, b4, b5⟩ := clN_bits ⟨b, hb⟩
    simp only at a0 a1 a2 a3 a4 a5 b0 b1 b2 b3 b4 b5
    have h7 : k = 0 ∨ k = 1 ∨ k = 2 ∨ k = 3 ∨ k = 4 ∨ k = 5 := by omega
    have m0 := H 0
    have m1 := H 1
    have m2 := H 2
    have m3 := H 3
    have m4 := H 4
    have m5 := H 5
    rcases h7 with rfl | rfl | rfl | rfl | rfl | rfl
    · rw [a0, Bool.or_eq_true] at hk; rw [b0, Bool.or_eq_true]; exact hk.imp m0 m5
    · rw [a1, Bool.or_eq_true, Bool.or_eq_true] at hk; rw [b1, Bool.or_eq_true, Bool.or_eq_true]; exact hk.imp m1 (Or.imp m2 m4)
    · rw [a2, Bool.or_eq_true] at hk; rw [b2, Bool.or_eq_true]; exact hk.imp m2 m4
    · rw [a3, Bool.or_eq_true] at hk; rw [b3, Bool.or_eq_true]; exact hk.imp m3 m4
    · rw [a4] at hk; rw [b4]; exact m4 hk
    · rw [a5] at hk; rw [b5]; exact m5 hk
  · have hp : (64 : Nat) ≤ 2 ^ k := by
      have := Nat.pow_le_pow_right (n := 2) (by omega) (show 6 ≤ k by omega)
      omega
    rw [Nat.testBit_lt_two_pow (by omega)] at hk
    cases hk
/-- What a level asks that is kept, and all that follows of it, is kept. -/
theorem closed_kept {h : List TxnV} {l : List Int} {V : Mat} (hc : checkI h = 0) (hn : l.Nodup) (hV : inM V (chainR l) = true) {x : Int} (hk : lackN (askN x) (keptN h l V) = 0) : lackN (clN (askN x)) (keptN h l V) = 0 := by
  have hlt : keptN h l V < 64 := keptTo_lt _ _ _
  rw [lack_iff] at *
  intro k e
  rw [← kept_closed hc hn hV]
  exact cl_mono (askN_lt x) hlt hk k e
/-- A level that is kept keeps each that it implies. -/
theorem implied_holds {h : List TxnV} {l : List Int} {V : Mat} (hc : checkI h = 0) (hn : l.Nodup) {x y : Int} (hx : holdsB h x l V = true) (hi : impB x y = true) : holdsB h y l V = true := by
  unfold holdsB at *
  simp only [Bool.and_eq_true, decide_eq_true_eq] at hx ⊢
  unfold impB at hi
  simp only [Bool.and_eq_true, decide_eq_true_eq] at hi
  obtain ⟨hx1, hx2, hx3, hx4⟩ := hx
  obtain ⟨_, hi2, hi3⟩ := hi
  have hV : inM V (chainR l) = true := by
    unfold rightM at hx3
    simp only [Bool.and_eq_true] at hx3
    exact hx3.2.1
  refine ⟨hi2, hx2, hx3, ?_⟩
  have h1 := (lack_iff _ _).1 (closed_kept hc hn hV hx4)
  have h2 := (lack_iff (askN y) (clN (askN x))).1 hi3
  exact (lack_iff _ _).2 (fun k e => h1 k (h2 k e))
end Go.Proofs.YtfekcmhjdjifgaaDoor
