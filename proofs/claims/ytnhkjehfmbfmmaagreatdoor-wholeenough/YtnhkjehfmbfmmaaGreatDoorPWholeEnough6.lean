/- Walks and plain facts that the proof of the statement WholeEnough uses, joined: SeaE OrdAJ MemD MemF SeaF AxhD AxhF AxhG AxhL BruA BruC BruD PlaQ BruE SeaG SeaB. Conditions: each theorem's own. -/
import Derived.Laws.BytesArg
import Derived.OneCell
import Derived.Lib.BufferWrite
import Derived.Deep.CutRange
import Derived.RangeFuncNested
import Derived.RangeFuncCalls
import Derived.RangeFuncLeaves
import Derived.RangeFuncBound
import Derived.Shelf.Abstract
import Derived.OwnWalkIn
import Derived.TacticsInMore
import Derived.LoopNIn
import Derived.LoopIn
import Derived.Deep.AppendLies
import Derived.ArgAppend
import Derived.Test.YtnhkjehfmbfmmaaGreatDoorPWholeEnough0
import Derived.Test.YtnhkjehfmbfmmaaGreatDoorPWholeEnough1
import Derived.Test.YtnhkjehfmbfmmaaGreatDoorPWholeEnough2
import Derived.Test.YtnhkjehfmbfmmaaGreatDoorPWholeEnough3
import Derived.Test.YtnhkjehfmbfmmaaGreatDoorPWholeEnough4
import Derived.Test.YtnhkjehfmbfmmaaGreatDoorPWholeEnough5
namespace Go.Proofs.YtnhkjehfmbfmmaaGreatDoor
set_option maxHeartbeats 32000000
set_option maxRecDepth 100000
set_option linter.unusedSimpArgs false
set_option linter.unusedVariables false
open Lib (hid)
section
open Go.RowKit
def memF (M : List (Nat × ByteArray)) : Nat → ByteArray → Bool := fun p s => decide ((p, s) ∈ M)
theorem memF_nil : memF [] = fun _ _ => false := by funext p s; unfold memF; simp
theorem memF_cons (M : List (Nat × ByteArray)) (p : Nat) (s : ByteArray) : (fun q u => decide (q = p ∧ u = s) || memF M q u) = memF ((p, s) :: M) := by
 funext q u
 unfold memF
 rw [Bool.eq_iff_iff]
 simp
def Lasts (F U c : Nat) : Prop := F = 4611686018427387904 ∨ U + c ≤ F
theorem left_zero {F U : Nat} (h : mleftN F U = 0) : F ≠ 4611686018427387904 ∧ F ≤ U := by
 unfold mleftN at h
 split at h
 ·cases h
 ·rename_i e; exact ⟨e, by omega⟩
structure SeaStep (S Mb T : Nat) (vr vr' : Value) (w w' : World) : Prop where
 os : w'.os = w.os
 tape : w'.tape = w.tape
 output : w'.output = w.output
 size : w.heap.size ≤ w'.heap.size
 block : ∀ k, k < w.heap.size → k ≠ S → k ≠ Mb → k ≠ T → vr.ownBlock ≠ some k → w'.heap[k]? = w.heap[k]?
 own : ∀ g, vr'.ownBlock = some g → vr.ownBlock = some g ∨ w.heap.size ≤ g
section
variable {S Mb T : Nat} {vr vr' v1 v2 v3 : Value} {w w' w1 w2 w3 : World}
theorem SeaStep.of_below (hb : Below w.heap.size w w') : SeaStep S Mb T vr vr w w' := ⟨hb.os, hb.tape, hb.output, hb.size, fun k hk _ _ _ _ => hb.block k hk, fun _ hg => .inl hg⟩
theorem SeaStep.of_step (k : PlStep S vr vr' w w') : SeaStep S Mb T vr vr' w w' := ⟨k.os, k.tape, k.output, k.size, fun j hj a _ _ e => k.block j hj a e, k.own⟩
theorem SeaStep.of_meter (k : w.grownBy w' (some T)) : SeaStep S Mb T vr vr w w' := ⟨k.os, k.tape, k.output, k.size, fun j hj _ _ c _ => k.block j hj (fun e => c (by injection e)), fun _ hg => .inl hg⟩
theorem SeaStep.of_memo (k : w.grownBy w' (some Mb)) : SeaStep S Mb T vr vr w w' := ⟨k.os, k.tape, k.output, k.size, fun j hj _ c _ _ => k.block j hj (fun e => c (by injection e)), fun _ hg => .inl hg⟩
theorem SeaStep.trans (h : SeaStep S Mb T v1 v2 w1 w2) (k : SeaStep S Mb T v2 v3 w2 w3) : SeaStep S Mb T v1 v3 w1 w3 := by
 refine ⟨k.os.trans h.os, k.tape.trans h.tape, k.output.trans h.output, Nat.le_trans h.size k.size, fun j hj a c d hv => ?_, fun g hg => ?_⟩
 ·refine (k.block j (Nat.lt_of_lt_of_le hj h.size) a c d (fun e => ?_)).trans (h.block j hj a c d hv)
  rcases h.own j e with q | q
  ·exact hv q
  ·omega
 ·rcases k.own g hg with q | q
  ·exact h.own g q
  ·exact .inr (Nat.le_trans h.size q)
end
structure SrAt (w : World) (X S B Mb T : Nat) : Prop where
 c0 : w.cell? ⟨X, 0, none⟩ = some (.pointer (some ⟨S, 0, none⟩))
 c1 : w.cell? ⟨X, 1, none⟩ = some (.pointer (some ⟨B, 0, none⟩))
 c2 : w.cell? ⟨X, 2, none⟩ = some (.map (some Mb))
 c3 : w.cell? ⟨X, 3, none⟩ = some (.iface 152 (.pointer (some ⟨T, 0, none⟩)))
theorem SrAt.lt {w : World} {X S B Mb T : Nat} (h : SrAt w X S B Mb T) : X < w.heap.size := block_lt h.c0
theorem SrAt.block {w w' : World} {X S B Mb T : Nat} (h : SrAt w X S B Mb T) (hb : w'.heap[X]? = w.heap[X]?) : SrAt w' X S B Mb T :=
 ⟨(World.cell?_of_block (a := ⟨X, 0, none⟩) hb).trans h.c0, (World.cell?_of_block (a := ⟨X, 1, none⟩) hb).trans h.c1, (World.cell?_of_block (a := ⟨X, 2, none⟩) hb).trans h.c2, (World.cell?_of_block (a := ⟨X, 3, none⟩) hb).trans h.c3⟩
theorem MtAt.block {w w' : World} {S f u : Nat} (h : MtAt w S f u) (hb : w'.heap[S]? = w.heap[S]?) : MtAt w' S f u :=
 ⟨(World.cell?_of_block (a := ⟨S, 0, none⟩) hb).trans h.cF, (World.cell?_of_block (a := ⟨S, 1, none⟩) hb).trans h.cU, (World.frozen?_of_block (a := ⟨S, 1, none⟩) hb).trans h.fU, h.le, h.uM, h.ue⟩
structure Sea (w0 : World) (N S B b : Nat) (h : List TxnV) (C X Mb T F : Nat) (vb : Value) (r : List Nat) (vr : Value) (aF sF : Nat → Nat) (M : List (Nat × ByteArray)) (U : Nat) (w : World) : Prop where
 p : PlX w0 N S B b h C r vb vr aF sF w
 x : SrAt w X S B Mb T
 m : MemM w Mb M.length (memF M)
 t : MtAt w T F U
 ap : ∀ g, PlOf S vb vr g → g ≠ X ∧ g ≠ Mb ∧ g ≠ T
 ne : X ≠ Mb ∧ X ≠ T ∧ Mb ≠ T
 lo : w0.heap.size ≤ X ∧ w0.heap.size ≤ Mb ∧ w0.heap.size ≤ T
section
variable {w0 w w' : World} {N S B b : Nat} {h : List TxnV} {C X Mb T F : Nat} {vb : Value} {r : List Nat} {vr : Value} {aF sF : Nat → Nat} {M : List (Nat × ByteArray)} {U : Nat}
theorem Sea.below (q : Sea w0 N S B b h C X Mb T F vb r vr aF sF M U w) (hb : Below w.heap.size w w') : Sea w0 N S B b h C X Mb T F vb r vr aF sF M U w' :=
 ⟨q.p.below hb, q.x.block (hb.block X q.x.lt), q.m.block (hb.block Mb q.m.lt), q.t.block (hb.block T q.t.lt), q.ap, q.ne, q.lo⟩
theorem Sea.spend (q : Sea w0 N S B b h C X Mb T F vb r vr aF sF M U w) (hO : OrdIs w0 B b h) (ht : Tab w0) (hg : w.grownBy w' (some T)) (hm : MtAt w' T F (U + 1)) : Sea w0 N S B b h C X Mb T F vb r vr aF sF M (U + 1) w' := by
 have n1 : some X ≠ some T := fun e => q.ne.2.1 (by injection e)
 have n2 : some Mb ≠ some T := fun e => q.ne.2.2 (by injection e)
 exact ⟨q.p.apart hO ht (ApartQ.of_grown hg) (fun k hk => by rw [hk]; exact q.lo.2.2) (fun e => (q.ap S (.inl rfl)).2.2 e) (fun g hg2 e => (q.ap g (.inr (.inl hg2))).2.2 e) (fun g hg2 e => (q.ap g (.inr (.inr hg2))).2.2 e),
  q.x.block (hg.block X q.x.lt n1), q.m.block (hg.block Mb q.m.lt n2), hm, q.ap, q.ne, q.lo⟩
theorem Sea.add (q : Sea w0 N S B b h C X Mb T F vb r vr aF sF M U w) (hO : OrdIs w0 B b h) (ht : Tab w0) (hg : w.grownBy w' (some Mb)) {M' : List (Nat × ByteArray)} (hm : MemM w' Mb M'.length (memF M')) : Sea w0 N S B b h C X Mb T F vb r vr aF sF M' U w' := by
 have n1 : some X ≠ some Mb := fun e => q.ne.1 (by injection e)
 have n2 : some T ≠ some Mb := fun e => q.ne.2.2 (by injection e with e; exact e.symm)
 exact ⟨q.p.apart hO ht (ApartQ.of_grown hg) (fun k hk => by rw [hk]; exact q.lo.2.1) (fun e => (q.ap S (.inl rfl)).2.1 e) (fun g hg2 e => (q.ap g (.inr (.inl hg2))).2.1 e) (fun g hg2 e => (q.ap g (.inr (.inr hg2))).2.1 e),
  q.x.block (hg.block X q.x.lt n1), hm, q.t.block (hg.block T q.t.lt n2), q.ap, q.ne, q.lo⟩
theorem Sea.step (q : Sea w0 N S B b h C X Mb T F vb r vr aF sF M U w) {r' : List Nat} {vr' : Value} {aF' sF' : Nat → Nat} (p' : PlX w0 N S B b h C r' vb vr' aF' sF' w') (k : PlStep S vr vr' w w') : Sea w0 N S B b h C X Mb T F vb r' vr' aF' sF' M U w' := by
 have hb : ∀ g, g < w.heap.size → (g = X ∨ g = Mb ∨ g = T) → w'.heap[g]? = w.heap[g]? := fun g hl hg => by
  refine k.block g hl (fun e => ?_) (fun e => ?_)
  ·have := q.ap g (.inl e); omega
  ·have := q.ap g (.inr (.inr e)); omega
 refine ⟨p', q.x.block (hb X q.x.lt (.inl rfl)), q.m.block (hb Mb q.m.lt (.inr (.inl rfl))), q.t.block (hb T q.t.lt (.inr (.inr rfl))), fun g hg => ?_, q.ne, q.lo⟩
 rcases hg with hg | hg | hg
 ·exact q.ap g (.inl hg)
 ·exact q.ap g (.inr (.inl hg))
 ·rcases k.own g hg with e | e
  ·exact q.ap g (.inr (.inr e))
  ·have := q.x.lt; have := q.m.lt; have := q.t.lt; omega
end
end

section
open Go.RowKit
def WrsIs (F : Int → Option Nat) (h : List TxnV) : Prop := ∀ y j, ((F y).getD 0).testBit j = (decide (j < h.length) && decide (y ∈ keysOf (opsAt h j)))
theorem wrsIs_of {h : List TxnV} {K : List KRow} (hc : checkI h = 0) (hK : K.map (·.2) = keysTo h h.length) : WrsIs (wrsTo K K.length) h := fun y j => by
 have h64 := (check_zero hc).1
 have hl := keys_len hK
 rw [wrsTo_bit K j y K.length (by omega) (Nat.le_refl _), hl]
 by_cases hj : j < h.length
 ·rw [keys_at hK hj]
 ·simp [hj]
theorem ordis_map {w : World} {B b : Nat} {h : List TxnV} (hO : OrdIs w B b h) (hc : checkI h = 0) : ∃ bm m c F, w.cell? ⟨B, 193, none⟩ = some (.map (some bm)) ∧ MapI eS Tryz.prog 3 w bm m F c ∧ AllSet F ∧ WrsIs F h := by
 obtain ⟨bm, m, c, vk, vr, K, R, h1, h2, h3, h4, h5, h6⟩ := hO
 exact ⟨bm, m, c, _, h1.cM, h2, h3, wrsIs_of hc h5⟩
theorem keys_in {h : List TxnV} (hc : checkI h = 0) {j : Nat} (hj : j < h.length) {y : Int} (hy : y ∈ keysOf (opsAt h j)) : 0 ≤ y ∧ y < 64 := by
 obtain ⟨_, _, _, hks⟩ := check_zero hc
 obtain ⟨o, ho, rfl⟩ := List.mem_map.1 hy
 have h3 := (refWrites_mem ho).1
 rw [opsAt_eq hj] at h3
 exact hks _ (List.getElem_mem hj) o h3
end

section
open Go.RowKit
theorem keyIM : Tryz.prog.underlying 3 = some (.int .i64) := by kernel_rfl
theorem mapISM : Tryz.prog.underlying 109 = some (.map 3 106) := by kernel_rfl
theorem eS_injM : ∀ x y : Nat, eS x = eS y → x = y := fun x y e => by
 unfold eS at e
 injection e with _ e
 exact_mod_cast e
def Alls (F : Int → Option Nat) (left : Int → Bool) (s : Nat) : Prop := IsSet s ∧ ∀ j, s.testBit j = true ↔ ∃ x u, InI x ∧ F x = some u ∧ left x = false ∧ u.testBit j = true
theorem Alls.start (F : Int → Option Nat) : Alls F (fun x => (F x).isSome) 0 := ⟨by unfold IsSet; omega, fun j => ⟨fun q => by simp at q, fun ⟨x, u, _, h1, h2, _⟩ => by
 have h2 : (F x).isSome = false := h2
 rw [h1] at h2; cases h2⟩⟩
theorem Alls.step {F : Int → Option Nat} {left : Int → Bool} {s : Nat} (h : Alls F left s) (hA : AllSet F) {x : Int} {u : Nat} (hx : InI x) (hf : F x = some u) : Alls F (fun y => left y && !decide (y = x)) (s ||| u) := by
 have hu := hA x
 rw [hf] at hu
 refine ⟨isSet_or h.1 hu, fun j => ?_⟩
 rw [Nat.testBit_or, Bool.or_eq_true, h.2 j]
 constructor
 ·rintro (⟨y, v, h1, h2, h3, h4⟩ | h4)
  ·exact ⟨y, v, h1, h2, by show (left y && _) = false; rw [h3]; rfl, h4⟩
  ·exact ⟨x, u, hx, hf, by simp, h4⟩
 ·rintro ⟨y, v, h1, h2, h3, h4⟩
  by_cases e : y = x
  ·subst e; rw [hf] at h2; cases h2; exact .inr h4
  ·have h3 : (left y && !decide (y = x)) = false := h3
   rw [decide_eq_false e] at h3
   exact .inl ⟨y, v, h1, h2, by simpa using h3, h4⟩
theorem Alls.done {F : Int → Option Nat} {left : Int → Bool} {s : Nat} {h : List TxnV} (q : Alls F left s) (hc : checkI h = 0) (hW : WrsIs F h) (hl : ∀ x, InI x → left x = false) : s = wAllN h := by
 have h64 := (check_zero hc).1
 apply Nat.eq_of_testBit_eq
 intro j
 rw [Bool.eq_iff_iff, q.2 j, wAll_bit]
 constructor
 ·rintro ⟨x, u, h1, h2, h3, h4⟩
  have := hW x j
  rw [h2, Option.getD_some, h4] at this
  have := this.symm
  simp only [Bool.and_eq_true, decide_eq_true_eq] at this
  exact ⟨by omega, this.1, fun e => by rw [e] at this; cases this.2⟩
 ·rintro ⟨h1, h2, h3⟩
  obtain ⟨y, l, e⟩ := List.exists_cons_of_ne_nil h3
  have hy : y ∈ keysOf (opsAt h j) := by rw [e]; exact List.mem_cons_self ..
  have := hW y j
  rw [decide_eq_true h2, decide_eq_true hy] at this
  have hyi := keys_in hc h2 hy
  have hI : InI y := WalkArith.wf_i64 (by omega)
  cases hF : F y with
  | none => rw [hF] at this; simp at this
  | some u => exact ⟨y, u, hI, hF, hl y hI, by rw [hF] at this; exact this⟩
theorem mwriters_any {w : World} {B b : Nat} {h : List TxnV} (hO : OrdIs w B b h) (hc : checkI h = 0) :
  Calls Tryz.prog 226 #[.pointer (some ⟨B, 0, none⟩)] w fun e w' => e = .returned (.int .u64 ((wAllN h : Nat) : Int)) ∧ Below w.heap.size w w' := by
 obtain ⟨bm, m, c, F, n0, hM, hA, hW⟩ := ordis_map hO hc
 have HD : Hid (∀ left s, (∀ x, InI x → left x = false) → Alls F left s → s = wAllN h) := hid (fun left s hl q => q.done hc hW hl)
 have HS : Hid (∀ left s x u, InI x → F x = some u → Alls F left s → Alls F (fun y => left y && !decide (y = x)) (s ||| u)) := hid (fun left s x u hx hf q => q.step hA hx hf)
 have HU : Hid (∀ x u, F x = some u → IsSet u) := hid (fun x u hf => by have := hA x; rw [hf] at this; exact this)
 have hbm := hM.lt
 clear hO hc hA hW
 go_enter Tryz.func226, Tryz.ntmps226
 go_wp2_with (first | (at_range; refine wpList_rangeI _ rfl _ 109 rfl 3 106 keyIM mapISM _ _ _ _ rfl hM ?_; intro w0 hR0 hg0 hs0) | go_in)
 try go_frame
 have hb0 := (Below.refl w.heap.size w).grown hg0 (Nat.le_refl _) (fun j hj => by cases hj)
 have hpr : w.heap.size ≤ w.heap.size := Nat.le_refl _
 clear hM hg0 hs0 n0
 go_loopw [3] (fun v wx => ∃ (left : Int → Bool) (cnt s : Nat), v = .int .u64 (s : Int) ∧ Hid (Alls F left s) ∧ RangeI eS Tryz.prog 3 wx bm w.heap.size m F left cnt ∧ Below w.heap.size w wx) (fun _ wx => wx.rangeLeft bm w.heap.size)
 case atStart => exact ⟨_, _, 0, rfl, hid (Alls.start F), hR0, hb0⟩
 case round =>
  clear hR0 hb0
  obtain ⟨left, cnt, s, rfl, HA, hR, hb⟩ := hrel
  have hs := HA.out.1
  go_wp2_with (first | (at_next; refine wpList_nextI _ rfl _ rfl 3 keyIM eS_injM _ _ _ _ _ _ rfl hR ?_ ?_) | go_in)
  ·intro hc0 hl0
   have e := HD.out _ _ hl0 HA.out
   subst e
   clear hR hs HA HD HS HU
   go_wp2_with fail
   go_ret
   exact ⟨rfl, hb⟩
  ·intro x u w1 cnt1 hx hlx hfu hR1 hlt1 hg1 hs1 hen
   have hu := HU.out x u hfu
   have HA2 := hid (HS.out _ _ _ _ hx hfu HA.out)
   have hor := bits_or_u64_nat s u hs hu
   have hb1 := hb.grown hg1 hb.size (fun j hj => by cases hj; exact hpr)
   have hle2 := hR.left_eq
   clear hR hb hg1 hs1 hlx hfu hx hu hs HA
   change Sem.run _ _ _ = Result.ok (Value.tuple #[.int .i64 x, .int .u64 (u : Int)]) _ at hen
   simp only [eS]
   go_wp2_with fail
   go_roundw
   case rel => exact ⟨_, _, _, rfl, HA2, hR1, hb1⟩
   case measure => rw [hR1.left_eq, hle2]; exact hlt1
end

section
open Go.RowKit
theorem infoByte : ((Tryz.prog.info? 5).map fun i => (i.zero, i.size, i.bytes)) = some (some (.int .u8 0), 1, 1) := by kernel_rfl
def u8V (l : List Nat) : List Value := l.map fun n : Nat => Value.int .u8 (n : Int)
def ByAt (w : World) (A : Nat) (F : Nat → Nat) : Prop := ∀ i, i < 64 → w.cell? ⟨A, i, none⟩ = some (.int .u8 ((F i : Nat) : Int)) ∧ w.frozen? ⟨A, i, none⟩ = false
section
variable {w w' : World} {A : Nat} {F : Nat → Nat}
theorem ByAt.lt (h : ByAt w A F) : A < w.heap.size := block_lt (h 0 (by omega)).1
theorem ByAt.block (h : ByAt w A F) (hb : w'.heap[A]? = w.heap[A]?) : ByAt w' A F := fun i hi =>
 ⟨(World.cell?_of_block (a := ⟨A, i, none⟩) hb).trans (h i hi).1, (World.frozen?_of_block (a := ⟨A, i, none⟩) hb).trans (h i hi).2⟩
theorem ByAt.below {B : Nat} (h : ByAt w A F) (hb : Below B w w') (hB : A < B) : ByAt w' A F := h.block (hb.block A hB)
theorem ByAt.set (h : ByAt w A F) {i : Nat} (hi : i < 64) (s : Nat) : ByAt (w.setCell ⟨A, i, none⟩ (.int .u8 (s : Int))) A (updN F i s) := fun k hk => by
 refine ⟨?_, by rw [World.frozen?_setCell]; exact (h k hk).2⟩
 unfold updN
 by_cases e : k = i
 ·subst e; rw [if_pos rfl]; exact World.cell?_setCell_same _ _ _ (h k hk).1
 ·rw [if_neg e, World.cell?_setCell_other _ _ _ _ (fun q => e (by injection q with _ q2; exact q2.symm))]
  exact (h k hk).1
theorem ByAt.made (w : World) (t : TypeId) (cs : Array Value) (h : ∀ i, i < 64 → cs[i]? = some (.int .u8 0)) : ByAt (w.alloc (.cells cs t)) w.heap.size (fun _ => 0) := fun i hi => by
 have hn := heap_alloc_new w (.cells cs t)
 exact ⟨by rw [cell_of_row _ _ _ _ _ _ hn]; exact h i hi, frozen_of_row _ _ _ _ _ hn⟩
end
theorem row_bytes {w : World} {base : Nat} {v : Value} {l : List Nat} (h : w.ownsRow base 5 1 v l.length (u8V l)) : (convert 128 9 v).run Tryz.prog w = .ok (.string (byteB l)) w := by
 rcases h.2 with ⟨rfl, h0⟩ | ⟨g, cap, cur, rfl, _, hg, h1, _, h2, h3⟩
 ·obtain rfl := List.eq_nil_of_length_eq_zero h0
  exact run_convert_bytes_nil (P := Tryz.prog) w 128 5 Tryz.underlying128 Tryz.underlying5 0 0 9 Tryz.underlying9
 ·have := run_convert_bytes_arg (P := Tryz.prog) w 128 5 Tryz.underlying128 Tryz.underlying5 g 0 l.length cap (l.map Int.ofNat) (by simp) (fun i hi => by
   rw [Nat.zero_add, cell_of_row _ _ _ _ _ _ hg]
   have e : cur.toList[i]? = (u8V l)[i]? := by rw [← h3, Nat.mul_one, List.getElem?_take, if_pos hi]
   rw [← Array.getElem?_toList, e]
   unfold u8V
   simp [List.getD, hi]) 9 Tryz.underlying9
  rw [this]
  congr 2
  unfold strOfNums byteB
  rw [List.map_map]
  rfl
def lastK (r : List Nat) (k : Nat) : List Nat := (r.reverse.take k).reverse
theorem lastK_succ (r : List Nat) (k : Nat) (hk : k < r.reverse.length) : lastK r (k + 1) = r.reverse[k] :: lastK r k := by
 unfold lastK; rw [List.take_succ_eq_append_getElem hk, List.reverse_append]; rfl
theorem lastK_all (r : List Nat) (k : Nat) (hk : k = r.length) : lastK r k = r := by
 unfold lastK; rw [List.take_of_length_le (by rw [List.length_reverse]; omega), List.reverse_reverse]
theorem aheadC_upd (h : List TxnV) (i : Nat) (r : List Nat) : aheadC h (i :: r) = updN (aheadC h r) i (wrOf h r).length := by
 funext k; unfold updN; rw [aheadC]
theorem mreaches_any (C : Nat) (hC : C < 9223372036854775808) (w : World) :
  Calls Tryz.prog 227 #[.int .i64 (C : Int)] w fun e w' => e = .returned (.bool (reachB C)) ∧ w = w' := by
 obtain ⟨q16, h16⟩ : ∃ q, bits .and .i64 (C : Int) 16 = q := ⟨_, rfl⟩
 obtain ⟨q4, h4⟩ : ∃ q, bits .and .i64 (C : Int) 4 = q := ⟨_, rfl⟩
 have e16 := bit_ne C 4 hC (by omega) h16
 have e4 := bit_ne C 2 hC (by omega) h4
 have HV : Hid (reachB C = (!decide (q4 = 0) && decide (q16 = 0))) := hid (by unfold reachB; rw [e16, e4]; cases decide (q16 = 0) <;> simp)
 clear e16 e4
 rw [HV.out]
 clear HV
 go_enter Tryz.func227, Tryz.ntmps227
 by_cases z4 : q4 = 0
 ·have b4 : (q4 != 0) = false := by simp [z4]
  go_wp2_with fail
  go_ret
  exact ⟨by simp [z4], rfl⟩
 ·have b4 : (q4 != 0) = true := by simp [z4]
  go_wp2_with fail
  go_ret
  refine ⟨?_, rfl⟩
  by_cases z16 : q16 = 0 <;> simp [z4, z16]
theorem lack_set {a b : Nat} (ha : IsSet a) : IsSet (lackN a b) := isSet_of_bits fun i hi => by
 unfold lackN
 rw [Nat.testBit_xor, Nat.testBit_and, ha.high hi]; simp
theorem zero_bytes (w : World) : ByAt (w.alloc (.cells #[.int .u8 0, .int .u8 0, .int .u8 0, .int .u8 0, .int .u8 0, .int .u8 0, .int .u8 0, .int .u8 0, .int .u8 0, .int .u8 0, .int .u8 0, .int .u8 0, .int .u8 0, .int .u8 0, .int .u8 0, .int .u8 0, .int .u8 0, .int .u8 0, .int .u8 0, .int .u8 0, .int .u8 0, .int .u8 0, .int .u8 0, .int .u8 0, .int .u8 0, .int .u8 0, .int .u8 0, .int .u8 0, .int .u8 0, .int .u8 0, .int .u8 0, .int .u8 0, .int .u8 0, .int .u8 0, .int .u8 0, .int .u8 0, .int .u8 0, .int .u8 0, .int .u8 0, .int .u8 0, .int .u8 0, .int .u8 0, .int .u8 0, .int .u8 0, .int .u8 0, .int .u8 0, .int .u8 0, .int .u8 0, .int .u8 0, .int .u8 0, .int .u8 0, .int .u8 0, .int .u8 0, .int .u8 0, .int .u8 0, .int .u8 0, .int .u8 0, .int .u8 0, .int .u8 0, .int .u8 0, .int .u8 0, .int .u8 0, .int .u8 0, .int .u8 0] 293)) w.heap.size (fun _ => 0) := ByAt.made w _ _ fun i hi => by
 rw [show (#[.int .u8 0, .int .u8 0, .int .u8 0, .int .u8 0, .int .u8 0, .int .u8 0, .int .u8 0, .int .u8 0, .int .u8 0, .int .u8 0, .int .u8 0, .int .u8 0, .int .u8 0, .int .u8 0, .int .u8 0, .int .u8 0, .int .u8 0, .int .u8 0, .int .u8 0, .int .u8 0, .int .u8 0, .int .u8 0, .int .u8 0, .int .u8 0, .int .u8 0, .int .u8 0, .int .u8 0, .int .u8 0, .int .u8 0, .int .u8 0, .int .u8 0, .int .u8 0, .int .u8 0, .int .u8 0, .int .u8 0, .int .u8 0, .int .u8 0, .int .u8 0, .int .u8 0, .int .u8 0, .int .u8 0, .int .u8 0, .int .u8 0, .int .u8 0, .int .u8 0, .int .u8 0, .int .u8 0, .int .u8 0, .int .u8 0, .int .u8 0, .int .u8 0, .int .u8 0, .int .u8 0, .int .u8 0, .int .u8 0, .int .u8 0, .int .u8 0, .int .u8 0, .int .u8 0, .int .u8 0, .int .u8 0, .int .u8 0, .int .u8 0, .int .u8 0] : Array Value) = (List.replicate 64 (Value.int .u8 0)).toArray from rfl, List.getElem?_toArray, List.getElem?_replicate, if_pos hi]
theorem hasB_bit {s : Nat} {j : Nat} (hj : j < 64) : hasB s (j : Int) = s.testBit j := by
 unfold hasB
 rw [Int.toNat_natCast, show decide (0 ≤ (j : Int) ∧ (j : Int) < 64) = true by simp; omega, Bool.true_and]
theorem own_form {w : World} {base : Nat} {e : TypeId} {size n : Nat} {v : Value} {xs : List Value} (h : w.ownsRow base e size v n xs) : ∃ ao cap, v = .slice ao n cap := by
 rcases h.2 with ⟨rfl, rfl⟩ | ⟨g, cap, cur, rfl, _⟩
 ·exact ⟨_, _, rfl⟩
 ·exact ⟨_, _, rfl⟩
theorem u8V_app (l : List Nat) (n : Nat) : u8V (l ++ [n]) = u8V l ++ [.int .u8 (n : Int)] := by unfold u8V; rw [List.map_append]; rfl
theorem wrap_u8 {n : Nat} (h : n < 256) : IntKind.u8.wrap (n : Int) = (n : Int) := by
 have : IntKind.u8.wrap (n : Int) = (n : Int) % 256 := by rfl
 rw [this]; omega
structure KyAt (w : World) (g p : Nat) (s : ByteArray) : Prop where
 c0 : w.cell? ⟨g, 0, none⟩ = some (.int .u64 (p : Int))
 c1 : w.cell? ⟨g, 1, none⟩ = some (.string s)
 f0 : w.frozen? ⟨g, 0, none⟩ = false
 f1 : w.frozen? ⟨g, 1, none⟩ = false
section
variable {w w' : World} {g p : Nat} {s : ByteArray}
theorem KyAt.lt (h : KyAt w g p s) : g < w.heap.size := block_lt h.c0
theorem KyAt.block (h : KyAt w g p s) (hb : w'.heap[g]? = w.heap[g]?) : KyAt w' g p s :=
 ⟨(World.cell?_of_block (a := ⟨g, 0, none⟩) hb).trans h.c0, (World.cell?_of_block (a := ⟨g, 1, none⟩) hb).trans h.c1, (World.frozen?_of_block (a := ⟨g, 0, none⟩) hb).trans h.f0, (World.frozen?_of_block (a := ⟨g, 1, none⟩) hb).trans h.f1⟩
theorem KyAt.below (h : KyAt w g p s) (hb : Below w.heap.size w w') : KyAt w' g p s := h.block (hb.block g h.lt)
theorem KyAt.made (w : World) : KyAt (w.alloc (.cells #[.int .u64 0, .string ⟨#[]⟩] 246)) w.heap.size 0 ⟨#[]⟩ := by
 have hn := heap_alloc_new w (.cells #[.int .u64 0, .string ⟨#[]⟩] 246)
 refine ⟨?_, ?_, frozen_of_row _ _ _ _ _ hn, frozen_of_row _ _ _ _ _ hn⟩ <;> (rw [cell_of_row _ _ _ _ _ _ hn]; rfl)
theorem KyAt.set (h : KyAt w g p s) (q : Nat) (u : ByteArray) : KyAt ((w.setCell ⟨g, 0, none⟩ (.int .u64 (q : Int))).setCell ⟨g, 1, none⟩ (.string u)) g q u := by
 refine ⟨?_, ?_, ?_, ?_⟩
 ·rw [World.cell?_setCell_other _ _ _ _ (by simp)]
  exact World.cell?_setCell_same _ _ _ h.c0
 ·exact World.cell?_setCell_same _ _ _ (by rw [World.cell?_setCell_other _ _ _ _ (by simp)]; exact h.c1)
 ·simp only [World.frozen?_setCell]; exact h.f0
 ·simp only [World.frozen?_setCell]; exact h.f1
end
structure OfB (N A : Nat) (rv : Value) (bs : List Nat) (F : Nat → Nat) (w4 wr : World) : Prop where
 own : wr.ownsRow N 5 1 rv bs.length (u8V bs)
 tab : ByAt wr A F
 gr : w4.grownBy wr (some A)
 len : bs.length ≤ 128
section
variable {N A : Nat} {rv : Value} {bs : List Nat} {F : Nat → Nat} {w4 wr w6 : World}
theorem OfB.set (q : OfB N A rv bs F w4 wr) (hA : A < N) {i : Nat} (hi : i < 64) (s : Nat) : OfB N A rv bs (updN F i s) w4 (wr.setCell ⟨A, i, none⟩ (.int .u8 (s : Int))) := by
 have hs : Below 0 wr (wr.setCell ⟨A, i, none⟩ (.int .u8 (s : Int))) := (Below.refl 0 wr).setCell (Nat.zero_le _) _
 refine ⟨pl_far q.own hA _, q.tab.set hi s, ⟨hs.os.trans q.gr.os, hs.tape.trans q.gr.tape, hs.output.trans q.gr.output, Nat.le_trans q.gr.size hs.size, fun k hk hne => ?_⟩, q.len⟩
 rw [Below.heap_setCell wr ⟨A, i, none⟩ _ k (fun e => hne (by rw [e]))]
 exact q.gr.block k hk hne
theorem OfB.app (q : OfB N A rv bs F w4 wr) (hA : A < N) (hN : N = w4.heap.size) {o : Obj} {v' : Value} {n : Nat} (hl : bs.length + 1 ≤ 128) (hown : w6.ownsRow N 5 1 v' (bs.length + 1) (u8V bs ++ [.int .u8 (n : Int)])) (hg : (wr.alloc o).grownBy w6 rv.ownBlock) : OfB N A v' (bs ++ [n]) F w4 w6 := by
 have hlo := q.own.lt
 have hAr : rv.ownBlock ≠ some A := fun e => by have := (hlo A e).1; omega
 have hAl := q.tab.lt
 have hz : wr.heap.size ≤ (wr.alloc o).heap.size := by simp
 refine ⟨by rw [u8V_app, List.length_append]; exact hown, q.tab.block ((hg.block A (by omega) (fun e => hAr e.symm)).trans (Below.heap_alloc wr o A hAl)), ⟨hg.os.trans q.gr.os, hg.tape.trans q.gr.tape, hg.output.trans q.gr.output, Nat.le_trans q.gr.size (Nat.le_trans hz hg.size), fun k hk hne => ?_⟩, by rw [List.length_append]; exact hl⟩
 have hkr : k < wr.heap.size := Nat.lt_of_lt_of_le hk q.gr.size
 rw [hg.block k (by omega) (fun e => by have := (hlo k e.symm).1; omega), Below.heap_alloc wr o k hkr]
 exact q.gr.block k hk hne
theorem OfB.below (q : OfB N A rv bs F w4 wr) (hb : Below wr.heap.size wr w6) : OfB N A rv bs F w4 w6 :=
 ⟨owns_below q.own hb, q.tab.below hb q.tab.lt, ⟨hb.os.trans q.gr.os, hb.tape.trans q.gr.tape, hb.output.trans q.gr.output, Nat.le_trans q.gr.size hb.size, fun k hk hne => (hb.block k (Nat.lt_of_lt_of_le hk q.gr.size)).trans (q.gr.block k hk hne)⟩, q.len⟩
end
section
variable {W : World} {S B b : Nat} {h : List TxnV} {C : Nat} {r : List Nat} {vb vr : Value} {aF sF : Nat → Nat} {w : World}
theorem mof_any (p : PlIs W S B b h C r vb vr aF sF w) (hc : checkI h = 0) (hC : C < 9223372036854775808) :
  Calls Tryz.prog 170 #[.pointer (some ⟨B, 0, none⟩), .pointer (some ⟨S, 0, none⟩)] w fun e w' => e = .returned (kV (plS r) (keyB h C r)) ∧ Below w.heap.size w w' := by
 have h64 := (check_zero hc).1
 obtain ⟨i0, hi, hz0, hz1, hz2⟩ := info_parts infoByte
 have hrl : r.length ≤ 64 := by have := p.len; omega
 have hlt64 : ∀ k ∈ r, k < 64 := fun k hk => by have := p.lt k hk; omega
 have P := hid p
 have CP := hid (fun wx (hx : Below w.heap.size w wx) => pplaced_any (p.below hx))
 have CW := hid (fun wx (hx : Below w.heap.size w wx) => mwriters_any (p.below hx).ord hc)
 have CR := hid (fun wx (hx : Below w.heap.size w wx) => prow_at (p.below hx) h64)
 have CA := hid (fun wx (hx : Below w.heap.size w wx) => pasks_any (p.below hx))
 have CL := hid (fun wx (hx : Below w.heap.size w wx) => list_any (lackN (plS r) (wAllN h)) wx (lack_set (plS_set r)) (p.below hx).tab)
 have CH := hid (fun (n : Int) wx => has_any (wAllN h) n wx (wAll_set h))
 have CM := hid (fun wx => mreaches_any C hC wx)
 have HLT := hid hlt64
 have HLK : Hid (bits .andNot .u64 ((plS r : Nat) : Int) ((wAllN h : Nat) : Int) = ((lackN (plS r) (wAllN h) : Nat) : Int)) := hid (bits_andNot_u64_nat _ _ (plS_set r) (wAll_set h))
 have hb0 := box_below w (.cells #[.int .u64 0, .string ⟨#[]⟩] 246)
 have hky : ∀ wx, Below (w.heap.size + 1) (w.alloc (.cells #[.int .u64 0, .string ⟨#[]⟩] 246)) wx → KyAt wx w.heap.size 0 ⟨#[]⟩ := fun wx hx => by
  exact (KyAt.made w).block (hx.block w.heap.size (Nat.lt_succ_self _))
 have hs0 : (w.alloc (.cells #[.int .u64 0, .string ⟨#[]⟩] 246)).heap.size = w.heap.size + 1 := by simp
 have HKY := hid hky
 clear p hlt64 hky
 go_enter Tryz.func170, Tryz.ntmps170
 go_upto_region 1 with fail
 generalize w.alloc (.cells #[.int .u64 0, .string ⟨#[]⟩] 246) = w0 at *
 go_wp2_with fail
 refine (CP.out _ hb0).mono ?_
 rintro e wq ⟨rfl, rfl⟩
 go_wp2_with fail
 refine (CW.out _ hb0).mono ?_
 rintro e w1 ⟨rfl, hb1⟩
 have hk1 : Below (w.heap.size + 1) w0 w1 := by rw [← hs0]; exact hb1
 have hb1 := below_then hb0 hb1
 clear hb0 CP CW
 go_upto_region 4 with fail
 have z2 := zero_bytes w1
 have hb2 := hb1.alloc hb1.size (.cells #[.int .u8 0, .int .u8 0, .int .u8 0, .int .u8 0, .int .u8 0, .int .u8 0, .int .u8 0, .int .u8 0, .int .u8 0, .int .u8 0, .int .u8 0, .int .u8 0, .int .u8 0, .int .u8 0, .int .u8 0, .int .u8 0, .int .u8 0, .int .u8 0, .int .u8 0, .int .u8 0, .int .u8 0, .int .u8 0, .int .u8 0, .int .u8 0, .int .u8 0, .int .u8 0, .int .u8 0, .int .u8 0, .int .u8 0, .int .u8 0, .int .u8 0, .int .u8 0, .int .u8 0, .int .u8 0, .int .u8 0, .int .u8 0, .int .u8 0, .int .u8 0, .int .u8 0, .int .u8 0, .int .u8 0, .int .u8 0, .int .u8 0, .int .u8 0, .int .u8 0, .int .u8 0, .int .u8 0, .int .u8 0, .int .u8 0, .int .u8 0, .int .u8 0, .int .u8 0, .int .u8 0, .int .u8 0, .int .u8 0, .int .u8 0, .int .u8 0, .int .u8 0, .int .u8 0, .int .u8 0, .int .u8 0, .int .u8 0, .int .u8 0, .int .u8 0] 293)
 have hk2 := hk1.alloc (by rw [← hs0]; exact hk1.size) (.cells #[.int .u8 0, .int .u8 0, .int .u8 0, .int .u8 0, .int .u8 0, .int .u8 0, .int .u8 0, .int .u8 0, .int .u8 0, .int .u8 0, .int .u8 0, .int .u8 0, .int .u8 0, .int .u8 0, .int .u8 0, .int .u8 0, .int .u8 0, .int .u8 0, .int .u8 0, .int .u8 0, .int .u8 0, .int .u8 0, .int .u8 0, .int .u8 0, .int .u8 0, .int .u8 0, .int .u8 0, .int .u8 0, .int .u8 0, .int .u8 0, .int .u8 0, .int .u8 0, .int .u8 0, .int .u8 0, .int .u8 0, .int .u8 0, .int .u8 0, .int .u8 0, .int .u8 0, .int .u8 0, .int .u8 0, .int .u8 0, .int .u8 0, .int .u8 0, .int .u8 0, .int .u8 0, .int .u8 0, .int .u8 0, .int .u8 0, .int .u8 0, .int .u8 0, .int .u8 0, .int .u8 0, .int .u8 0, .int .u8 0, .int .u8 0, .int .u8 0, .int .u8 0, .int .u8 0, .int .u8 0, .int .u8 0, .int .u8 0, .int .u8 0, .int .u8 0] 293)
 have hs2 : (w1.alloc (.cells #[.int .u8 0, .int .u8 0, .int .u8 0, .int .u8 0, .int .u8 0, .int .u8 0, .int .u8 0, .int .u8 0, .int .u8 0, .int .u8 0, .int .u8 0, .int .u8 0, .int .u8 0, .int .u8 0, .int .u8 0, .int .u8 0, .int .u8 0, .int .u8 0, .int .u8 0, .int .u8 0, .int .u8 0, .int .u8 0, .int .u8 0, .int .u8 0, .int .u8 0, .int .u8 0, .int .u8 0, .int .u8 0, .int .u8 0, .int .u8 0, .int .u8 0, .int .u8 0, .int .u8 0, .int .u8 0, .int .u8 0, .int .u8 0, .int .u8 0, .int .u8 0, .int .u8 0, .int .u8 0, .int .u8 0, .int .u8 0, .int .u8 0, .int .u8 0, .int .u8 0, .int .u8 0, .int .u8 0, .int .u8 0, .int .u8 0, .int .u8 0, .int .u8 0, .int .u8 0, .int .u8 0, .int .u8 0, .int .u8 0, .int .u8 0, .int .u8 0, .int .u8 0, .int .u8 0, .int .u8 0, .int .u8 0, .int .u8 0, .int .u8 0, .int .u8 0] 293)).heap.size = w1.heap.size + 1 := by simp
 have hA1 : w.heap.size + 1 ≤ w1.heap.size := by have := hk1.size; omega
 clear hb1 hk1 hs0
 generalize w1.alloc (.cells #[.int .u8 0, .int .u8 0, .int .u8 0, .int .u8 0, .int .u8 0, .int .u8 0, .int .u8 0, .int .u8 0, .int .u8 0, .int .u8 0, .int .u8 0, .int .u8 0, .int .u8 0, .int .u8 0, .int .u8 0, .int .u8 0, .int .u8 0, .int .u8 0, .int .u8 0, .int .u8 0, .int .u8 0, .int .u8 0, .int .u8 0, .int .u8 0, .int .u8 0, .int .u8 0, .int .u8 0, .int .u8 0, .int .u8 0, .int .u8 0, .int .u8 0, .int .u8 0, .int .u8 0, .int .u8 0, .int .u8 0, .int .u8 0, .int .u8 0, .int .u8 0, .int .u8 0, .int .u8 0, .int .u8 0, .int .u8 0, .int .u8 0, .int .u8 0, .int .u8 0, .int .u8 0, .int .u8 0, .int .u8 0, .int .u8 0, .int .u8 0, .int .u8 0, .int .u8 0, .int .u8 0, .int .u8 0, .int .u8 0, .int .u8 0, .int .u8 0, .int .u8 0, .int .u8 0, .int .u8 0, .int .u8 0, .int .u8 0, .int .u8 0, .int .u8 0] 293) = w2 at *
 generalize w1.heap.size = A at *
 go_wp2_with fail
 refine (CR.out _ hb2).mono ?_
 rintro e w4 ⟨v, rfl, rfl, hI, hb4⟩
 have z4 := z2.below hb4 z2.lt
 have hk4 : Below (w.heap.size + 1) w0 w4 := hk2.trans (hb4.mono (by omega))
 have hb4 := below_then hb2 hb4
 rw [hs2] at hI ⊢
 have hA : A < w4.heap.size := z4.lt
 have hAw : w.heap.size ≤ A := by omega
 have hw4 : w.heap.size + 1 ≤ w4.heap.size := by omega
 have HI := hid (fun wx (hg : w4.grownBy wx (some A)) => hI.grown hg (fun b e e2 => by
  simp only [Value.ownBlock, Option.some.injEq] at e e2
  omega))
 have HG := hid (fun wx (hg : w4.grownBy wx (some A)) => hb4.grown hg hb4.size (fun j e => by injection e with e; omega))
 have HKG := hid (fun wx (hg : w4.grownBy wx (some A)) => hk4.grown hg hw4 (fun j e => by injection e with e; omega))
 have q0 : OfB w4.heap.size A (.slice none 0 0) [] (fun _ => 0) w4 w4 := ⟨World.ownsRow_nil _ _ _ _, z4, World.grownBy.refl _ _, by simp⟩
 clear hs2 CR z2 z4 hb2 hk2 hk4 hb4 hI
 go_wp2_with fail
 go_loopw [7, 20] (fun rv iv wr => ∃ (k : Nat) (bs : List Nat) (F : Nat → Nat), k ≤ r.length ∧ iv = .int .i64 k ∧ bs.length ≤ k ∧ OfB w4.heap.size A rv bs F w4 wr ∧ Hid (bs = (wrOf h (lastK r k)).reverse ∧ F = aheadC h (lastK r k))) (fun _ iv _ => r.length - (intOf iv).toNat)
 case atStart => exact ⟨0, [], fun _ => 0, Nat.zero_le _, rfl, Nat.zero_le _, q0, hid ⟨rfl, rfl⟩⟩
 case round =>
  clear q0
  obtain ⟨k, bs, F, hk, rfl, hbk, q, HQ⟩ := hrel
  obtain ⟨ro, rc, rfl⟩ := own_form q.own
  by_cases hkl : k < r.length
  ·have hki : (k : Int) < (r.length : Int) := by omega
   have hkL : k < r.reverse.length := by rw [List.length_reverse]; exact hkl
   obtain ⟨ga, oa, hao, e0⟩ := ints_at (HI.out _ q.gr) hkL
   cases hao
   rw [Nat.zero_add] at e0
   have hi64 : r.reverse[k] < 64 := HLT.out _ (List.mem_reverse.1 (List.getElem_mem hkL))
   have HL1 := hid (lastK_succ r k hkL)
   generalize r.reverse[k] = i at *
   have hi64i : (i : Int) < 64 := by omega
   have hb64 : bs.length < 256 := by omega
   have hwl := wrap_u8 hb64
   have hwi := wrap_u8 (show i < 256 by omega)
   obtain ⟨t0, t1⟩ := q.tab i hi64
   have HS := hid (q.set hA hi64 bs.length)
   have CHI := hid (fun wx => CH.out (i : Int) wx)
   rw [hasB_bit hi64] at CHI
   clear q
   go_upto_region 8 with fail
   have q := HS.out
   clear HS t0 t1 e0
   generalize wr.setCell ⟨A, i, none⟩ (.int .u8 (bs.length : Int)) = w5 at *
   go_wp2_with fail
   refine (CHI.out _).mono ?_
   rintro e wq ⟨rfl, rfl⟩
   clear CHI
   cases hw : (wAllN h).testBit i with
   | true =>
    have HR : Hid (bs ++ [i] = (wrOf h (lastK r (k + 1))).reverse ∧ updN F i bs.length = aheadC h (lastK r (k + 1))) := hid (by
     obtain ⟨a1, a2⟩ := HQ.out
     rw [HL1.out, wrOf_cons, if_pos hw, List.reverse_cons, ← a1, aheadC_upd, ← a2, a1, List.length_reverse]
     exact ⟨rfl, rfl⟩)
    have hown := q.own
    clear HQ HL1 hw
    go_wp2_with (at_builtin; refine wpList_append_own _ rfl _ _ 128 rfl w4.heap.size 5 i0 (.int .u8 0) 1 1 Tryz.underlying128 hi hz0 hz1 hz2 rfl (by decide) _ _ _ rfl (hown.alloc _) ⟨_, 0, none⟩ 1 1 [.int .u8 (i : Int)] rfl rfl ?c1 ?c2 ?c3 ?c4 ?c5 ?_)
    try case c1 => exact cell_one_new _ _ _
    case c2 => first | rfl | (intro u hu; simp at hu; subst hu; rfl)
    case c3 => unfold maxLen; omega
    case c4 => omega
    case c5 => have := q.gr.size; simp; omega
    intro v6 w6 hown6 hg6 _
    have q := q.app hA rfl (by omega) hown6 hg6
    clear hown hown6 hg6
    go_wp2_with fail
    go_roundw
    case rel => exact ⟨k + 1, bs ++ [i], _, by omega, by go_num, by simp; omega, q, HR⟩
    case measure => simp [intOf]; omega
   | false =>
    have HR : Hid (bs = (wrOf h (lastK r (k + 1))).reverse ∧ updN F i bs.length = aheadC h (lastK r (k + 1))) := hid (by
     obtain ⟨a1, a2⟩ := HQ.out
     rw [HL1.out, wrOf_cons, hw, aheadC_upd, ← a2, a1, List.length_reverse]
     exact ⟨rfl, rfl⟩)
    clear HQ HL1 hw
    go_wp2_with fail
    go_roundw
    case rel => exact ⟨k + 1, bs, _, by omega, by go_num, by omega, q, HR⟩
    case measure => simp [intOf]; omega
  ·have hkn : k = r.length := by omega
   have HV : Hid (bs = (wrOf h r).reverse ∧ F = aheadC h r) := hid (by have := HQ.out; rwa [lastK_all r k hkn] at this)
   have hbl : bs.length ≤ 64 := by omega
   have CA1 := hid (CA.out _ (HG.out _ q.gr))
   clear HQ hkl hbk CA HI HLT
   subst hkn
   go_wp2_with fail
   refine CA1.out.mono ?_
   rintro e wq ⟨rfl, rfl⟩
   go_wp2_with fail
   refine (CM.out _).mono ?_
   rintro e wq ⟨rfl, rfl⟩
   clear CA1 CM
   cases hpf : reachB C with
   | false =>
    have HE : Hid (keyB h C r = byteB bs) := hid (by unfold keyB keyL; rw [hpf, HV.out.1]; simp)
    clear CL CH hpf
    have hcv := row_bytes q.own
    have KY := hid ((HKY.out _ (HKG.out _ q.gr)).set (plS r) (byteB bs))
    obtain ⟨y0, y1, y2, y3⟩ := HKY.out _ (HKG.out _ q.gr)
    have hZ := ((HG.out _ q.gr).setCell (p := ⟨w.heap.size, 0, none⟩) (Nat.le_refl _) (.int .u64 ((plS r : Nat) : Int))).setCell (p := ⟨w.heap.size, 1, none⟩) (Nat.le_refl _) (.string (byteB bs))
    have HZ := hid hZ
    clear hZ
    go_wp2_with fail
    obtain ⟨d0, d1, _, _⟩ := KY.out
    refine bodyPost_ret (v := .agg #[.int .u64 ((plS r : Nat) : Int), .string (byteB bs)]) ?_ rfl ⟨by rw [HE.out]; rfl, HZ.out⟩
    simp [results, Tryz.results170, go_sem, d0, d1]
   | true =>
    have CL1 := hid (CL.out _ (HG.out _ q.gr))
    have HE : Hid (keyB h C r = byteB (bs ++ (lst (lackN (plS r) (wAllN h))).map F)) := hid (by unfold keyB keyL; rw [hpf, HV.out.1, HV.out.2]; simp)
    have HLS : Hid (∀ n ∈ lst (lackN (plS r) (wAllN h)), n < 64) := hid (fun n hn => (mem_lst.1 hn).1)
    have hll : (lst (lackN (plS r) (wAllN h))).length ≤ 64 := by
     unfold lst lstTo
     exact Nat.le_trans (List.length_filter_le _ _) (by simp)
    have hlk := HLK.out
    clear CL CH hpf HV
    go_wp2_with fail
    clear hlk
    refine CL1.out.mono ?_
    rintro e w7 ⟨vl, rfl, hvl, hb7⟩
    have q := q.below hb7
    clear CL1 hb7
    generalize lst (lackN (plS r) (wAllN h)) = ls at *
    obtain ⟨lo, lc, rfl⟩ := own_form hvl
    generalize wr.heap.size = N7 at *
    go_wp2_with fail
    go_loopw [7, 46] (fun rv iv wx => ∃ (j : Nat) (cs : List Nat), j ≤ ls.length ∧ iv = .int .i64 j ∧ cs.length ≤ 64 + j ∧ OfB w4.heap.size A rv cs F w4 wx ∧ wx.ownsRow N7 3 1 (.slice lo ls.length lc) ls.length (ls.map fun i : Nat => Value.int .i64 (i : Int)) ∧ Hid (cs = bs ++ (ls.take j).map F)) (fun _ iv _ => ls.length - (intOf iv).toNat)
    case atStart => exact ⟨0, bs, Nat.zero_le _, rfl, by omega, q, hvl, hid (by simp)⟩
    case round =>
     clear q hvl
     obtain ⟨j, cs, hj, rfl, hcl, q, hvl, HC⟩ := hrel
     obtain ⟨ro, rc, rfl⟩ := own_form q.own
     by_cases hjl : j < ls.length
     ·have hji : (j : Int) < (ls.length : Int) := by omega
      obtain ⟨ga, oa, hao, e0⟩ := ints_at (Ints.of_nats hvl) hjl
      cases hao
      have hn64 := HLS.out _ (List.getElem_mem hjl)
      have HR : Hid (cs ++ [F ls[j]] = bs ++ (ls.take (j + 1)).map F) := hid (by rw [HC.out, List.take_succ_eq_append_getElem hjl, List.map_append, List.append_assoc]; rfl)
      generalize ls[j] = n at *
      have hn64i : (n : Int) < 64 := by omega
      obtain ⟨t0, t1⟩ := q.tab n hn64
      generalize F n = x at *
      have hown := q.own
      clear HC t1
      go_wp2_with (at_builtin; refine wpList_append_own _ rfl _ _ 128 rfl w4.heap.size 5 i0 (.int .u8 0) 1 1 Tryz.underlying128 hi hz0 hz1 hz2 rfl (by decide) _ _ _ rfl (hown.alloc _) ⟨_, 0, none⟩ 1 1 [.int .u8 (x : Int)] rfl rfl ?c1 ?c2 ?c3 ?c4 ?c5 ?_)
      try case c1 => exact cell_one_new _ _ _
      case c2 => first | rfl | (intro u hu; simp at hu; subst hu; rfl)
      case c3 => unfold maxLen; omega
      case c4 => omega
      case c5 => have := q.gr.size; simp; omega
      intro v6 w6 hown6 hg6 _
      have hvl := (hvl.alloc (.cells #[.int .u8 (x : Int)] 5)).kept hg6 (owns_apart (hvl.alloc (.cells #[.int .u8 (x : Int)] 5)) (hown.alloc (.cells #[.int .u8 (x : Int)] 5)) (by decide))
      have q := q.app hA rfl (by omega) hown6 hg6
      clear hown hown6 hg6 e0 t0
      go_wp2_with fail
      go_roundw
      case rel => exact ⟨j + 1, cs ++ [x], by omega, by go_num, by simp; omega, q, hvl, HR⟩
      case measure => simp [intOf]; omega
     ·have hjn : j = ls.length := by omega
      have HE : Hid (keyB h C r = byteB cs) := hid (by rw [HE.out, HC.out, List.take_of_length_le (by omega)])
      clear HC hvl hjl
      have hcv := row_bytes q.own
      have KY := hid ((HKY.out _ (HKG.out _ q.gr)).set (plS r) (byteB cs))
      obtain ⟨y0, y1, y2, y3⟩ := HKY.out _ (HKG.out _ q.gr)
      have hZ := ((HG.out _ q.gr).setCell (p := ⟨w.heap.size, 0, none⟩) (Nat.le_refl _) (.int .u64 ((plS r : Nat) : Int))).setCell (p := ⟨w.heap.size, 1, none⟩) (Nat.le_refl _) (.string (byteB cs))
      have HZ := hid hZ
      clear hZ
      go_wp2_with fail
      obtain ⟨d0, d1, _, _⟩ := KY.out
      refine bodyPost_ret (v := .agg #[.int .u64 ((plS r : Nat) : Int), .string (byteB cs)]) ?_ rfl ⟨by rw [HE.out]; rfl, HZ.out⟩
      simp [results, Tryz.results170, go_sem, d0, d1]
end
end

section
open Go.RowKit
theorem inv_spend (x : Value) (w : World) : (invoke (.fn (.method "Spend") #[]) #[.iface 152 x]).run Tryz.prog w = .ok (.enter 320 #[x]) w := by kernel_rfl
theorem keyB_len (h : List TxnV) (C : Nat) (r : List Nat) (hr : r.length ≤ 64) : (keyB h C r).size ≤ maxLen := by
 have h1 : (keyB h C r).size = (keyL h C r).length := by unfold keyB byteB ByteArray.size; simp
 have h2 : (keyL h C r).length ≤ 128 := by
  unfold keyL
  rw [List.length_append, List.length_reverse]
  have h3 := wrOf_le (h := h) (r := r)
  have h4 : (lst (lackN (plS r) (wAllN h))).length ≤ 64 := by
   unfold lst lstTo
   exact Nat.le_trans (List.length_filter_le _ _) (by simp)
  split
  ·rw [List.length_map]; omega
  ·simp; omega
 rw [h1]; unfold maxLen; omega
theorem plS_lt (r : List Nat) : plS r < 18446744073709551616 := plS_set r
theorem has_pl {r : List Nat} (hlt : ∀ k ∈ r, k < 64) {j : Nat} (hj : j < 64) : hasB (plS r) (j : Int) = decide (j ∈ r) := by
 unfold hasB
 rw [Int.toNat_natCast, plS_bit j r hlt, show decide (0 ≤ (j : Int) ∧ (j : Int) < 64) = true by simp; omega]
 simp
section
variable {w0 w : World} {N S B b : Nat} {h : List TxnV} {C : Nat} {r : List Nat} {vb vr : Value} {aF sF : Nat → Nat}
theorem xof_any (p : PlX w0 N S B b h C r vb vr aF sF w) (hc : checkI h = 0) (hC : C < 9223372036854775808) :
  Calls Tryz.prog 170 #[.pointer (some ⟨B, 0, none⟩), .pointer (some ⟨S, 0, none⟩)] w fun e w' => e = .returned (kV (plS r) (keyB h C r)) ∧ Below w.heap.size w w' := by
 obtain ⟨W, _, _, q⟩ := p; exact mof_any q hc hC
theorem PlX.ord (p : PlX w0 N S B b h C r vb vr aF sF w) : OrdIs w B b h := by obtain ⟨W, _, _, q⟩ := p; exact q.ord
theorem PlX.tab (p : PlX w0 N S B b h C r vb vr aF sF w) : Tab w := by obtain ⟨W, _, _, q⟩ := p; exact q.tab
end
theorem srchTo_keys {h : List TxnV} {C n k : Nat} {r : List Nat} {M : List (Nat × ByteArray)} (j : Nat) : (srchTo (srch h C n k) h C r M j).2.1.length ≤ M.length + (srchTo (srch h C n k) h C r M j).2.2 := by
 induction j with
 | zero => exact Nat.le_refl _
 | succ j ih =>
  rw [srchTo_succ]
  generalize srchTo (srch h C n k) h C r M j = st at *
  unfold srchStep
  split
  ·exact ih
  ·split
   ·exact ih
   ·split
    ·have := srch_keys (h := h) (C := C) (n := n) k (j :: r) st.2.1
     show List.length (srch h C n k (j :: r) st.2.1).2.1 ≤ M.length + (st.2.2 + 1 + (srch h C n k (j :: r) st.2.1).2.2)
     omega
    ·show st.2.1.length ≤ M.length + (st.2.2 + 1); omega
theorem srch_found {h : List TxnV} {C n k : Nat} {r : List Nat} {M : List (Nat × ByteArray)} {j : Nat} {x : List Nat} (hq : (plS r, keyB h C r) ∉ M) (hj : j ≤ n) (h1 : (srchTo (srch h C n k) h C r M j).1 = some x) :
  srch h C n (k + 1) r M = srchTo (srch h C n k) h C r M j := by
 rw [srch_go hq, srchTo_found_le hj h1]
 unfold srchEnd; rw [h1]
theorem srch_cost_le {h : List TxnV} {C n k : Nat} {r : List Nat} {M : List (Nat × ByteArray)} {j : Nat} (hq : (plS r, keyB h C r) ∉ M) (hj : j ≤ n) : (srchTo (srch h C n k) h C r M j).2.2 ≤ (srch h C n (k + 1) r M).2.2 := by
 rw [srch_go hq, srchEnd_cost.1]; exact srchTo_cost hj
theorem srch_none {h : List TxnV} {C n k : Nat} {r : List Nat} {M : List (Nat × ByteArray)} (hq : (plS r, keyB h C r) ∉ M) (h1 : (srchTo (srch h C n k) h C r M n).1 = none) :
  srch h C n (k + 1) r M = (none, (plS r, keyB h C r) :: (srchTo (srch h C n k) h C r M n).2.1, (srchTo (srch h C n k) h C r M n).2.2) := by
 rw [srch_go hq]; unfold srchEnd; rw [h1]
def SeaRes (w0 : World) (N S B b : Nat) (h : List TxnV) (C X Mb T F : Nat) (vb : Value) (r : List Nat) (vr : Value) (U : Nat) (w : World) (res : Srch) (e : Ending) (w' : World) : Prop :=
 ∃ vr', SeaStep S Mb T vr vr' w w' ∧
  ((Lasts F U res.2.2 ∧ e = .returned (.tuple #[.bool res.1.isSome, .int .i64 0]) ∧ ∃ aF' sF', Sea w0 N S B b h C X Mb T F vb (res.1.getD r) vr' aF' sF' res.2.1 (U + res.2.2) w') ∨
   (¬ Lasts F U res.2.2 ∧ e = .returned (.tuple #[.bool false, .int .i64 4]) ∧ MtAt w' T F F))
section
variable {w0 : World} {N S B b : Nat} {h : List TxnV} {C X Mb T F : Nat} {vb : Value}
theorem sfurther_any (hO : OrdIs w0 B b h) (ht : Tab w0) (hc : checkI h = 0) (hC : C < 9223372036854775808) : ∀ (k : Nat) (r : List Nat) (vr : Value) (aF sF : Nat → Nat) (M : List (Nat × ByteArray)) (U : Nat) (w : World), Sea w0 N S B b h C X Mb T F vb r vr aF sF M U w → r.length + k = h.length →
  M.length + (srch h C h.length k r M).2.2 + 2 ≤ 1099511627776 → (F = 4611686018427387904 → U + (srch h C h.length k r M).2.2 ≤ 4611686018427387904) →
  Calls Tryz.prog 139 #[.pointer (some ⟨X, 0, none⟩)] w fun e w' => SeaRes w0 N S B b h C X Mb T F vb r vr U w (srch h C h.length k r M) e w'
 | 0, r, vr, aF, sF, M, U, w, q, hl, _, _ => by
  have CD := hid (xdone_any q.p)
  rw [decide_eq_true (by omega : r.length = h.length)] at CD
  have Q := hid q
  have c0 := q.x.c0
  have HF : Hid (∀ wx, Below w.heap.size w wx → SeaRes w0 N S B b h C X Mb T F vb r vr U w (srch h C h.length 0 r M) (.returned (.tuple #[.bool true, .int .i64 0])) wx) := hid (fun wx hx => by
   refine ⟨vr, SeaStep.of_below hx, .inl ⟨?_, rfl, aF, sF, Q.out.below hx⟩⟩
   by_cases e : F = 4611686018427387904
   ·exact .inl e
   ·exact .inr (Q.out.t.ue e))
  clear q hO ht hc hl
  go_enter Tryz.func139, Tryz.ntmps139
  go_wp2_with fail
  refine CD.out.mono ?_
  rintro e w1 ⟨rfl, hb⟩
  go_wp2_with fail
  go_ret2
  exact HF.out _ hb
 | k + 1, r, vr, aF, sF, M, U, w, q, hl, hM, hU => by
  have h64 := (check_zero hc).1
  have IH := hid (fun r vr aF sF M U w q hl hM hU => sfurther_any hO ht hc hC k r vr aF sF M U w q hl hM hU)
  have CD := hid (xdone_any q.p)
  rw [decide_eq_false (by omega : ¬ r.length = h.length)] at CD
  have hrl : r.length ≤ 64 := by omega
  have hlt64 : ∀ a ∈ r, a < 64 := fun a ha => by have := q.p.lt.1 a ha; omega
  have hkl := keyB_len h C r hrl
  have hpl := plS_lt r
  have Q := hid q
  have HX : Hid (∀ wx, Below w.heap.size w wx → SrAt wx X S B Mb T) := hid (fun wx hx => (Q.out.below hx).x)
  have CO := hid (fun wx (hx : Below w.heap.size w wx) => xof_any (q.p.below hx) hc hC)
  have CH := hid (fun wx (hx : Below w.heap.size w wx) => mhas_any (Q.out.below hx).m hpl hkl)
  have HN : Hid (∀ wx, Below w.heap.size w wx → wx.cell? ⟨B, 0, none⟩ = some (.int .i64 (h.length : Int))) := hid (fun wx hx => ((q.p.below hx).ord).blk.cN)
  have HH : Hid (OrdIs w0 B b h ∧ Tab w0 ∧ checkI h = 0 ∧ h.length ≤ 64 ∧ r.length + (k + 1) = h.length ∧ ∀ a ∈ r, a < 64) := hid ⟨hO, ht, hc, h64, hl, hlt64⟩
  have HB : Hid (M.length + (srch h C h.length (k + 1) r M).2.2 + 2 ≤ 1099511627776 ∧ (F = 4611686018427387904 → U + (srch h C h.length (k + 1) r M).2.2 ≤ 4611686018427387904)) := hid ⟨hM, hU⟩
  have c0 := q.x.c0
  clear q hO ht hc hl hM hU hkl hpl hlt64 hrl
  go_enter Tryz.func139, Tryz.ntmps139
  go_wp2_with fail
  refine CD.out.mono ?_
  rintro e w1 ⟨rfl, hb1⟩
  clear c0 CD
  obtain ⟨PK, hPK⟩ : ∃ PK, PK = plS r := ⟨_, rfl⟩
  obtain ⟨KK, hKK⟩ : ∃ KK, KK = keyB h C r := ⟨_, rfl⟩
  rw [← hPK, ← hKK] at CO CH
  have HPK := hid hPK
  have HKK := hid hKK
  clear hPK hKK
  go_upto_region 3 with fail
  have kd := hb1.drew
  go_cut [4] from 4 to 21 (fun u wx => ∃ g, u = .pointer (some ⟨g, 0, none⟩) ∧ KyAt wx g PK KK ∧ w.heap.size ≤ g ∧ Below w.heap.size w wx)
  case first =>
   refine wp_region_held_drew (S := Below w.heap.size w) (by kernel_rfl) kd (fun hS0 => ?_)
   refine tA (some 13) 0 rfl rfl hS0 ?_
   try simp only [Act.put, zA, zB, zC]
   refine tA (some 14) 1 rfl rfl hS0 ?_
   try simp only [Act.put, zA, zB, zC]
   refine tA (some 15) 2 rfl rfl hS0 ?_
   try simp only [Act.put, zA, zB, zC]
   refine tG (some 16) 3 ?vsa3x4 rfl rfl (Or.inl ⟨by rfl, ?hsa3x4⟩) hS0 ?rsa3x4
   case hsa3x4 => (intro w hz; obtain ⟨z0, z1, z2, z3⟩ := HX.out w hz; go_simp; try (with_reducible rfl))
   try simp only [Act.put, zA, zB, zC]
   refine tA (some 17) 4 rfl rfl hS0 ?_
   try simp only [Act.put, zA, zB, zC]
   refine tA (some 18) 5 rfl rfl hS0 ?_
   try simp only [Act.put, zA, zB, zC]
   refine tA (some 19) 6 rfl rfl hS0 ?_
   try simp only [Act.put, zA, zB, zC]
   refine tG (some 20) 7 ?vsa7x8 rfl rfl (Or.inl ⟨by rfl, ?hsa7x8⟩) hS0 ?rsa7x8
   case hsa7x8 => (intro w hz; obtain ⟨z0, z1, z2, z3⟩ := HX.out w hz; go_simp; try (with_reducible rfl))
   try simp only [Act.put, zA, zB, zC]
   refine wpAnyH_ready (rs := [8, 9]) (by kernel_rfl) (by simp) ?_
   refine AllReadyH.cons rfl (fun K hK => ?_) (AllReadyH.cons rfl (fun K hK => ?_) AllReadyH.nil)
   ·
    go_simp
    refine (CO.out _ hS0).mono ?_
    rintro e y9 ⟨rfl, hy9⟩
    show K _ _
    have s9 := below_then hS0 hy9
    unfold kV
    refine hK.out _ _ s9 (fun _ => ?_)
    clear hK K
    refine rD 9 rfl (fun K hK => ?_)
    go_simp
    have l10 := s9.size
    have z10 := KyAt.made y9
    have s10 := s9.alloc s9.size (.cells #[.int .u64 0, .string ⟨#[]⟩] 246)
    refine hK.out _ _ s10 (fun _ => ?_)
    clear hK K
    generalize y9.heap.size = g at *
    generalize (y9.alloc (.cells #[.int .u64 0, .string ⟨#[]⟩] 246)) = x10 at *
    refine rD 10 rfl (fun K hK => ?_)
    obtain ⟨k0, k1, k2, k3⟩ := z10
    go_simp
    have s11 := (s10.setCell (p := ⟨g, 0, none⟩) l10 (.int .u64 (PK : Int))).setCell (p := ⟨g, 1, none⟩) l10 (.string KK)
    have z11 := KyAt.set ⟨k0, k1, k2, k3⟩ PK KK
    refine hK.out _ _ s11 (fun _ => ?_)
    clear hK K
    refine wpAnyH_done (by kernel_rfl) ?_ _
    go_wp2_with fail
    go_meet
    exact ⟨g, rfl, z11, l10, s11⟩
   ·
    go_simp
    have l12 := hb1.size
    have z12 : KyAt (w1.alloc (.cells #[.int .u64 0, .string ⟨#[]⟩] 246)).drew w1.heap.size 0 ⟨#[]⟩ := (KyAt.made w1).block rfl
    have s12 := (hb1.alloc hb1.size (.cells #[.int .u64 0, .string ⟨#[]⟩] 246)).drew
    refine hK.out _ _ s12 (fun _ => ?_)
    clear hK K
    generalize w1.heap.size = g at *
    generalize (w1.alloc (.cells #[.int .u64 0, .string ⟨#[]⟩] 246)).drew = x12 at *
    refine rD 8 rfl (fun K hK => ?_)
    go_simp
    refine (CO.out _ s12).mono ?_
    rintro e y13 ⟨rfl, hy13⟩
    show K _ _
    have s13 := below_then s12 hy13
    have z13 := z12.below hy13
    unfold kV
    refine hK.out _ _ s13 (fun _ => ?_)
    clear hK K
    refine rD 10 rfl (fun K hK => ?_)
    obtain ⟨k0, k1, k2, k3⟩ := z13
    go_simp
    have s14 := (s13.setCell (p := ⟨g, 0, none⟩) l12 (.int .u64 (PK : Int))).setCell (p := ⟨g, 1, none⟩) l12 (.string KK)
    have z14 := KyAt.set ⟨k0, k1, k2, k3⟩ PK KK
    refine hK.out _ _ s14 (fun _ => ?_)
    clear hK K
    refine wpAnyH_done (by kernel_rfl) ?_ _
    go_wp2_with fail
    go_meet
    exact ⟨g, rfl, z14, l12, s14⟩
  case rest =>
   obtain ⟨g, rfl, hK0, hgl, hb⟩ := hcut
   clear hb1 kd CO
   generalize wc = w2 at *
   have Q2 := hid (Q.out.below hb)
   have HW2 := hid hb
   have CH1 := hid (fun wx (hx : Below w2.heap.size w2 wx) => CH.out wx (below_then hb hx))
   have HX2 := hid (fun wx (hx : Below w2.heap.size w2 wx) => And.intro (HX.out wx (below_then hb hx)) (hK0.below hx))
   have HN2 := hid (fun wx (hx : Below w2.heap.size w2 wx) => HN.out wx (below_then hb hx))
   have HGL := hid hgl
   clear CH HX HN hb hK0 hgl
   have kd := (Below.refl w2.heap.size w2).drew
   go_upto_region 4 with fail
   by_cases hq : (plS r, keyB h C r) ∈ M
   ·have hmf : memF M PK KK = true := by unfold memF; rw [HPK.out, HKK.out]; exact decide_eq_true hq
    rw [hmf] at CH1
    have HF : Hid (∀ wx, Below w2.heap.size w2 wx → SeaRes w0 N S B b h C X Mb T F vb r vr U w (srch h C h.length (k + 1) r M) (.returned (.tuple #[.bool false, .int .i64 0])) wx) := hid (fun wx hx => by
     rw [srch_in hq]
     refine ⟨vr, SeaStep.of_below (below_then HW2.out hx), .inl ⟨?_, rfl, aF, sF, Q2.out.below hx⟩⟩
     by_cases e : F = 4611686018427387904
     ·exact .inl e
     ·exact .inr (Q2.out.t.ue e))
    clear HB IH hmf HN2
    refine wp_region_held_drew (S := Below w2.heap.size w2) (by kernel_rfl) kd (fun hS0 => ?_)
    refine tA (some 22) 0 rfl rfl hS0 ?_
    try simp only [Act.put, zA, zB, zC]
    refine tA (some 23) 1 rfl rfl hS0 ?_
    try simp only [Act.put, zA, zB, zC]
    refine tA (some 24) 2 rfl rfl hS0 ?_
    try simp only [Act.put, zA, zB, zC]
    refine tG (some 25) 3 ?vsb3x4 rfl rfl (Or.inl ⟨by rfl, ?hsb3x4⟩) hS0 ?rsb3x4
    case hsb3x4 => (intro w hz; obtain ⟨⟨z0, z1, z2, z3⟩, ⟨y0, y1, y2, y3⟩⟩ := HX2.out w hz; go_simp; try (with_reducible rfl))
    try simp only [Act.put, zA, zB, zC]
    refine tG (some 26) 4 ?vsb4x5 rfl rfl (Or.inl ⟨by rfl, ?hsb4x5⟩) hS0 ?rsb4x5
    case hsb4x5 => (intro w hz; obtain ⟨⟨z0, z1, z2, z3⟩, ⟨y0, y1, y2, y3⟩⟩ := HX2.out w hz; go_simp; try (with_reducible rfl))
    try simp only [Act.put, zA, zB, zC]
    refine rD 5 rfl (fun K hK => ?_)
    go_simp
    refine (CH1.out _ hS0).mono ?_
    rintro e y6 ⟨rfl, hy6⟩
    show K _ _
    have s6 := below_then hS0 hy6
    refine hK.out _ _ s6 (fun _ => ?_)
    clear hK K
    generalize y6 = w3 at *
    have hb3 := s6
    refine wpAnyH_done (by kernel_rfl) ?_ _
    go_wp2_with fail
    go_ret2
    exact HF.out _ hb3
   have hmf : memF M PK KK = false := by unfold memF; rw [HPK.out, HKK.out]; exact decide_eq_false hq
   rw [hmf] at CH1
   clear hmf
   refine wp_region_held_drew (S := Below w2.heap.size w2) (by kernel_rfl) kd (fun hS0 => ?_)
   refine tA (some 22) 0 rfl rfl hS0 ?_
   try simp only [Act.put, zA, zB, zC]
   refine tA (some 23) 1 rfl rfl hS0 ?_
   try simp only [Act.put, zA, zB, zC]
   refine tA (some 24) 2 rfl rfl hS0 ?_
   try simp only [Act.put, zA, zB, zC]
   refine tG (some 25) 3 ?vsc3x4 rfl rfl (Or.inl ⟨by rfl, ?hsc3x4⟩) hS0 ?rsc3x4
   case hsc3x4 => (intro w hz; obtain ⟨⟨z0, z1, z2, z3⟩, ⟨y0, y1, y2, y3⟩⟩ := HX2.out w hz; go_simp; try (with_reducible rfl))
   try simp only [Act.put, zA, zB, zC]
   refine tG (some 26) 4 ?vsc4x5 rfl rfl (Or.inl ⟨by rfl, ?hsc4x5⟩) hS0 ?rsc4x5
   case hsc4x5 => (intro w hz; obtain ⟨⟨z0, z1, z2, z3⟩, ⟨y0, y1, y2, y3⟩⟩ := HX2.out w hz; go_simp; try (with_reducible rfl))
   try simp only [Act.put, zA, zB, zC]
   refine rD 5 rfl (fun K hK => ?_)
   go_simp
   refine (CH1.out _ hS0).mono ?_
   rintro e y6 ⟨rfl, hy6⟩
   show K _ _
   have s6 := below_then hS0 hy6
   refine hK.out _ _ s6 (fun _ => ?_)
   clear hK K
   generalize y6 = w3 at *
   have hb3 := s6
   refine wpAnyH_done (by kernel_rfl) ?_ _
   have Q3 := hid (Q2.out.below hb3)
   have HQN := hid hq
   have HST0 : Hid (SeaStep S Mb T vr vr w w3) := hid (SeaStep.of_below (below_then HW2.out hb3))
   have HKW : Hid (∀ vr2 wx, SeaStep S Mb T vr vr2 w3 wx → KyAt wx g PK KK) := hid (fun vr2 wx hs => by
    have hk := (HX2.out _ hb3).2
    have hg := HGL.out
    have hX := Q.out.x.lt; have hMb := Q.out.m.lt; have hT := Q.out.t.lt
    have hS := Q.out.p.lowS.2.1
    exact hk.block (hs.block g hk.lt (by omega) (by omega) (by omega) (fun e => by have := (Q.out.p.own.2 g e).2; omega)))
   have HNE : Hid (g ≠ Mb) := hid (by have hg := HGL.out; have hMb := Q.out.m.lt; omega)
   have HNW : Hid (∀ vr2 wx, SeaStep S Mb T vr vr2 w3 wx → wx.cell? ⟨B, 0, none⟩ = wx.cell? ⟨B, 0, none⟩) := hid (fun _ _ _ => rfl)
   have nB := HN2.out _ hb3
   obtain ⟨c0, c1, c2, c3⟩ := Q3.out.x
   have q3 := Q3.out
   clear HX2 CH1 kd hq HN2 HNW Q2 hb3
   go_wp2_with fail
   go_loopw [35] (fun iv wr => ∃ (j : Nat) (vr2 : Value) (aF2 sF2 : Nat → Nat), j ≤ h.length ∧ iv = .int .i64 j ∧ Hid ((srchTo (srch h C h.length k) h C r M j).1 = none ∧ Lasts F U (srchTo (srch h C h.length k) h C r M j).2.2) ∧ Hid (Sea w0 N S B b h C X Mb T F vb r vr2 aF2 sF2 (srchTo (srch h C h.length k) h C r M j).2.1 (U + (srchTo (srch h C h.length k) h C r M j).2.2) wr) ∧ Hid (SeaStep S Mb T vr vr2 w3 wr)) (fun iv _ => h.length - (intOf iv).toNat)
   case atStart =>
    refine ⟨0, vr, aF, sF, Nat.zero_le _, rfl, hid ⟨rfl, ?_⟩, hid q3, hid (SeaStep.of_below (Below.refl _ _))⟩
    by_cases e : F = 4611686018427387904
    ·exact .inl e
    ·exact .inr (q3.t.ue e)
   case round =>
    clear q3 c0 c1 c2 c3 nB
    obtain ⟨j, vr2, aF2, sF2, hj, rfl, HA, HQ, HT⟩ := hrel
    obtain ⟨c0, c1, c2, c3⟩ := HQ.out.x
    obtain ⟨hO, ht, hc, h64, hl, hlt64⟩ := HH.out
    by_cases hjn : j < h.length
    ·have hji : (j : Int) < (h.length : Int) := by omega
     have CPL := hid (xplaced_any HQ.out.p)
     have CHJ := hid (fun wx => has_any (plS r) (j : Int) wx (plS_set r))
     rw [has_pl hlt64 (show j < 64 by omega)] at CHJ
     have HSU := hid (srchTo_succ (h := h) (C := C) (srch h C h.length k) r M j)
     by_cases hjr : j ∈ r
     ·rw [decide_eq_true hjr] at CHJ
      have HS1 : Hid (srchTo (srch h C h.length k) h C r M (j + 1) = srchTo (srch h C h.length k) h C r M j) := hid (by rw [HSU.out]; exact step_in HA.out.1 hjr)
      clear hO ht hc hlt64 hjr HB IH
      go_wp2_with fail
      refine CPL.out.mono ?_
      rintro e wq ⟨rfl, rfl⟩
      go_wp2_with fail
      refine (CHJ.out _).mono ?_
      rintro e wq ⟨rfl, rfl⟩
      go_wp2_with fail
      go_roundw
      case rel => exact ⟨j + 1, vr2, aF2, sF2, by omega, by go_num, by rw [HS1.out]; exact HA, by rw [HS1.out]; exact HQ, HT⟩
      case measure => simp [intOf]; omega
     rw [decide_eq_false hjr] at CHJ
     have hinv := inv_spend (.pointer (some ⟨T, 0, none⟩))
     have HCO : Hid ((srchTo (srch h C h.length k) h C r M (j + 1)).2.2 ≤ (srch h C h.length (k + 1) r M).2.2) := hid (srch_cost_le HQN.out (by omega))
     have HKE : Hid ((srchTo (srch h C h.length k) h C r M j).2.1.length ≤ M.length + (srchTo (srch h C h.length k) h C r M j).2.2) := hid (srchTo_keys j)
     have HTW : Hid (SeaStep S Mb T vr vr2 w wr) := hid (HST0.out.trans HT.out)
     have hcs : (srchTo (srch h C h.length k) h C r M j).2.2 + 1 ≤ (srchTo (srch h C h.length k) h C r M (j + 1)).2.2 := by
      rw [HSU.out]
      cases htj : tryP h C r j with
      | false => rw [step_no HA.out.1 hjr htj]; exact Nat.le_refl _
      | true => rw [step_yes HA.out.1 hjr htj]; exact Nat.le_add_right _ _
     by_cases h0 : mleftN F (U + (srchTo (srch h C h.length k) h C r M j).2.2) = 0
     ·have CS := hid (fspend_no T F _ wr HQ.out.t h0)
      have HF : Hid (∀ wx, Below wr.heap.size wr wx → SeaRes w0 N S B b h C X Mb T F vb r vr U w (srch h C h.length (k + 1) r M) (.returned (.tuple #[.bool false, .int .i64 4])) wx) := hid (fun wx hx => by
       obtain ⟨e1, e2⟩ := left_zero h0
       have e3 := HQ.out.t.ue e1
       have hm := HQ.out.t.below hx HQ.out.t.lt
       rw [show U + (srchTo (srch h C h.length k) h C r M j).2.2 = F by omega] at hm
       have hco := HCO.out
       refine ⟨vr2, HTW.out.trans (SeaStep.of_below hx), .inr ⟨fun q => ?_, rfl, hm⟩⟩
       rcases q with q | q
       ·exact e1 q
       ·omega)
      clear hO ht hc hlt64 hjr HB IH hcs h0
      go_wp2_with fail
      refine CPL.out.mono ?_
      rintro e wq ⟨rfl, rfl⟩
      go_wp2_with fail
      refine (CHJ.out _).mono ?_
      rintro e wq ⟨rfl, rfl⟩
      go_wp2_with fail
      refine CS.out.mono ?_
      rintro e w5 ⟨rfl, hb5⟩
      go_wp2_with fail
      go_ret2
      exact HF.out _ hb5
     have CS := hid (fspend_own T F _ wr HQ.out.t h0 (by
      have hco := HCO.out
      by_cases e : F = 4611686018427387904
      ·have := HB.out.2 e; omega
      ·have h1 := HQ.out.t.le
       have h2 := HQ.out.t.ue e
       unfold mleftN at h0
       rw [if_neg e] at h0
       omega))
     have HL : Hid (Lasts F U ((srchTo (srch h C h.length k) h C r M j).2.2 + 1)) := hid (by
      by_cases e : F = 4611686018427387904
      ·exact .inl e
      ·have h2 := HQ.out.t.ue e
       unfold mleftN at h0
       rw [if_neg e] at h0
       exact .inr (by omega))
     clear h0
     have HJR := hid hjr
     have HCS := hid hcs
     have HSP := hid (fun w5 hg hm => HQ.out.spend (w' := w5) hO ht hg hm)
     have HCD := hid hc
     have HLT := hid hl
     clear hO ht hlt64 hjr hcs hc hl
     go_wp2_with fail
     refine CPL.out.mono ?_
     rintro e wq ⟨rfl, rfl⟩
     go_wp2_with fail
     refine (CHJ.out _).mono ?_
     rintro e wq ⟨rfl, rfl⟩
     go_wp2_with fail
     refine CS.out.mono ?_
     rintro e w5 ⟨rfl, hm5, hg5⟩
     have Q5 := hid (HSP.out w5 hg5 hm5)
     have HT5 := hid (HT.out.trans (SeaStep.of_meter hg5))
     clear hm5 hg5 CS CPL CHJ HSP c0 c1 c2 c3 hinv
     obtain ⟨c0, c1, c2, c3⟩ := Q5.out.x
     cases htj : tryP h C r j with
     | false =>
      have CT := hid (xtry_no Q5.out.p HCD.out hC (j : Int) (by unfold tryI; rw [Int.toNat_natCast, htj]; simp))
      have HS1 : Hid (srchTo (srch h C h.length k) h C r M (j + 1) = (none, (srchTo (srch h C h.length k) h C r M j).2.1, (srchTo (srch h C h.length k) h C r M j).2.2 + 1)) := hid (by rw [HSU.out]; exact step_no HA.out.1 HJR.out htj)
      clear htj
      go_wp2_with fail
      refine CT.out.mono ?_
      rintro e w6 ⟨rfl, hb6⟩
      have Q6 := hid (Q5.out.below hb6)
      have HT6 := hid (HT5.out.trans (SeaStep.of_below hb6))
      clear hb6
      go_wp2_with fail
      go_roundw
      case rel => exact ⟨j + 1, vr2, aF2, sF2, by omega, by go_num, by rw [HS1.out]; exact hid ⟨rfl, HL.out⟩, by rw [HS1.out]; exact Q6, HT6⟩
      case measure => simp [intOf]; omega
     | true =>
      have CT := hid (xtry_yes Q5.out.p HCD.out hC j htj)
      have HS1 := hid (HSU.out.trans (step_yes HA.out.1 HJR.out htj))
      clear htj
      go_wp2_with fail
      refine CT.out.mono ?_
      rintro e w6 ⟨rfl, vr3, aF3, sF3, p6, k6⟩
      have Q6 := hid (Q5.out.step p6 k6)
      have HT6 := hid (HT5.out.trans (SeaStep.of_step k6))
      have CI := hid (IH.out (j :: r) vr3 aF3 sF3 (srchTo (srch h C h.length k) h C r M j).2.1 (U + (srchTo (srch h C h.length k) h C r M j).2.2 + 1) w6 Q6.out (by have := HLT.out; simp only [List.length_cons]; omega)
       (by
        have h1 := HCO.out; have h2 := HKE.out; have h3 := HB.out.1
        rw [HS1.out] at h1
        simp only at h1
        omega)
       (fun e => by
        have h1 := HCO.out; have h3 := HB.out.2 e
        rw [HS1.out] at h1
        simp only at h1
        omega))
      clear p6 k6 c0 c1 c2 c3 CT
      obtain ⟨c0, c1, c2, c3⟩ := Q6.out.x
      go_wp2_with fail
      refine CI.out.mono ?_
      rintro e w7 ⟨vr4, hst4, hres⟩
      have HT7 := hid (HT6.out.trans hst4)
      clear hst4 CI c0 c1 c2 c3
      rcases hres with ⟨hla, rfl, aF4, sF4, q7⟩ | ⟨hla, rfl, hm7⟩
      ·have Q7 := hid q7
       have HL7 : Hid (Lasts F U ((srchTo (srch h C h.length k) h C r M j).2.2 + 1 + (srch h C h.length k (j :: r) (srchTo (srch h C h.length k) h C r M j).2.1).2.2)) := hid (hla.imp id (fun q => by omega))
       clear q7 hla
       obtain ⟨c0, c1, c2, c3⟩ := Q7.out.x
       cases hfd : (srch h C h.length k (j :: r) (srchTo (srch h C h.length k) h C r M j).2.1).1 with
       | some x =>
        have HF : Hid (SeaRes w0 N S B b h C X Mb T F vb r vr U w (srch h C h.length (k + 1) r M) (.returned (.tuple #[.bool true, .int .i64 0])) w7) := hid (by
         have e1 : (srchTo (srch h C h.length k) h C r M (j + 1)).1 = some x := by rw [HS1.out]; exact hfd
         rw [srch_found HQN.out (by omega) e1, HS1.out]
         have q7 := Q7.out
         rw [hfd] at q7
         refine ⟨vr4, HST0.out.trans HT7.out, .inl ⟨HL7.out, by rw [hfd]; rfl, aF4, sF4, ?_⟩⟩
         rw [hfd]
         rw [show U + (srchTo (srch h C h.length k) h C r M j).2.2 + 1 + (srch h C h.length k (j :: r) (srchTo (srch h C h.length k) h C r M j).2.1).2.2 = U + ((srchTo (srch h C h.length k) h C r M j).2.2 + 1 + (srch h C h.length k (j :: r) (srchTo (srch h C h.length k) h C r M j).2.1).2.2) by omega] at q7
         exact q7)
        clear hfd Q7
        go_wp2_with fail
        go_ret2
        exact HF.out
       | none =>
        have Q7 := Q7.out
        rw [hfd] at Q7
        have Q7 := hid Q7
        have CU := hid (xundo_cons Q7.out.p h64)
        have HS2 : Hid (srchTo (srch h C h.length k) h C r M (j + 1) = (none, (srch h C h.length k (j :: r) (srchTo (srch h C h.length k) h C r M j).2.1).2.1, (srchTo (srch h C h.length k) h C r M j).2.2 + 1 + (srch h C h.length k (j :: r) (srchTo (srch h C h.length k) h C r M j).2.1).2.2)) := hid (by rw [HS1.out, hfd])
        clear hfd
        go_wp2_with fail
        refine CU.out.mono ?_
        rintro e w8 ⟨rfl, vr5, p8, k8⟩
        have Q8 := Q7.out.step p8 k8
        rw [show U + (srchTo (srch h C h.length k) h C r M j).2.2 + 1 + (srch h C h.length k (j :: r) (srchTo (srch h C h.length k) h C r M j).2.1).2.2 = U + ((srchTo (srch h C h.length k) h C r M j).2.2 + 1 + (srch h C h.length k (j :: r) (srchTo (srch h C h.length k) h C r M j).2.1).2.2) by omega] at Q8
        have Q8 := hid Q8
        have HT8 := hid (HT7.out.trans (SeaStep.of_step k8))
        clear p8 k8
        go_wp2_with fail
        go_roundw
        case rel => exact ⟨j + 1, vr5, aF4, sF4, by omega, by go_num, by rw [HS2.out]; exact hid ⟨rfl, HL7.out⟩, by rw [HS2.out]; exact Q8, HT8⟩
        case measure => simp [intOf]; omega
      ·have HF : Hid (SeaRes w0 N S B b h C X Mb T F vb r vr U w (srch h C h.length (k + 1) r M) (.returned (.tuple #[.bool false, .int .i64 4])) w7) := hid (by
        refine ⟨vr4, HST0.out.trans HT7.out, .inr ⟨fun q => hla (q.imp id fun q => ?_), rfl, hm7⟩⟩
        have h1 := HCO.out
        rw [HS1.out] at h1
        simp only at h1
        omega)
       clear hla hm7
       go_wp2_with fail
       go_ret2
       exact HF.out
    ·have hjn : j = h.length := by omega
     subst hjn
     have HK9 := hid (HKW.out _ _ HT.out)
     have hS9 : SrAt wr.drew X S B Mb T ∧ KyAt wr.drew g PK KK := ⟨HQ.out.x.block rfl, HK9.out.block rfl⟩
     have hpl := plS_lt r
     rw [← HPK.out] at hpl
     have hkl := keyB_len h C r (by omega)
     rw [← HKK.out] at hkl
     have qd := HQ.out.below (w' := wr.drew) ((Below.refl wr.heap.size wr).drew)
     have HTD : Hid (SeaStep S Mb T vr vr2 w wr.drew) := hid ((HST0.out.trans HT.out).trans (SeaStep.of_below ((Below.refl wr.heap.size wr).drew)))
     have HSN := hid (srch_none HQN.out HA.out.1)
     rw [← HPK.out, ← HKK.out] at HSN
     cases hmf : memF (srchTo (srch h C h.length k) h C r M h.length).2.1 PK KK with
     | true =>
      have CA := hid (madd_no qd.m hpl hkl hmf)
      have HSB : Hid (∀ wx, Below wr.drew.heap.size wr.drew wx → SrAt wx X S B Mb T ∧ KyAt wx g PK KK) := hid (fun wx hx => ⟨hS9.1.block (hx.block X hS9.1.lt), hS9.2.below hx⟩)
      have HF : Hid (∀ wx, Below wr.drew.heap.size wr.drew wx → SeaRes w0 N S B b h C X Mb T F vb r vr U w (srch h C h.length (k + 1) r M) (.returned (.tuple #[.bool false, .int .i64 0])) wx) := hid (fun wx hx => by
       rw [HSN.out]
       have q9 := qd.below hx
       have e : memF (srchTo (srch h C h.length k) h C r M h.length).2.1 = memF ((PK, KK) :: (srchTo (srch h C h.length k) h C r M h.length).2.1) := by
        rw [← memF_cons]
        funext q u
        by_cases e : q = PK ∧ u = KK
        ·obtain ⟨rfl, rfl⟩ := e; rw [hmf]; simp
        ·rw [decide_eq_false e, Bool.false_or]
       have hm := q9.m
       rw [e] at hm
       exact ⟨vr2, HTD.out.trans (SeaStep.of_below hx), .inl ⟨HA.out.2, rfl, aF2, sF2, q9.p, q9.x, hm.mono (by simp), q9.t, q9.ap, q9.ne, q9.lo⟩⟩)
      clear HB IH hmf hpl hkl qd HTD HSN HA hO ht hc hlt64 hl
      go_upto_region 18 with fail
      refine wp_region_held_drew (S := (fun wx => SrAt wx X S B Mb T ∧ KyAt wx g PK KK)) (by kernel_rfl) hS9 (fun hS0 => ?_)
      refine tA (some 76) 0 rfl rfl hS0 ?_
      try simp only [Act.put, zA, zB, zC]
      refine tA (some 77) 1 rfl rfl hS0 ?_
      try simp only [Act.put, zA, zB, zC]
      refine tA (some 78) 2 rfl rfl hS0 ?_
      try simp only [Act.put, zA, zB, zC]
      refine tG (some 79) 3 ?vsd3x4 rfl rfl (Or.inl ⟨by rfl, ?hsd3x4⟩) hS0 ?rsd3x4
      case hsd3x4 => (intro w hz; obtain ⟨⟨z0, z1, z2, z3⟩, ⟨y0, y1, y2, y3⟩⟩ := hz; go_simp; try (with_reducible rfl))
      try simp only [Act.put, zA, zB, zC]
      refine tG (some 80) 4 ?vsd4x5 rfl rfl (Or.inl ⟨by rfl, ?hsd4x5⟩) hS0 ?rsd4x5
      case hsd4x5 => (intro w hz; obtain ⟨⟨z0, z1, z2, z3⟩, ⟨y0, y1, y2, y3⟩⟩ := hz; go_simp; try (with_reducible rfl))
      try simp only [Act.put, zA, zB, zC]
      refine rD 5 rfl (fun K hK => ?_)
      go_simp
      refine (CA.out).mono ?_
      rintro e w9 ⟨rfl, hb9⟩
      show K _ _
      refine hK.out _ _ (HSB.out _ hb9) (fun _ => ?_)
      clear hK K
      refine wpAnyH_done (by kernel_rfl) ?_ _
      go_wp2_with fail
      go_ret2
      exact HF.out _ hb9
     | false =>
      have CA := hid (madd_yes qd.m (by have h1 := HB.out.1; rw [HSN.out] at h1; have h2 := srchTo_keys (h := h) (C := C) (n := h.length) (k := k) (r := r) (M := M) h.length; simp only at h1; unfold maxLen; omega) hpl hkl hmf)
      have HSG : Hid (∀ wx, wr.drew.grownBy wx (some Mb) → SrAt wx X S B Mb T ∧ KyAt wx g PK KK) := hid (fun wx hx => ⟨hS9.1.block (hx.block X hS9.1.lt (fun e => qd.ne.1 (by injection e))), hS9.2.block (hx.block g hS9.2.lt (fun e => HNE.out (by injection e)))⟩)
      have HF : Hid (∀ wx, MemM wx Mb ((srchTo (srch h C h.length k) h C r M h.length).2.1.length + 1) (fun q u => decide (q = PK ∧ u = KK) || memF (srchTo (srch h C h.length k) h C r M h.length).2.1 q u) → wr.drew.grownBy wx (some Mb) → SeaRes w0 N S B b h C X Mb T F vb r vr U w (srch h C h.length (k + 1) r M) (.returned (.tuple #[.bool false, .int .i64 0])) wx) := hid (fun wx hm hg => by
       rw [HSN.out]
       rw [memF_cons] at hm
       exact ⟨vr2, HTD.out.trans (SeaStep.of_memo hg), .inl ⟨HA.out.2, rfl, aF2, sF2, qd.add hO ht hg hm⟩⟩)
      clear HB IH hmf hpl hkl qd HTD HSN HA hO ht hc hlt64 hl
      go_upto_region 18 with fail
      refine wp_region_held_drew (S := (fun wx => SrAt wx X S B Mb T ∧ KyAt wx g PK KK)) (by kernel_rfl) hS9 (fun hS0 => ?_)
      refine tA (some 76) 0 rfl rfl hS0 ?_
      try simp only [Act.put, zA, zB, zC]
      refine tA (some 77) 1 rfl rfl hS0 ?_
      try simp only [Act.put, zA, zB, zC]
      refine tA (some 78) 2 rfl rfl hS0 ?_
      try simp only [Act.put, zA, zB, zC]
      refine tG (some 79) 3 ?vse3x4 rfl rfl (Or.inl ⟨by rfl, ?hse3x4⟩) hS0 ?rse3x4
      case hse3x4 => (intro w hz; obtain ⟨⟨z0, z1, z2, z3⟩, ⟨y0, y1, y2, y3⟩⟩ := hz; go_simp; try (with_reducible rfl))
      try simp only [Act.put, zA, zB, zC]
      refine tG (some 80) 4 ?vse4x5 rfl rfl (Or.inl ⟨by rfl, ?hse4x5⟩) hS0 ?rse4x5
      case hse4x5 => (intro w hz; obtain ⟨⟨z0, z1, z2, z3⟩, ⟨y0, y1, y2, y3⟩⟩ := hz; go_simp; try (with_reducible rfl))
      try simp only [Act.put, zA, zB, zC]
      refine rD 5 rfl (fun K hK => ?_)
      go_simp
      refine (CA.out).mono ?_
      rintro e w9 ⟨rfl, hm9, hg9⟩
      show K _ _
      refine hK.out _ _ (HSG.out _ hg9) (fun _ => ?_)
      clear hK K
      refine wpAnyH_done (by kernel_rfl) ?_ _
      go_wp2_with fail
      go_ret2
      exact HF.out _ hm9 hg9
end
end

section
open Go.RowKit
def Lists (w : World) (v : Value) (LL : List (List Int)) : Prop := ∃ sv : List Value, Row w v LL.length 1 sv ∧ ∀ (k : Nat) (hk : k < LL.length), ∃ u, sv[k]? = some u ∧ Ints w u LL[k]
end

section
open Go.RowKit
theorem nilIn (w : World) : Sem.run Tryz.prog (binOp .eql 24 (.slice none 0 0) (.slice none 0 0)) w = .ok (.bool true) w := by kernel_rfl
theorem someIn (w : World) (a : Addr) (n c : Nat) : Sem.run Tryz.prog (binOp .eql 24 (.slice (some a) n c) (.slice none 0 0)) w = .ok (.bool false) w := by kernel_rfl
theorem clone_ints (va : Value) (l : List Int) (w : World) (ha : Ints w va l) (hl : l.length ≤ 100000) :
  Calls Tryz.prog 234 #[va] w fun e w' => ∃ v, e = .returned v ∧ w'.ownsRow w.heap.size 3 1 v l.length (l.map (Value.int .i64)) ∧ Below w.heap.size w w' := by
 obtain ⟨i0, hi, hz0, hz1, hz2⟩ := info_parts infoInt
 obtain ⟨ao, cap, rfl, hal⟩ := ha.form
 cases ao with
 | none =>
  have h0 : l = [] := by
   obtain ⟨_, ao', cap', e, _, hno, _⟩ := ha
   cases e
   exact List.eq_nil_of_length_eq_zero (hno rfl).1
  subst h0
  have hc0 : cap = 0 := by
   obtain ⟨_, ao', cap', e, _, hno, _⟩ := ha
   cases e
   exact (hno rfl).2
  subst hc0
  have e1 := nilIn
  have e2 := fun w a n c => someIn w a n c
  go_enter Tryz.func234, Tryz.ntmps234
  go_wp2_with fail
  go_ret
  exact ⟨_, rfl, World.ownsRow_nil _ _ _ _, Below.refl _ _⟩
 | some ad =>
  have e1 := nilIn
  have e2 := fun w a n c => someIn w a n c
  go_enter Tryz.func234, Tryz.ntmps234
  go_wp2_with (first | (at_builtin; refine wpList_append_row rfl _ _ 24 rfl w.heap.size 3 i0 (.int .i64 0) 1 8 Tryz.underlying24 hi hz0 hz1 hz2 rfl (by decide) _ 0 [] rfl (World.ownsRow_lit _ _ _ (Nat.le_refl _) (by decide) rfl) _ l.length _ rfl (ha.below ((Below.refl _ _).alloc (Nat.le_refl _) _)) ?d1 ?d2 ?d3 ?d4 ?_) | go_in)
  case d1 => intro u hu; obtain ⟨x, _, rfl⟩ := List.mem_map.1 hu; rfl
  case d2 => unfold maxLen; omega
  case d3 => omega
  case d4 => first | omega | simp
  intro v5 w5 hown5 hg5
  have hO5 : w5.ownsRow w.heap.size 3 1 v5 l.length (l.map (Value.int .i64)) := by simpa using hown5
  have hb5 := ((Below.refl w.heap.size w).alloc (Nat.le_refl _) (.cells #[] 3)).grown hg5 (by simp) (by intro k hk; simp [Value.ownBlock] at hk; omega)
  clear hown5 hg5
  go_wp2_with fail
  go_ret
  exact ⟨_, rfl, hO5, hb5⟩
theorem infoIntsL : (Tryz.prog.info? 24).map (fun i => (i.zero, i.size, i.bytes)) = some (some (.slice none 0 0), 1, 24) := by kernel_rfl
def seesL (V : Mat) (n : Nat) : List (List Int) := (List.range n).map fun (i : Nat) => (lst (seeTo V (i : Int) 64)).map Int.ofNat
theorem seesL_succ (V : Mat) (n : Nat) : seesL V (n + 1) = seesL V n ++ [(lst (seeTo V (n : Int) 64)).map Int.ofNat] := by
 unfold seesL; rw [List.range_succ, List.map_append]; rfl
structure OwnK (b : Nat) (w : World) (v : Value) (K : List KRow) : Prop where
 kr : w.ownsRow b 24 1 v K.length (K.map (·.1))
 ke : ∀ p ∈ K, w.ownsRow b 3 1 p.1 p.2.length (p.2.map (Value.int .i64))
theorem OwnK.nil (b : Nat) (w : World) : OwnK b w (.slice none 0 0) [] := ⟨World.ownsRow_nil _ _ _ _, fun p hp => (by cases hp)⟩
theorem OwnK.below {b : Nat} {w w' : World} {v : Value} {K : List KRow} (h : OwnK b w v K) (hb : Below w.heap.size w w') : OwnK b w' v K := ⟨owns_below h.kr hb, fun p hp => owns_below (h.ke p hp) hb⟩
theorem OwnK.add {b : Nat} {w w2 : World} {o : Obj} {v v' u : Value} {K : List KRow} {l : List Int} (h : OwnK b w v K) (hv : w.ownsRow b 3 1 u l.length (l.map (Value.int .i64))) (hown : w2.ownsRow b 24 1 v' (K.length + 1) (K.map (·.1) ++ [u]))
  (hg : (w.alloc o).grownBy w2 v.ownBlock) : OwnK b w2 v' (K ++ [(u, l)]) := by
 refine ⟨by simpa using hown, fun p hp => ?_⟩
 rcases List.mem_append.1 hp with hp | hp
 ·exact ((h.ke p hp).alloc o).kept hg (owns_apart (h.ke p hp) h.kr (by decide))
 ·obtain rfl := List.mem_singleton.1 hp
  exact (hv.alloc o).kept hg (owns_apart hv h.kr (by decide))
theorem OwnK.lists {b : Nat} {w : World} {v : Value} {K : List KRow} (h : OwnK b w v K) : Lists w v (K.map (·.2)) := by
 refine ⟨K.map (·.1), by have := Row.of_owns h.kr; rwa [List.length_map], fun k hk => ?_⟩
 rw [List.length_map] at hk
 refine ⟨K[k].1, by rw [List.getElem?_map, List.getElem?_eq_getElem hk]; rfl, ?_⟩
 rw [List.getElem_map]
 exact Ints.of_owns (h.ke _ (List.getElem_mem hk))
theorem own_far {w : World} {b e size n p : Nat} {v : Value} {xs : List Value} {cs : Array Value} {t : TypeId} {fr : Nat × Nat} (h : w.ownsRow b e size v n xs) (hp : w.heap[p]? = some (.cells cs t fr)) (hne : e ≠ t) : some p ≠ v.ownBlock := by
 obtain ⟨_, h⟩ := h
 rcases h with ⟨rfl, _⟩ | ⟨g, c, cur, rfl, _, hh, _⟩
 ·simp [Value.ownBlock]
 ·intro e2
  simp [Value.ownBlock] at e2
  subst e2
  rw [hp] at hh
  injection hh with hh
  injection hh with h1 h2 h3
  exact hne h2.symm
structure WI (b p5 : Nat) (V : Mat) (vo : Value) (l : List Int) (vs : Value) (K : List KRow) (w0 w : World) : Prop where
 rel : RelAt w b 108 V
 res : At w (b + 1) (.cells #[.slice none 0 0, .slice none 0 0] 41)
 box : At w p5 (.cells #[vo, vs] 41)
 own : OwnK b w vs K
 ord : w.ownsRow b 3 1 vo l.length (l.map (Value.int .i64))
 bel : Below b w0 w
theorem grown_setW (w : World) (a : Addr) (u : Value) : w.grownBy (w.setCell a u) (some a.block) :=
 ⟨rfl, rfl, rfl, by simp, fun k _ hk => Below.heap_setCell w a u k (fun e => hk (by rw [e]))⟩
theorem lit_newS (w : World) (x : Value) (t : TypeId) : ∀ j u, [x][j]? = some u → (w.alloc (.cells #[x] t)).cell? ((⟨w.heap.size, 0, none⟩ : Addr).add j) = some u := fun j u hu => by
 match j, hu with
 | 0, hu =>
  simp at hu; subst hu
  rw [Addr.add_lit, Nat.add_zero, cell_of_row _ _ _ _ _ _ (heap_alloc_new w _)]; rfl
 | j + 1, hu => simp at hu
theorem own_none {w : World} {b e size n p : Nat} {v : Value} {xs : List Value} {cs : Array Value} {t : TypeId} {fr : Nat × Nat} (h : w.ownsRow b e size v n xs) (hp : w.heap[p]? = some (.cells cs t fr)) (hne : e ≠ t) : v.ownBlock = none ∨ v.ownBlock ≠ some p := .inr (fun e2 => own_far h hp hne e2.symm)
theorem WI.below {b p5 : Nat} {V : Mat} {vo : Value} {l : List Int} {vs : Value} {K : List KRow} {w0 w w' : World} (h : WI b p5 V vo l vs K w0 w) (hb : Below w.heap.size w w') : WI b p5 V vo l vs K w0 w' :=
 ⟨h.rel.below hb h.rel.lt, h.res.below hb, h.box.below hb, h.own.below hb, owns_below h.ord hb, h.bel.trans (hb.mono (Nat.le_of_lt h.rel.lt))⟩
theorem WI.add {b p5 : Nat} {V : Mat} {vo : Value} {l : List Int} {vs v' u : Value} {K : List KRow} {s : List Int} {w0 W w5 : World} {o : Obj} (hp : b + 2 ≤ p5) (h : WI b p5 V vo l vs K w0 W) (hv : W.ownsRow b 3 1 u s.length (s.map (Value.int .i64)))
  (hown : w5.ownsRow b 24 1 v' (K.length + 1) (K.map (·.1) ++ [u])) (hg : (W.alloc o).grownBy w5 vs.ownBlock) :
  RelAt w5 b 108 V ∧ w5.cell? ⟨p5, 1, none⟩ = some vs ∧ w5.frozen? ⟨p5, 1, none⟩ = false ∧ RelAt (w5.setCell ⟨p5, 1, none⟩ v') b 108 V ∧ WI b p5 V vo l v' (K ++ [(u, s)]) w0 (w5.setCell ⟨p5, 1, none⟩ v') := by
 have kr := h.own.kr.alloc o
 have r1 : At w5 b (.cells (rowsA V) 108) := At.grown (h.rel.alloc o) hg (own_far kr (h.rel.alloc o) (by decide))
 have r2 := At.grown (h.res.alloc o) hg (own_far kr (h.res.alloc o) (by decide))
 have r3 := At.grown (h.box.alloc o) hg (own_far kr (h.box.alloc o) (by decide))
 have r4 := h.own.add hv hown hg
 have r5 := (h.ord.alloc o).kept hg (owns_apart h.ord h.own.kr (by decide))
 have d5 := (h.bel.alloc (Nat.le_of_lt h.rel.lt) o).grown hg (by have := h.rel.lt; simp; omega) (fun k hk => (kr.lt k hk).1)
 have gs := grown_setW w5 ⟨p5, 1, none⟩ v'
 have hc : w5.cell? ⟨p5, 1, none⟩ = some vs := by unfold At at r3; simp [World.cell?, r3]
 have q1 := At.grown r1 gs (by simp; omega)
 refine ⟨r1, hc, frozen_of_row w5 p5 1 _ _ r3, q1, q1, At.grown r2 gs (by simp; omega), ?_, ⟨r4.kr.kept gs (own_none r4.kr r3 (by decide)), fun p hp => (r4.ke p hp).kept gs (own_none (r4.ke p hp) r3 (by decide))⟩, r5.kept gs (own_none r5 r3 (by decide)), d5.setCell (p := ⟨p5, 1, none⟩) (by show b ≤ p5; omega) v'⟩
 unfold At at r3 ⊢
 simp [World.setCell, Array.getElem?_modify, r3]
theorem At.second {w : World} {p : Nat} {x y : Value} {t : TypeId} (h : At w p (.cells #[x, y] t)) (z : Value) : At (w.setCell ⟨p, 1, none⟩ z) p (.cells #[x, z] t) := by
 unfold At at h ⊢
 simp [World.setCell, Array.getElem?_modify, h]
theorem WI.done {b p5 : Nat} {V : Mat} {vo : Value} {l : List Int} {vs : Value} {K : List KRow} {w0 w : World} (h : WI b p5 V vo l vs K w0 w) :
  At ((w.setCell ⟨b + 1, 0, none⟩ vo).setCell ⟨b + 1, 1, none⟩ vs) (b + 1) (.cells #[vo, vs] 41) ∧ ((w.setCell ⟨b + 1, 0, none⟩ vo).setCell ⟨b + 1, 1, none⟩ vs).ownsRow b 3 1 vo l.length (l.map (Value.int .i64)) ∧ OwnK b ((w.setCell ⟨b + 1, 0, none⟩ vo).setCell ⟨b + 1, 1, none⟩ vs) vs K ∧ Below b w0 ((w.setCell ⟨b + 1, 0, none⟩ vo).setCell ⟨b + 1, 1, none⟩ vs) := by
 have g1 := grown_setW w ⟨b + 1, 0, none⟩ vo
 have a1 : At (w.setCell ⟨b + 1, 0, none⟩ vo) (b + 1) (.cells #[vo, .slice none 0 0] 41) := by
  have := h.res
  unfold At at this ⊢
  simp [World.setCell, Array.getElem?_modify, this]
 have g2 := grown_setW (w.setCell ⟨b + 1, 0, none⟩ vo) ⟨b + 1, 1, none⟩ vs
 have o1 := h.ord.kept g1 (own_none h.ord h.res (by decide))
 have o2 := o1.kept g2 (own_none o1 a1 (by decide))
 have k1 := h.own.kr.kept g1 (own_none h.own.kr h.res (by decide))
 have k2 := k1.kept g2 (own_none k1 a1 (by decide))
 have hk : OwnK b ((w.setCell ⟨b + 1, 0, none⟩ vo).setCell ⟨b + 1, 1, none⟩ vs) vs K := ⟨k2, fun p hp => by
  have q1 := (h.own.ke p hp).kept g1 (own_none (h.own.ke p hp) h.res (by decide))
  exact q1.kept g2 (own_none q1 a1 (by decide))⟩
 refine ⟨?_, o2, hk, (h.bel.setCell (p := ⟨b + 1, 0, none⟩) (by show b ≤ b + 1; omega) vo).setCell (p := ⟨b + 1, 1, none⟩) (by show b ≤ b + 1; omega) vs⟩
 exact a1.second vs
theorem awitness_own (va : Value) (l : List Int) (V : Mat) (w : World) (ht : Tab w) (hI : Ints w va l) (hl : l.length ≤ 64) :
  Calls Tryz.prog 178 #[va, .agg (rowsA V)] w fun e w' => (∃ vo vs K, e = .returned (.agg #[vo, vs]) ∧ w'.ownsRow w.heap.size 3 1 vo l.length (l.map (Value.int .i64)) ∧ OwnK w.heap.size w' vs K ∧ K.map (fun p : KRow => p.2) = seesL V l.length) ∧ Below w.heap.size w w' := by
 have hg := ht.pos
 obtain ⟨i0, hi, hz0, hz1, hz2⟩ := info_parts infoIntsL
 have HT : Hid (∀ wx, Below w.heap.size w wx → Tab wx) := hid (fun wx hb => ht.below hb hg)
 have HI := hid (fun wx (hx : Below w.heap.size w wx) => hI.below hx)
 obtain ⟨ao, cap, rfl, hal⟩ := hI.form
 have r0 : RelAt (w.alloc (.cells (rowsA V) 108)) w.heap.size 108 V := RelAt.made w _ _ rfl rfl
 have hb0 := box_below w (.cells (rowsA V) 108)
 clear ht hI
 go_enter Tryz.func178, Tryz.ntmps178
 go_upto_region 1 with fail
 generalize hw0 : w.alloc (.cells (rowsA V) 108) = w0 at *
 have hs0 : w0.heap.size = w.heap.size + 1 := by rw [← hw0]; simp
 clear hw0
 have a4 := At.new w0 (.cells #[.slice none 0 0, .slice none 0 0] 41)
 rw [hs0] at a4
 have r0 := r0.alloc (.cells #[.slice none 0 0, .slice none 0 0] 41)
 have hb1 := hb0.alloc (by omega) (.cells #[.slice none 0 0, .slice none 0 0] 41)
 have hs1 : (w0.alloc (.cells #[.slice none 0 0, .slice none 0 0] 41)).heap.size = w.heap.size + 2 := by simp [hs0]
 generalize w0.alloc (.cells #[.slice none 0 0, .slice none 0 0] 41) = w1 at *
 have CC := hid (clone_ints _ l w1 (HI.out _ hb1) (by omega))
 clear hb0 hs0
 go_wp2_with fail
 refine (CC.out).mono ?_
 rintro e w2 ⟨vo, rfl, hO2, h2⟩
 have r2 := r0.below h2 r0.lt
 have a4 := a4.below h2
 have hb2 := below_then hb1 h2
 have hp5 : w.heap.size + 2 ≤ w2.heap.size := by have := h2.size; omega
 obtain ⟨oo, oc, rfl⟩ := owns_form hO2
 go_upto_region 2 with fail
 have hWI : WI w.heap.size w2.heap.size V (.slice oo l.length oc) l (.slice none 0 0) [] w (w2.alloc (.cells #[.slice oo l.length oc, .slice none 0 0] 41)) :=
  ⟨r2.alloc _, a4.alloc _, At.new w2 _, OwnK.nil _ _, own_base' (hO2.alloc _) (by omega), hb2.alloc hb2.size _⟩
 generalize w2.alloc (.cells #[.slice oo l.length oc, .slice none 0 0] 41) = w3 at *
 generalize w2.heap.size = p5 at *
 clear r0 r2 a4 hb1 hb2 hO2 h2 hs1 CC
 go_wp2_with fail
 go_loopw [12] (fun iv wr => ∃ (k : Nat) (vs : Value) (K : List KRow), k ≤ l.length ∧ iv = .int .i64 k ∧ K.map (fun p : KRow => p.2) = seesL V k ∧ WI w.heap.size p5 V (.slice oo l.length oc) l vs K w wr) (fun iv _ => l.length - (intOf iv).toNat)
 case atStart => exact ⟨0, .slice none 0 0, [], by omega, rfl, rfl, hWI⟩
 case round =>
  clear hWI
  obtain ⟨k, vs, K, hk, rfl, hK, hW⟩ := hrel
  by_cases hlt : k < l.length
  ·have hki : (k : Int) < (l.length : Int) := by omega
   have hKl : K.length = k := by have := congrArg List.length hK; simpa [seesL] using this
   obtain ⟨vsa, vsc, rfl⟩ := owns_form hW.own.kr
   have HNX : Hid (∀ u, (K ++ [(u, (lst (seeTo V (k : Int) 64)).map Int.ofNat)]).map (fun p : KRow => p.2) = seesL V (k + 1)) := hid (fun u => by rw [List.map_append, hK, seesL_succ]; rfl)
   have CS := hid (fun wx => asees_any V (k : Int) wx)
   have CL : Hid (∀ wx, Below wr.heap.size wr wx → Calls Tryz.prog 229 #[.int .u64 ((seeTo V (k : Int) 64 : Nat) : Int)] wx fun e w' => ∃ v, e = .returned v ∧ w'.ownsRow w.heap.size 3 1 v ((lst (seeTo V (k : Int) 64)).map Int.ofNat).length (((lst (seeTo V (k : Int) 64)).map Int.ofNat).map (Value.int .i64)) ∧ Below wx.heap.size wx w') := hid (fun wx hx => (list_any (seeTo V (k : Int) 64) wx (seeTo_set V _ 64) (HT.out _ (hW.bel.trans (hx.mono (Nat.le_of_lt hW.rel.lt))))).mono (by
    rintro e w' ⟨v, he, ho, hb⟩
    refine ⟨v, he, own_base' ?_ (show w.heap.size ≤ wx.heap.size by have h1 := hx.size; have h2 := hW.rel.lt; omega), hb⟩
    rw [List.length_map, List.map_map]
    exact ho))
   have HW := hid (fun wx (hx : Below wr.heap.size wr wx) => hW.below hx)
   have HSR : Hid (∀ wx, Below wr.heap.size wr wx → RelAt wx w.heap.size 108 V) := hid (fun wx hx => (hW.below hx).rel)
   have HCL : Hid (∀ wx, Below wr.heap.size wr wx → wx.cell? ⟨p5, 1, none⟩ = some (.slice vsa K.length vsc)) := hid (fun wx hx => by have r3 := (hW.below hx).box; unfold At at r3; simp [World.cell?, r3])
   have HSZ : Hid (∀ wx (o : Obj), Below wr.heap.size wr wx → w.heap.size ≤ (wx.alloc o).heap.size) := hid (fun wx o hx => by have h1 := hx.size; have h2 := hW.rel.lt; simp; omega)
   have n3 : Hid (K.length + 1 ≤ maxLen) := hid (by unfold maxLen; omega)
   have n4 : Hid ((K.length + 1) * 24 ≤ 140737488355328) := hid (by omega)
   generalize hLs : (lst (seeTo V (k : Int) 64)).map Int.ofNat = ls at *
   clear hLs
   have kd := (Below.refl wr.heap.size wr).drew
   clear hW hK hKl
   go_upto_region 5 with fail
   refine wp_region_held_drew (S := fun wx => RelAt wx w.heap.size 108 V) (by kernel_rfl) (HSR.out _ kd) (fun hS0 => ?_)
   refine tA (some 15) 0 rfl rfl hS0 ?_
   try simp only [Act.put, zA, zB, zC]
   refine tA (some 18) 3 rfl rfl hS0 ?_
   try simp only [Act.put, zA, zB, zC]
   refine tG (some 17) 2 _ rfl rfl (yields_rel (by rfl) _ rfl rfl (fun w hw => hw)) hS0 ?_
   try simp only [Act.put, zA, zB, zC]
   generalize wr.drew = wd at *
   refine wpAnyH_ready (rs := [1, 4]) (by kernel_rfl) (by simp) ?_
   refine AllReadyH.cons rfl (fun K' hK' => ?_) (AllReadyH.cons rfl (fun K' hK' => ?_) AllReadyH.nil)
   ·
    have hc1 := HCL.out _ kd
    go_simp
    refine hK'.out _ _ hS0 (fun _ => ?_)
    clear hK' K' hc1
    refine wpAnyH_ready (rs := [4]) (by kernel_rfl) (by simp) ?_
    refine AllReadyH.cons rfl (fun K' hK' => ?_) AllReadyH.nil
    go_simp
    refine (CS.out _).mono ?_
    rintro e q2 ⟨rfl, j2⟩
    show K' _ _
    have k2 := below_then kd j2
    have s2 := HSR.out _ k2
    refine hK'.out _ _ s2 (fun _ => ?_)
    clear hK' K'
    refine wpAnyH_ready (rs := [5]) (by kernel_rfl) (by simp) ?_
    refine AllReadyH.cons rfl (fun K' hK' => ?_) AllReadyH.nil
    go_simp
    refine (CL.out _ k2).mono ?_
    rintro e q3 ⟨vx, rfl, hox, j3⟩
    obtain ⟨ax, cx, hvx⟩ := owns_form hox
    subst hvx
    show K' _ _
    have k3 := below_then k2 j3
    have s3 := HSR.out _ k3
    refine hK'.out _ _ s3 (fun _ => ?_)
    clear hK' K'
    refine wpAnyH_ready (rs := [6]) (by kernel_rfl) (by simp) ?_
    refine AllReadyH.cons rfl (fun K' hK' => ?_) AllReadyH.nil
    go_simp
    have s4 := s3.alloc (.cells #[.slice ax ls.length cx] 24)
    have HCA4 := HCL.out _ (k3.alloc k3.size (.cells #[.slice ax ls.length cx] 24))
    refine hK'.out _ _ s4 (fun _ => ?_)
    clear hK' K'
    refine wpAnyH_ready (rs := [7]) (by kernel_rfl) (by simp) ?_
    refine AllReadyH.cons rfl (fun K' hK' => ?_) AllReadyH.nil
    refine step_app _ rfl (.tmp 16) (.tmp 21) 39 rfl w.heap.size 24 i0 (.slice none 0 0) 1 24 Tryz.underlying39 hi hz0 hz1 hz2 rfl (by decide) (.slice vsa K.length vsc) K.length (K.map (·.1)) (by simp [Act.eval]) ((HW.out _ k3).own.kr.alloc _) ⟨q3.heap.size, 0, none⟩ 1 1 [.slice ax ls.length cx] (by simp [Act.eval]) rfl ?c1x5 ?c2x5 ?c3x5 ?c4x5 ?c5x5 ?c6x5
    case c1x5 => exact lit_newS _ _ _
    case c2x5 => intro u hu; simp at hu; subst hu; rfl
    case c3x5 => exact n3.out
    case c4x5 => exact n4.out
    case c5x5 => exact HSZ.out _ _ k3
    case c6x5 =>
     intro v5 w5 hown5 hg5
     obtain ⟨a5, c5, hv5⟩ := owns_form hown5
     subst hv5
     obtain ⟨hS5, hcz, hfz, hS6, hF5⟩ := WI.add hp5 (HW.out _ k3) hox hown5 hg5
     show K' _ _
     refine hK'.out _ _ hS5 (fun _ => ?_)
     clear hK' K'
     refine tA (some 23) 8 rfl rfl hS5 ?_
     try simp only [Act.put, List.setIfInBounds_toArray]
     refine wpAnyH_ready (rs := [9]) (by kernel_rfl) (by simp) ?_
     refine AllReadyH.cons rfl (fun K' hK' => ?_) AllReadyH.nil
     go_simp
     refine hK'.out _ _ hS6 (fun _ => ?_)
     clear hK' K'
     refine wpAnyH_done (by kernel_rfl) ?_ _
     go_wp2_with fail
     go_roundw
     case rel => exact ⟨k + 1, _, _, by omega, by go_num, HNX.out _, hF5⟩
     case measure => simp [intOf]; omega
   ·
    go_simp
    refine (CS.out _).mono ?_
    rintro e q7 ⟨rfl, j7⟩
    show K' _ _
    have k7 := below_then kd j7
    have s7 := HSR.out _ k7
    refine hK'.out _ _ s7 (fun _ => ?_)
    clear hK' K'
    refine wpAnyH_ready (rs := [1, 5]) (by kernel_rfl) (by simp) ?_
    refine AllReadyH.cons rfl (fun K' hK' => ?_) (AllReadyH.cons rfl (fun K' hK' => ?_) AllReadyH.nil)
    ·
     have hc8 := HCL.out _ k7
     go_simp
     refine hK'.out _ _ s7 (fun _ => ?_)
     clear hK' K' hc8
     refine wpAnyH_ready (rs := [5]) (by kernel_rfl) (by simp) ?_
     refine AllReadyH.cons rfl (fun K' hK' => ?_) AllReadyH.nil
     go_simp
     refine (CL.out _ k7).mono ?_
     rintro e q9 ⟨vx, rfl, hox, j9⟩
     obtain ⟨ax, cx, hvx⟩ := owns_form hox
     subst hvx
     show K' _ _
     have k9 := below_then k7 j9
     have s9 := HSR.out _ k9
     refine hK'.out _ _ s9 (fun _ => ?_)
     clear hK' K'
     refine wpAnyH_ready (rs := [6]) (by kernel_rfl) (by simp) ?_
     refine AllReadyH.cons rfl (fun K' hK' => ?_) AllReadyH.nil
     go_simp
     have s10 := s9.alloc (.cells #[.slice ax ls.length cx] 24)
     have HCA10 := HCL.out _ (k9.alloc k9.size (.cells #[.slice ax ls.length cx] 24))
     refine hK'.out _ _ s10 (fun _ => ?_)
     clear hK' K'
     refine wpAnyH_ready (rs := [7]) (by kernel_rfl) (by simp) ?_
     refine AllReadyH.cons rfl (fun K' hK' => ?_) AllReadyH.nil
     refine step_app _ rfl (.tmp 16) (.tmp 21) 39 rfl w.heap.size 24 i0 (.slice none 0 0) 1 24 Tryz.underlying39 hi hz0 hz1 hz2 rfl (by decide) (.slice vsa K.length vsc) K.length (K.map (·.1)) (by simp [Act.eval]) ((HW.out _ k9).own.kr.alloc _) ⟨q9.heap.size, 0, none⟩ 1 1 [.slice ax ls.length cx] (by simp [Act.eval]) rfl ?c1x11 ?c2x11 ?c3x11 ?c4x11 ?c5x11 ?c6x11
     case c1x11 => exact lit_newS _ _ _
     case c2x11 => intro u hu; simp at hu; subst hu; rfl
     case c3x11 => exact n3.out
     case c4x11 => exact n4.out
     case c5x11 => exact HSZ.out _ _ k9
     case c6x11 =>
      intro v5 w5 hown5 hg5
      obtain ⟨a5, c5, hv5⟩ := owns_form hown5
      subst hv5
      obtain ⟨hS5, hcz, hfz, hS6, hF5⟩ := WI.add hp5 (HW.out _ k9) hox hown5 hg5
      show K' _ _
      refine hK'.out _ _ hS5 (fun _ => ?_)
      clear hK' K'
      refine tA (some 23) 8 rfl rfl hS5 ?_
      try simp only [Act.put, List.setIfInBounds_toArray]
      refine wpAnyH_ready (rs := [9]) (by kernel_rfl) (by simp) ?_
      refine AllReadyH.cons rfl (fun K' hK' => ?_) AllReadyH.nil
      go_simp
      refine hK'.out _ _ hS6 (fun _ => ?_)
      clear hK' K'
      refine wpAnyH_done (by kernel_rfl) ?_ _
      go_wp2_with fail
      go_roundw
      case rel => exact ⟨k + 1, _, _, by omega, by go_num, HNX.out _, hF5⟩
      case measure => simp [intOf]; omega
    ·
     go_simp
     refine (CL.out _ k7).mono ?_
     rintro e q13 ⟨vx, rfl, hox, j13⟩
     obtain ⟨ax, cx, hvx⟩ := owns_form hox
     subst hvx
     show K' _ _
     have k13 := below_then k7 j13
     have s13 := HSR.out _ k13
     refine hK'.out _ _ s13 (fun _ => ?_)
     clear hK' K'
     refine wpAnyH_ready (rs := [1, 6]) (by kernel_rfl) (by simp) ?_
     refine AllReadyH.cons rfl (fun K' hK' => ?_) (AllReadyH.cons rfl (fun K' hK' => ?_) AllReadyH.nil)
     ·
      have hc14 := HCL.out _ k13
      go_simp
      refine hK'.out _ _ s13 (fun _ => ?_)
      clear hK' K' hc14
      refine wpAnyH_ready (rs := [6]) (by kernel_rfl) (by simp) ?_
      refine AllReadyH.cons rfl (fun K' hK' => ?_) AllReadyH.nil
      go_simp
      have s15 := s13.alloc (.cells #[.slice ax ls.length cx] 24)
      have HCA15 := HCL.out _ (k13.alloc k13.size (.cells #[.slice ax ls.length cx] 24))
      refine hK'.out _ _ s15 (fun _ => ?_)
      clear hK' K'
      refine wpAnyH_ready (rs := [7]) (by kernel_rfl) (by simp) ?_
      refine AllReadyH.cons rfl (fun K' hK' => ?_) AllReadyH.nil
      refine step_app _ rfl (.tmp 16) (.tmp 21) 39 rfl w.heap.size 24 i0 (.slice none 0 0) 1 24 Tryz.underlying39 hi hz0 hz1 hz2 rfl (by decide) (.slice vsa K.length vsc) K.length (K.map (·.1)) (by simp [Act.eval]) ((HW.out _ k13).own.kr.alloc _) ⟨q13.heap.size, 0, none⟩ 1 1 [.slice ax ls.length cx] (by simp [Act.eval]) rfl ?c1x16 ?c2x16 ?c3x16 ?c4x16 ?c5x16 ?c6x16
      case c1x16 => exact lit_newS _ _ _
      case c2x16 => intro u hu; simp at hu; subst hu; rfl
      case c3x16 => exact n3.out
      case c4x16 => exact n4.out
      case c5x16 => exact HSZ.out _ _ k13
      case c6x16 =>
       intro v5 w5 hown5 hg5
       obtain ⟨a5, c5, hv5⟩ := owns_form hown5
       subst hv5
       obtain ⟨hS5, hcz, hfz, hS6, hF5⟩ := WI.add hp5 (HW.out _ k13) hox hown5 hg5
       show K' _ _
       refine hK'.out _ _ hS5 (fun _ => ?_)
       clear hK' K'
       refine tA (some 23) 8 rfl rfl hS5 ?_
       try simp only [Act.put, List.setIfInBounds_toArray]
       refine wpAnyH_ready (rs := [9]) (by kernel_rfl) (by simp) ?_
       refine AllReadyH.cons rfl (fun K' hK' => ?_) AllReadyH.nil
       go_simp
       refine hK'.out _ _ hS6 (fun _ => ?_)
       clear hK' K'
       refine wpAnyH_done (by kernel_rfl) ?_ _
       go_wp2_with fail
       go_roundw
       case rel => exact ⟨k + 1, _, _, by omega, by go_num, HNX.out _, hF5⟩
       case measure => simp [intOf]; omega
     ·
      go_simp
      have s18 := s13.alloc (.cells #[.slice ax ls.length cx] 24)
      have HCA18 := HCL.out _ (k13.alloc k13.size (.cells #[.slice ax ls.length cx] 24))
      refine hK'.out _ _ s18 (fun _ => ?_)
      clear hK' K'
      refine wpAnyH_ready (rs := [1]) (by kernel_rfl) (by simp) ?_
      refine AllReadyH.cons rfl (fun K' hK' => ?_) AllReadyH.nil
      have hc19 := HCA18
      go_simp
      refine hK'.out _ _ s18 (fun _ => ?_)
      clear hK' K' hc19
      refine wpAnyH_ready (rs := [7]) (by kernel_rfl) (by simp) ?_
      refine AllReadyH.cons rfl (fun K' hK' => ?_) AllReadyH.nil
      refine step_app _ rfl (.tmp 16) (.tmp 21) 39 rfl w.heap.size 24 i0 (.slice none 0 0) 1 24 Tryz.underlying39 hi hz0 hz1 hz2 rfl (by decide) (.slice vsa K.length vsc) K.length (K.map (·.1)) (by simp [Act.eval]) ((HW.out _ k13).own.kr.alloc _) ⟨q13.heap.size, 0, none⟩ 1 1 [.slice ax ls.length cx] (by simp [Act.eval]) rfl ?c1x20 ?c2x20 ?c3x20 ?c4x20 ?c5x20 ?c6x20
      case c1x20 => exact lit_newS _ _ _
      case c2x20 => intro u hu; simp at hu; subst hu; rfl
      case c3x20 => exact n3.out
      case c4x20 => exact n4.out
      case c5x20 => exact HSZ.out _ _ k13
      case c6x20 =>
       intro v5 w5 hown5 hg5
       obtain ⟨a5, c5, hv5⟩ := owns_form hown5
       subst hv5
       obtain ⟨hS5, hcz, hfz, hS6, hF5⟩ := WI.add hp5 (HW.out _ k13) hox hown5 hg5
       show K' _ _
       refine hK'.out _ _ hS5 (fun _ => ?_)
       clear hK' K'
       refine tA (some 23) 8 rfl rfl hS5 ?_
       try simp only [Act.put, List.setIfInBounds_toArray]
       refine wpAnyH_ready (rs := [9]) (by kernel_rfl) (by simp) ?_
       refine AllReadyH.cons rfl (fun K' hK' => ?_) AllReadyH.nil
       go_simp
       refine hK'.out _ _ hS6 (fun _ => ?_)
       clear hK' K'
       refine wpAnyH_done (by kernel_rfl) ?_ _
       go_wp2_with fail
       go_roundw
       case rel => exact ⟨k + 1, _, _, by omega, by go_num, HNX.out _, hF5⟩
       case measure => simp [intOf]; omega
  ·have hkn : k = l.length := by omega
   have hnk : ¬ (k : Int) < (l.length : Int) := by omega
   rw [hkn] at hK
   have HL := hid hK
   clear hK
   have b1 := hW.box
   have b2 := hW.res
   obtain ⟨vsa, vsc, rfl⟩ := owns_form hW.own.kr
   have c0 : wr.cell? ⟨p5, 0, none⟩ = some (.slice oo l.length oc) := by unfold At at b1; simp [World.cell?, b1]
   have c1 : wr.cell? ⟨p5, 1, none⟩ = some (.slice vsa K.length vsc) := by unfold At at b1; simp [World.cell?, b1]
   have c2 : wr.cell? ⟨w.heap.size + 1, 0, none⟩ = some (.slice none 0 0) := by unfold At at b2; simp [World.cell?, b2]
   have c3 : wr.cell? ⟨w.heap.size + 1, 1, none⟩ = some (.slice none 0 0) := by unfold At at b2; simp [World.cell?, b2]
   have f2 := frozen_of_row wr (w.heap.size + 1) 0 _ _ b2
   have f3 := frozen_of_row wr (w.heap.size + 1) 1 _ _ b2
   have HW := hid hW
   clear hW b1 b2
   go_wp2_with fail
   obtain ⟨e1, e2, e3, e4⟩ := WI.done HW.out
   generalize (wr.setCell ⟨w.heap.size + 1, 0, none⟩ (.slice oo l.length oc)).setCell ⟨w.heap.size + 1, 1, none⟩ (.slice vsa K.length vsc) = w7 at *
   have d0 : w7.cell? ⟨w.heap.size + 1, 0, none⟩ = some (.slice oo l.length oc) := by unfold At at e1; simp [World.cell?, e1]
   have d1 : w7.cell? ⟨w.heap.size + 1, 1, none⟩ = some (.slice vsa K.length vsc) := by unfold At at e1; simp [World.cell?, e1]
   clear c0 c1 c2 c3 f2 f3
   refine bodyPost_ret (v := .agg #[.slice oo l.length oc, .slice vsa K.length vsc]) ?_ rfl ⟨⟨_, _, rfl, e2, K, e3, HL.out⟩, e4⟩
   simp [results, Tryz.results178, go_sem, d0, d1]
end

section
open Go.RowKit Go.Shelf
attribute [local go_sem] Oper.semAt_some
def keptL (h : List TxnV) (lv : Int) (row : List Nat) : Bool := isLv lv && (soundTo h h.length && allT h (clI ((askN lv : Nat) : Int)) [] row)
theorem kept_holds {h : List TxnV} (hc : checkI h = 0) (lv : Int) {row : List Nat} (hp : row.Perm (List.range h.length)) {R : Mat} (hR : LeastIs h (askN lv) (row.map Int.ofNat) R) : holdsB h lv (row.map Int.ofNat) R = keptL h lv row := by
 cases hlv : isLv lv with
 | false => unfold holdsB keptL; rw [hlv]; rfl
 | true =>
  have hC : clI ((askN lv : Nat) : Int) < 9223372036854775808 := by have := clI_lt ((askN lv : Nat) : Int); omega
  have hnd : row.Nodup := (List.Perm.nodup_iff hp).2 List.nodup_range
  have hlt : ∀ k ∈ row, k < h.length := fun k hk => List.mem_range.1 (hp.mem_iff.1 hk)
  have h1 := (good_holds hc hlv (r := row.reverse) (R := R) (by rw [List.reverse_reverse]; exact hp) (by rw [List.reverse_reverse]; exact hR)).1
  rw [List.reverse_reverse] at h1
  have h2 := allT_iff hc hC row [] (by rw [List.append_nil]; exact (List.reverse_perm row).nodup_iff.2 hnd) (fun a ha => hlt a (by simpa using ha)) (fun k hk => by cases hk)
  rw [List.append_nil] at h2
  unfold keptL
  rw [Bool.eq_iff_iff, h1, hlv, Bool.true_and, Bool.and_eq_true, h2]
theorem perm_range {n : Nat} {row : List Nat} (hnd : row.Nodup) (hlt : ∀ i ∈ row, i < n) (hl : row.length = n) : row.Perm (List.range n) := by
 have hmem : ∀ j, j < n → j ∈ row := fun j hj => by
  by_cases h : j ∈ row
  ·exact h
  ·have := nodup_len n (j :: row) (List.nodup_cons.2 ⟨h, hnd⟩) (fun k hk => by
    rcases List.mem_cons.1 hk with rfl | hk
    ·exact hj
    ·exact hlt k hk)
   simp at this; omega
 rw [List.perm_iff_count]
 intro j
 rw [hnd.count, List.nodup_range.count]
 simp only [List.mem_range]
 by_cases h : j < n
 ·rw [if_pos (hmem j h), if_pos h]
 ·rw [if_neg (fun q => h (hlt j q)), if_neg h]
theorem orders_perm {n : Nat} {row : List Nat} (h : row ∈ ordersN n) : row.Perm (List.range n) := by
 obtain ⟨a, b, c, _⟩ := mem_exts h
 exact perm_range (a List.nodup_nil) (b (fun i hi => by cases hi)) (by simpa using c)
end

section
open Go.RowKit
def seeW (h : List TxnV) (C : Nat) (r : List Nat) (j : Nat) : Mat := fun a b => decide (a < j) && (plSee h C r a).testBit b
theorem seeJ_step (h : List TxnV) (C : Nat) (r : List Nat) (j : Nat) : rowSet (seeW h C r j) j (fun b => (plSee h C r j).testBit b) = seeW h C r (j + 1) := by
 funext a b
 unfold rowSet seeW
 by_cases e : a = j
 ·subst e; simp
 ·simp only [e, if_false]
  congr 1
  rw [decide_eq_decide]; omega
theorem seesL_turn {h : List TxnV} {C : Nat} {r : List Nat} (h64 : h.length ≤ 64) : seesL (turnR (seeW h C r h.length)) h.length = seesL (seesR h C r) h.length := by
 unfold seesL
 refine List.map_congr_left fun i hi => ?_
 have hi := List.mem_range.1 hi
 congr 2
 apply Nat.eq_of_testBit_eq
 intro j
 rw [seeTo_bit _ _ _ 64 (Nat.le_refl _), seeTo_bit _ _ _ 64 (Nat.le_refl _)]
 by_cases hj : j < 64
 ·rw [hasR_nat _ j i hj (by omega), hasR_nat _ j i hj (by omega)]
  unfold turnR seeW seesR
  rw [decide_eq_true hi, Bool.true_and]
 ·rw [decide_eq_false hj]; rfl
theorem OwnK.far {b : Nat} {w : World} {v : Value} {K : List KRow} (h : OwnK b w v K) {p : Addr} (hp : p.block < b) (u : Value) : OwnK b (w.setCell p u) v K := ⟨pl_far h.kr hp u, fun q hq => pl_far (h.ke q hq) hp u⟩
theorem OwnK.base {b b' : Nat} {w : World} {v : Value} {K : List KRow} (h : OwnK b w v K) (hb : b' ≤ b) : OwnK b' w v K := ⟨own_base' h.kr hb, fun q hq => own_base' (h.ke q hq) hb⟩
structure WkAt (w : World) (g : Nat) (vo vs : Value) : Prop where
 c0 : w.cell? ⟨g, 0, none⟩ = some vo
 c1 : w.cell? ⟨g, 1, none⟩ = some vs
 f0 : w.frozen? ⟨g, 0, none⟩ = false
 f1 : w.frozen? ⟨g, 1, none⟩ = false
section
variable {w w' : World} {g : Nat} {vo vs : Value}
theorem WkAt.lt (h : WkAt w g vo vs) : g < w.heap.size := block_lt h.c0
theorem WkAt.block (h : WkAt w g vo vs) (hb : w'.heap[g]? = w.heap[g]?) : WkAt w' g vo vs :=
 ⟨(World.cell?_of_block (a := ⟨g, 0, none⟩) hb).trans h.c0, (World.cell?_of_block (a := ⟨g, 1, none⟩) hb).trans h.c1, (World.frozen?_of_block (a := ⟨g, 0, none⟩) hb).trans h.f0, (World.frozen?_of_block (a := ⟨g, 1, none⟩) hb).trans h.f1⟩
theorem WkAt.below {B : Nat} (h : WkAt w g vo vs) (hb : Below B w w') (hB : g < B) : WkAt w' g vo vs := h.block (hb.block g hB)
theorem WkAt.made (w : World) : WkAt (w.alloc (.cells #[.slice none 0 0, .slice none 0 0] 41)) w.heap.size (.slice none 0 0) (.slice none 0 0) := by
 have hn := heap_alloc_new w (.cells #[.slice none 0 0, .slice none 0 0] 41)
 refine ⟨?_, ?_, frozen_of_row _ _ _ _ _ hn, frozen_of_row _ _ _ _ _ hn⟩ <;> (rw [cell_of_row _ _ _ _ _ _ hn]; rfl)
theorem WkAt.set (h : WkAt w g vo vs) (uo us : Value) : WkAt ((w.setCell ⟨g, 0, none⟩ uo).setCell ⟨g, 1, none⟩ us) g uo us := by
 refine ⟨?_, ?_, ?_, ?_⟩
 ·rw [World.cell?_setCell_other _ _ _ _ (by simp)]
  exact World.cell?_setCell_same _ _ _ h.c0
 ·exact World.cell?_setCell_same _ _ _ (by rw [World.cell?_setCell_other _ _ _ _ (by simp)]; exact h.c1)
 ·simp only [World.frozen?_setCell]; exact h.f0
 ·simp only [World.frozen?_setCell]; exact h.f1
end
section
variable {w0 w : World} {N S B b : Nat} {h : List TxnV} {C X Mb T F : Nat} {vb : Value} {r : List Nat} {vr : Value} {aF sF : Nat → Nat} {M : List (Nat × ByteArray)} {U : Nat}
theorem switness_any (q : Sea w0 N S B b h C X Mb T F vb r vr aF sF M U w) (hc : checkI h = 0) (hr : r.length = h.length) :
  Calls Tryz.prog 140 #[.pointer (some ⟨X, 0, none⟩)] w fun e w' => (∃ vo vs KL, e = .returned (.agg #[vo, vs]) ∧ w'.ownsRow (w.heap.size + 1) 3 1 vo (r.reverse.map Int.ofNat).length ((r.reverse.map Int.ofNat).map (Value.int .i64)) ∧ OwnK (w.heap.size + 1) w' vs KL ∧ KL.map (fun p : KRow => p.2) = seesL (seesR h C r) h.length) ∧ Below w.heap.size w w' := by
 have h64 := (check_zero hc).1
 have HX : Hid (∀ wx, Below w.heap.size w wx → SrAt wx X S B Mb T) := hid (fun wx hx => (q.below hx).x)
 have CS := hid (fun wx (hx : Below w.heap.size w wx) (i : Int) => xsees_any i (q.p.below hx) h64)
 have CR := hid (fun wx (hx : Below w.heap.size w wx) => xrow_any (q.p.below hx) h64)
 have HT : Hid (∀ wx, Below w.heap.size w wx → Tab wx) := hid (fun wx hx => (q.p.below hx).tab)
 have HN : Hid (∀ wx, Below w.heap.size w wx → wx.cell? ⟨B, 0, none⟩ = some (.int .i64 (h.length : Int))) := hid (fun wx hx => ((q.p.below hx).ord).blk.cN)
 have HPL : Hid (∀ j, j < h.length → plSeeI h C r (j : Int) = plSee h C r j ∧ plSee h C r j = mkS (fun b => (plSee h C r j).testBit b)) := hid (fun j hj => by
  have hlt : ∀ a ∈ r, a < 64 := fun a ha => by have := q.p.lt.1 a ha; omega
  have hin : j ∈ r := by
   have hp : r.Perm (List.range h.length) := perm_range q.p.lt.2 q.p.lt.1 hr
   exact hp.mem_iff.2 (List.mem_range.2 hj)
  refine ⟨?_, (mkS_bits (plSee_set h C r j)).symm⟩
  unfold plSeeI
  rw [has_pl hlt (by omega), decide_eq_true hin, if_pos rfl, Int.toNat_natCast])
 have HSL := hid (seesL_turn (C := C) (r := r) h64)
 have n0 := q.x.c0
 have hXw := q.x.lt
 have hw0 := WkAt.made w
 have hb0 := box_below w (.cells #[.slice none 0 0, .slice none 0 0] 41)
 clear q
 go_enter Tryz.func140, Tryz.ntmps140
 go_upto_region 1 with fail
 have hs0 : (w.alloc (.cells #[.slice none 0 0, .slice none 0 0] 41)).heap.size = w.heap.size + 1 := by simp
 generalize w.alloc (.cells #[.slice none 0 0, .slice none 0 0] 41) = w1 at *
 go_upto_region 2 with fail
 have z2 := zero_block w1
 have hb1 := hb0.alloc hb0.size (.cells #[.int .u64 0, .int .u64 0, .int .u64 0, .int .u64 0, .int .u64 0, .int .u64 0, .int .u64 0, .int .u64 0, .int .u64 0, .int .u64 0, .int .u64 0, .int .u64 0, .int .u64 0, .int .u64 0, .int .u64 0, .int .u64 0, .int .u64 0, .int .u64 0, .int .u64 0, .int .u64 0, .int .u64 0, .int .u64 0, .int .u64 0, .int .u64 0, .int .u64 0, .int .u64 0, .int .u64 0, .int .u64 0, .int .u64 0, .int .u64 0, .int .u64 0, .int .u64 0, .int .u64 0, .int .u64 0, .int .u64 0, .int .u64 0, .int .u64 0, .int .u64 0, .int .u64 0, .int .u64 0, .int .u64 0, .int .u64 0, .int .u64 0, .int .u64 0, .int .u64 0, .int .u64 0, .int .u64 0, .int .u64 0, .int .u64 0, .int .u64 0, .int .u64 0, .int .u64 0, .int .u64 0, .int .u64 0, .int .u64 0, .int .u64 0, .int .u64 0, .int .u64 0, .int .u64 0, .int .u64 0, .int .u64 0, .int .u64 0, .int .u64 0, .int .u64 0] 108)
 have hw1 := hw0.below ((Below.refl w1.heap.size w1).alloc (Nat.le_refl _) (.cells #[.int .u64 0, .int .u64 0, .int .u64 0, .int .u64 0, .int .u64 0, .int .u64 0, .int .u64 0, .int .u64 0, .int .u64 0, .int .u64 0, .int .u64 0, .int .u64 0, .int .u64 0, .int .u64 0, .int .u64 0, .int .u64 0, .int .u64 0, .int .u64 0, .int .u64 0, .int .u64 0, .int .u64 0, .int .u64 0, .int .u64 0, .int .u64 0, .int .u64 0, .int .u64 0, .int .u64 0, .int .u64 0, .int .u64 0, .int .u64 0, .int .u64 0, .int .u64 0, .int .u64 0, .int .u64 0, .int .u64 0, .int .u64 0, .int .u64 0, .int .u64 0, .int .u64 0, .int .u64 0, .int .u64 0, .int .u64 0, .int .u64 0, .int .u64 0, .int .u64 0, .int .u64 0, .int .u64 0, .int .u64 0, .int .u64 0, .int .u64 0, .int .u64 0, .int .u64 0, .int .u64 0, .int .u64 0, .int .u64 0, .int .u64 0, .int .u64 0, .int .u64 0, .int .u64 0, .int .u64 0, .int .u64 0, .int .u64 0, .int .u64 0, .int .u64 0] 108)) hw0.lt
 rw [hs0] at z2
 have hle : w.heap.size ≤ w.heap.size + 1 := by omega
 clear n0 hw0 hs0 hb0
 generalize w1.alloc (.cells #[.int .u64 0, .int .u64 0, .int .u64 0, .int .u64 0, .int .u64 0, .int .u64 0, .int .u64 0, .int .u64 0, .int .u64 0, .int .u64 0, .int .u64 0, .int .u64 0, .int .u64 0, .int .u64 0, .int .u64 0, .int .u64 0, .int .u64 0, .int .u64 0, .int .u64 0, .int .u64 0, .int .u64 0, .int .u64 0, .int .u64 0, .int .u64 0, .int .u64 0, .int .u64 0, .int .u64 0, .int .u64 0, .int .u64 0, .int .u64 0, .int .u64 0, .int .u64 0, .int .u64 0, .int .u64 0, .int .u64 0, .int .u64 0, .int .u64 0, .int .u64 0, .int .u64 0, .int .u64 0, .int .u64 0, .int .u64 0, .int .u64 0, .int .u64 0, .int .u64 0, .int .u64 0, .int .u64 0, .int .u64 0, .int .u64 0, .int .u64 0, .int .u64 0, .int .u64 0, .int .u64 0, .int .u64 0, .int .u64 0, .int .u64 0, .int .u64 0, .int .u64 0, .int .u64 0, .int .u64 0, .int .u64 0, .int .u64 0, .int .u64 0, .int .u64 0] 108) = w2 at *
 have n1 := (HX.out _ hb1).c1
 have n2 := HN.out _ hb1
 have z2 : RelAt w2 (w.heap.size + 1) 108 (seeW h C r 0) := by
  have e : seeW h C r 0 = noR := by funext a b; unfold seeW noR; simp
  rw [e]; exact z2
 go_wp2_with fail
 go_loopw [12] (fun iv wr => ∃ j : Nat, j ≤ h.length ∧ iv = .int .i64 j ∧ RelAt wr (w.heap.size + 1) 108 (seeW h C r j) ∧ WkAt wr w.heap.size (.slice none 0 0) (.slice none 0 0) ∧ Below w.heap.size w wr) (fun iv _ => h.length - (intOf iv).toNat)
 case atStart => exact ⟨0, Nat.zero_le _, rfl, z2, hw1, hb1⟩
 case round =>
  clear z2 hw1 hb1 n1 n2
  obtain ⟨j, hj, rfl, hz, hwk, hb⟩ := hrel
  by_cases hjl : j < h.length
  ·have hji : (j : Int) < (h.length : Int) := by omega
   have hj64 : (j : Int) < 64 := by omega
   have CJ := hid (CS.out _ hb (j : Int))
   rw [(HPL.out j hjl).1] at CJ
   have c0 := (HX.out _ hb).c0
   have hzc := hz.cell (i := j) (by omega)
   have hzf := hz.free j
   have HZ := hid (hz.store j (plSee h C r j) (fun b => (plSee h C r j).testBit b) (HPL.out j hjl).2)
   rw [seeJ_step] at HZ
   have HB := hid (hb.setCell (p := ⟨w.heap.size + 1, j, none⟩) hle (.int .u64 ((plSee h C r j : Nat) : Int)))
   have HWK := hid (hwk.block (w' := wr.setCell ⟨w.heap.size + 1, j, none⟩ (.int .u64 ((plSee h C r j : Nat) : Int))) (Below.heap_setCell _ _ _ _ (by show w.heap.size ≠ w.heap.size + 1; omega)))
   clear hz hb hwk
   generalize plSee h C r j = s at *
   go_wp2_with fail
   refine CJ.out.mono ?_
   rintro e wq ⟨rfl, rfl⟩
   go_wp2_with fail
   go_roundw
   case rel => exact ⟨j + 1, by omega, by go_num, HZ.out, HWK.out, HB.out⟩
   case measure => simp [intOf]; omega
  ·have hjn : j = h.length := by omega
   subst hjn
   have HWR := hid hb
   have HZR : Hid (∀ wx, Below wr.heap.size wr wx → RelAt wx (w.heap.size + 1) 108 (seeW h C r h.length)) := hid (fun wx hx => hz.below hx hz.lt)
   have HX9 := hid (fun wx (hx : Below wr.heap.size wr wx) => HX.out wx (below_then hb hx))
   have CR9 := hid (fun wx (hx : Below wr.heap.size wr wx) => CR.out wx (below_then hb hx))
   have CT9 := hid (fun wx (hx : Below wr.heap.size wr wx) => turned_any (seeW h C r h.length) wx (HT.out wx (below_then hb hx)))
   have CW9 := hid (fun va wx (hx : Below wr.heap.size wr wx) (hI : Ints wx va (r.reverse.map Int.ofNat)) => awitness_own va _ (turnR (seeW h C r h.length)) wx (HT.out wx (below_then hb hx)) hI (by simp; omega))
   rw [show (r.reverse.map Int.ofNat).length = h.length by simp [hr], HSL.out] at CW9
   have kd := (Below.refl wr.heap.size wr).drew
   have HK9 : Hid (∀ wx, Below wr.heap.size wr wx → WkAt wx w.heap.size (.slice none 0 0) (.slice none 0 0) ∧ Below w.heap.size w wx) := hid (fun wx hx => ⟨hwk.below hx hwk.lt, below_then hb hx⟩)
   have HS9 := hid (fun wx (hx : Below wr.heap.size wr wx) => And.intro (HX9.out wx hx) (HZR.out wx hx))
   have HLO := hid hwk.lt
   clear hz hwk hb hjl CS CR HT HPL HN HX
   go_upto_region 7 with fail
   refine wp_region_held_drew (S := (fun wx => SrAt wx X S B Mb T ∧ RelAt wx (w.heap.size + 1) 108 (seeW h C r h.length))) (by kernel_rfl) (HS9.out _ kd) (fun hS0 => ?_)
   refine tA (some 24) 0 rfl rfl hS0 ?_
   try simp only [Act.put, zA, zB, zC]
   refine tA (some 25) 1 rfl rfl hS0 ?_
   try simp only [Act.put, zA, zB, zC]
   refine tA (some 26) 2 rfl rfl hS0 ?_
   try simp only [Act.put, zA, zB, zC]
   refine tG (some 27) 3 ?vwa3x4 rfl rfl (Or.inl ⟨by rfl, ?hwa3x4⟩) hS0 ?rwa3x4
   case hwa3x4 => (intro w hz; obtain ⟨⟨z0, z1, z2, z3⟩, _⟩ := hz; go_simp; try (with_reducible rfl))
   try simp only [Act.put, zA, zB, zC]
   refine tG (some 29) 5 _ rfl rfl (yields_rel (by rfl) _ rfl rfl (fun wx hx => hx.2)) hS0 ?_
   try simp only [Act.put, zA, zB, zC]
   refine rD 4 rfl (fun K hK => ?_)
   go_simp
   refine (CR9.out _ kd).mono ?_
   rintro e y4 ⟨va, rfl, hI4, hy4⟩
   show K _ _
   have b4 := below_then kd hy4
   have s4 := HS9.out _ b4
   refine hK.out _ _ s4 (fun _ => ?_)
   clear hK K
   refine rD 6 rfl (fun K hK => ?_)
   go_simp
   refine (CT9.out _ b4).mono ?_
   rintro e y6 ⟨rfl, hy6⟩
   show K _ _
   have b6 := below_then b4 hy6
   have s6 := HS9.out _ b6
   have hI6 := hI4.below hy6
   refine hK.out _ _ s6 (fun _ => ?_)
   clear hK K
   refine rD 7 rfl (fun K hK => ?_)
   go_simp
   refine (CW9.out _ _ b6 hI6).mono ?_
   rintro e y7 ⟨⟨vo, vs, KL, rfl, hI7, hL7, hK7⟩, hy7⟩
   show K _ _
   obtain ⟨oa, oc, rfl⟩ := own_form hI7
   obtain ⟨sa, sc, rfl⟩ := own_form hL7.kr
   have b7 := below_then b6 hy7
   have s7 := HS9.out _ b7
   refine hK.out _ _ s7 (fun _ => ?_)
   clear hK K
   refine rD 8 rfl (fun K hK => ?_)
   obtain ⟨hk8, hb8⟩ := HK9.out _ b7
   have HW8 := hid (hk8.set (.slice oa (r.reverse.map Int.ofNat).length oc) (.slice sa KL.length sc))
   have HB8 := hid ((hb8.setCell (p := ⟨w.heap.size, 0, none⟩) (Nat.le_refl _) (.slice oa (r.reverse.map Int.ofNat).length oc)).setCell (p := ⟨w.heap.size, 1, none⟩) (Nat.le_refl _) (.slice sa KL.length sc))
   have hlo : w.heap.size < y6.heap.size := by have h2 := b6.size; have h3 := HLO.out; omega
   have s8 : SrAt ((y7.setCell ⟨w.heap.size, 0, none⟩ (.slice oa (r.reverse.map Int.ofNat).length oc)).setCell ⟨w.heap.size, 1, none⟩ (.slice sa KL.length sc)) X S B Mb T ∧ RelAt ((y7.setCell ⟨w.heap.size, 0, none⟩ (.slice oa (r.reverse.map Int.ofNat).length oc)).setCell ⟨w.heap.size, 1, none⟩ (.slice sa KL.length sc)) (w.heap.size + 1) 108 (seeW h C r h.length) := ⟨s7.1.block ((Below.heap_setCell _ _ _ _ (by show X ≠ w.heap.size; omega)).trans (Below.heap_setCell _ _ _ _ (by show X ≠ w.heap.size; omega))), (s7.2.other (k := ⟨w.heap.size, 0, none⟩) (by show w.heap.size + 1 ≠ w.heap.size; omega) _).other (k := ⟨w.heap.size, 1, none⟩) (by show w.heap.size + 1 ≠ w.heap.size; omega) _⟩
   have HI8 := hid (own_base' (base' := w.heap.size + 1) (pl_far (pl_far hI7 (p := ⟨w.heap.size, 0, none⟩) hlo (.slice oa (r.reverse.map Int.ofNat).length oc)) (p := ⟨w.heap.size, 1, none⟩) hlo (.slice sa KL.length sc)) hlo)
   have HL8 := hid (OwnK.base (b' := w.heap.size + 1) ((hL7.far (p := ⟨w.heap.size, 0, none⟩) hlo (.slice oa (r.reverse.map Int.ofNat).length oc)).far (p := ⟨w.heap.size, 1, none⟩) hlo (.slice sa KL.length sc)) hlo)
   have HK8 := hid hK7
   obtain ⟨k0, k1, k2, k3⟩ := hk8
   simp only [List.length_map, List.length_reverse, hr] at HW8 HB8 s8 HI8 HL8 ⊢
   go_simp
   refine hK.out _ _ s8 (fun _ => ?_)
   clear hK K
   refine wpAnyH_done (by kernel_rfl) ?_ _
   go_wp2_with fail
   obtain ⟨d0, d1, _, _⟩ := HW8.out
   refine bodyPost_ret (v := .agg #[.slice oa h.length oc, .slice sa KL.length sc]) ?_ rfl ⟨⟨_, _, KL, rfl, (by rw [List.length_map, List.length_reverse, hr]; exact HI8.out), HL8.out, HK8.out⟩, HB8.out⟩
   simp [results, Tryz.results140, go_sem, d0, d1]
end
end

section
open Go.RowKit
section
variable {h : List TxnV} {C n : Nat}
theorem allT_cat (h : List TxnV) (C : Nat) : ∀ (m m' r : List Nat), allT h C r (m ++ m') = (allT h C r m && allT h C (m.reverse ++ r) m')
 | [], m', r => by simp [allT]
 | i :: m, m', r => by
  rw [List.cons_append, allT, allT, allT_cat h C m m' (i :: r), Bool.and_assoc, List.reverse_cons, List.append_assoc]; rfl
theorem exts_first : ∀ (k : Nat) (q : List Nat), (exts n k q).find? (allT h C []) = if allT h C [] q = true then (firstE h C n k q.reverse).map List.reverse else none
 | 0, q => by
  unfold exts firstE
  rw [List.find?_singleton, Option.map_some, List.reverse_reverse]
 | k + 1, q => by
  have key : ∀ j, (extsTo n k q j).find? (allT h C []) = if allT h C [] q = true then ((List.range j).findSome? fun i => if tryP h C q.reverse i = true then firstE h C n k (i :: q.reverse) else none).map List.reverse else none := by
   intro j
   induction j with
   | zero => rw [extsTo_zero]; simp
   | succ j ih =>
    rw [extsTo_succ, List.find?_append, ih, List.range_succ, List.findSome?_append, List.findSome?_singleton]
    by_cases hj : j ∈ q
    ·have ht : tryP h C q.reverse j = false := by
      unfold tryP; rw [decide_eq_true (List.mem_reverse.2 hj)]; simp
     rw [if_pos hj, ht]; simp
    ·rw [if_neg hj, exts_first k (q ++ [j]), allT_cat h C q [j] [], List.append_nil, List.reverse_append]
     have e : allT h C q.reverse [j] = tryP h C q.reverse j := by unfold allT; simp [allT]
     rw [e]
     cases hq : allT h C [] q <;> cases ht : tryP h C q.reverse j <;> simp [Option.map_or]
  rw [exts_all]; exact key n
theorem first_kept (h : List TxnV) (lv : Int) : (ordersN h.length).find? (keptL h lv) = if isLv lv = true ∧ soundTo h h.length = true then (firstE h (clI ((askN lv : Nat) : Int)) h.length h.length []).map List.reverse else none := by
 by_cases hs : isLv lv = true ∧ soundTo h h.length = true
 ·rw [if_pos hs]
  have e2 : keptL h lv = allT h (clI ((askN lv : Nat) : Int)) [] := by funext r; unfold keptL; rw [hs.1, hs.2, Bool.true_and, Bool.true_and]
  rw [e2]
  show (exts h.length h.length []).find? _ = _
  rw [exts_first]; simp [allT]
 ·rw [if_neg hs, List.find?_eq_none]
  intro r _
  unfold keptL
  cases h1 : isLv lv <;> cases h2 : soundTo h h.length <;> simp
  exact (hs ⟨h1, h2⟩).elim
end
end

end Go.Proofs.YtnhkjehfmbfmmaaGreatDoor
