/- Walks and plain facts that the proof of the statement WholeSerial uses, joined: SeaC PlaB AxiG PlaC PlaH PlaI PlaF AxiH OrdP LesA LesB AxhA PlaD PlaG. Conditions: each theorem's own. -/
import Derived.OwnWalk
import Derived.Laws.CopyOwn
import Derived.Deep.AppendLies
import Derived.BigQuiet
import Derived.Deep.QuietTactic
import Derived.Test.YtadihdkpoeibhaaGreatDoorPWholeSerial0
import Derived.Test.YtadihdkpoeibhaaGreatDoorPWholeSerial2
import Derived.Test.YtadihdkpoeibhaaGreatDoorPWholeSerial3
import Derived.Test.YtadihdkpoeibhaaGreatDoorPWholeSerial4
namespace Go.Proofs.YtadihdkpoeibhaaGreatDoor
set_option maxHeartbeats 32000000
set_option maxRecDepth 100000
open Lib (hid)
section
open Go.RowKit
def PlX (w0 : World) (N S B b : Nat) (h : List TxnV) (C : Nat) (r : List Nat) (vb vr : Value) (aF sF : Nat → Nat) (w : World) : Prop :=
 ∃ W, Below w0.heap.size w0 W ∧ W.heap.size = N ∧ PlIs W S B b h C r vb vr aF sF w
structure ApartQ (Q : Nat → Prop) (w w' : World) : Prop where
 os : w'.os = w.os
 tape : w'.tape = w.tape
 output : w'.output = w.output
 size : w.heap.size ≤ w'.heap.size
 block : ∀ k, k < w.heap.size → ¬ Q k → w'.heap[k]? = w.heap[k]?
theorem ApartQ.of_grown {w w' : World} {T : Nat} (hg : w.grownBy w' (some T)) : ApartQ (fun k => k = T) w w' := ⟨hg.os, hg.tape, hg.output, hg.size, fun k hk hn => hg.block k hk fun e => hn (by injection e)⟩
theorem own_block {w w' : World} {base : Nat} {e : TypeId} {size n : Nat} {v : Value} {xs : List Value} (h : w.ownsRow base e size v n xs) (hg : ∀ g, v.ownBlock = some g → w'.heap[g]? = w.heap[g]?) : w'.ownsRow base e size v n xs := by
 refine ⟨h.1, ?_⟩
 rcases h.2 with hn | ⟨g, cap, cur, rfl, hb, hgg, rest⟩
 ·exact .inl hn
 ·exact .inr ⟨g, cap, cur, rfl, hb, (hg g rfl).trans hgg, rest⟩
section
variable {w0 W w w' : World} {N S B b T : Nat} {h : List TxnV} {C : Nat} {r : List Nat} {vb vr : Value} {aF sF : Nat → Nat}
theorem PlX.below (p : PlX w0 N S B b h C r vb vr aF sF w) (hb : Below w.heap.size w w') : PlX w0 N S B b h C r vb vr aF sF w' := by
 obtain ⟨W, h1, h2, q⟩ := p; exact ⟨W, h1, h2, q.below hb⟩
theorem PlX.lowS (p : PlX w0 N S B b h C r vb vr aF sF w) : N ≤ S ∧ S < w.heap.size ∧ w0.heap.size ≤ N := by
 obtain ⟨W, h1, h2, q⟩ := p; rw [← h2]; exact ⟨q.low, q.a.lt, h1.size⟩
theorem PlX.own (p : PlX w0 N S B b h C r vb vr aF sF w) : (∀ g, vb.ownBlock = some g → S < g ∧ g < w.heap.size) ∧ ∀ g, vr.ownBlock = some g → S < g ∧ g < w.heap.size := by
 obtain ⟨W, h1, h2, q⟩ := p
 exact ⟨fun g hg => q.ba.lt g hg, fun g hg => q.rw.lt g hg⟩
theorem PlX.apart (p : PlX w0 N S B b h C r vb vr aF sF w) (hO : OrdIs w0 B b h) (ht : Tab w0) {Q : Nat → Prop} (hg : ApartQ Q w w') (h0 : ∀ k, Q k → w0.heap.size ≤ k) (hS : ¬ Q S) (hvb : ∀ g, vb.ownBlock = some g → ¬ Q g) (hvr : ∀ g, vr.ownBlock = some g → ¬ Q g) : PlX w0 N S B b h C r vb vr aF sF w' := by
 obtain ⟨W, h1, rfl, q⟩ := p
 have hSl := q.a.lt
 have hlow := q.low
 have hws := q.bel.size
 have hgs := hg.size
 have hsz : (w'.heap.extract 0 W.heap.size).size = W.heap.size := by simp; omega
 have hget : ∀ k, k < W.heap.size → (w'.heap.extract 0 W.heap.size)[k]? = w'.heap[k]? := fun k hk => by
  rw [Array.getElem?_extract]; simp; omega
 have hB : Below w0.heap.size w0 { W with heap := w'.heap.extract 0 W.heap.size } := by
  refine ⟨h1.os, h1.tape, h1.output, ?_, fun k hk => ?_⟩
  ·show w0.heap.size ≤ (w'.heap.extract 0 W.heap.size).size
   rw [hsz]; exact h1.size
  ·have hkW : k < W.heap.size := Nat.lt_of_lt_of_le hk h1.size
   show (w'.heap.extract 0 W.heap.size)[k]? = _
   rw [hget k hkW, hg.block k (by omega) (fun e => by have := h0 k e; omega), q.bel.block k hkW]
   exact h1.block k hk
 refine ⟨{ W with heap := w'.heap.extract 0 W.heap.size }, hB, hsz, hO.below hB, ht.below hB ht.pos, ?_, ?_, ?_, ?_, ?_, q.ne, q.set, q.eq, q.nd, q.lt, q.base⟩
 ·refine ⟨hg.os.trans q.bel.os, hg.tape.trans q.bel.tape, hg.output.trans q.bel.output, ?_, fun k hk => ?_⟩
  ·show (w'.heap.extract 0 W.heap.size).size ≤ _
   rw [hsz]; omega
  ·have hk : k < W.heap.size := by rw [← hsz]; exact hk
   exact (hget k hk).symm
 ·show (w'.heap.extract 0 W.heap.size).size ≤ S
  rw [hsz]; exact hlow
 ·intro i hi
  obtain ⟨a1, a2⟩ := q.a i hi
  have hb := hg.block S hSl hS
  exact ⟨(World.cell?_of_block (a := ⟨S, i, none⟩) hb).trans a1, (World.frozen?_of_block (a := ⟨S, i, none⟩) hb).trans a2⟩
 ·exact own_block q.ba fun g e => hg.block g (q.ba.lt g e).2 (hvb g e)
 ·exact own_block q.rw fun g e => hg.block g (q.rw.lt g e).2 (hvr g e)
end
end

section
open Go.RowKit
section
variable {W : World} {S B b : Nat} {h : List TxnV} {C : Nat} {r : List Nat} {vb vr : Value} {aF sF : Nat → Nat} {w : World}
theorem pasks_any (p : PlIs W S B b h C r vb vr aF sF w) : Calls Tryz.prog 167 #[.pointer (some ⟨S, 0, none⟩)] w fun e w' => e = .returned (.int .i64 (C : Int)) ∧ w = w' := by
 have h1 := p.a.cC
 clear p
 go_enter Tryz.func167, Tryz.ntmps167
 go_wp2_with fail
 go_ret
 exact ⟨rfl, rfl⟩
theorem pplaced_any (p : PlIs W S B b h C r vb vr aF sF w) : Calls Tryz.prog 126 #[.pointer (some ⟨S, 0, none⟩)] w fun e w' => e = .returned (.int .u64 ((plS r : Nat) : Int)) ∧ w = w' := by
 have h1 := p.a.cP
 clear p
 generalize plS r = s at *
 go_enter Tryz.func126, Tryz.ntmps126
 go_wp2_with fail
 go_ret
 exact ⟨rfl, rfl⟩
theorem PlIs.row (p : PlIs W S B b h C r vb vr aF sF w) : Ints w vr (r.reverse.map Int.ofNat) := by
 have h1 := Row.of_owns p.rw
 unfold Ints
 rw [List.map_map]
 have : (Value.int IntKind.i64 ∘ Int.ofNat) = fun i : Nat => Value.int .i64 (i : Int) := rfl
 rw [this, List.length_map, List.length_reverse]
 exact h1
theorem PlIs.form (p : PlIs W S B b h C r vb vr aF sF w) : ∃ ao cap, vr = .slice ao r.length cap := by
 obtain ⟨ao, cap, e, _⟩ := p.row.form
 rw [List.length_map, List.length_reverse] at e
 exact ⟨ao, cap, e⟩
theorem nodup_len : ∀ (n : Nat) (l : List Nat), l.Nodup → (∀ k ∈ l, k < n) → l.length ≤ n
 | 0, [], _, _ => Nat.le_refl _
 | 0, k :: l, _, h => absurd (h k (List.mem_cons_self ..)) (by omega)
 | n + 1, l, hn, h => by
  by_cases hm : n ∈ l
  ·have h1 := nodup_len n (l.erase n) (hn.erase n) (fun k hk => by
    have := (hn.mem_erase_iff).1 hk
    have := h k this.2
    omega)
   have h2 := List.length_erase_of_mem hm
   have h3 := List.length_pos_of_mem hm
   omega
  ·have := nodup_len n l hn (fun k hk => by
    have := h k hk
    have : k ≠ n := fun e => hm (by rw [← e]; exact hk)
    omega)
   omega
theorem PlIs.len (p : PlIs W S B b h C r vb vr aF sF w) : r.length ≤ h.length := nodup_len _ _ p.nd p.lt
theorem pdone_any (p : PlIs W S B b h C r vb vr aF sF w) : Calls Tryz.prog 123 #[.pointer (some ⟨S, 0, none⟩)] w fun e w' => e = .returned (.bool (decide (r.length = h.length))) ∧ Below w.heap.size w w' := by
 have h1 := p.a.cR
 have h0 := p.a.cO
 have h2 := p.ord.blk.cN
 obtain ⟨ao, cap, rfl⟩ := p.form
 have HE : Hid ((((r.length : Int) == (h.length : Int)) : Bool) = decide (r.length = h.length)) := hid (by
  rw [Bool.eq_iff_iff, beq_iff_eq, decide_eq_true_eq]; omega)
 generalize decide (r.length = h.length) = x at *
 clear p
 go_enter Tryz.func123, Tryz.ntmps123
 go_wp2_with fail
 go_quiet (fail)
 go_wp2_with fail
 go_ret
 exact ⟨ret_b HE.out, below_drewN (Below.refl _ _) _⟩
def plSeeI (h : List TxnV) (C : Nat) (r : List Nat) (i : Int) : Nat := if hasB (plS r) i then plSee h C r i.toNat else 0
theorem plSeeI_set (h : List TxnV) (C : Nat) (r : List Nat) (i : Int) : IsSet (plSeeI h C r i) := by
 unfold plSeeI; split
 ·exact plSee_set h C r _
 ·unfold IsSet; omega
theorem psees_any (i : Int) (p : PlIs W S B b h C r vb vr aF sF w) (h64 : h.length ≤ 64) : Calls Tryz.prog 131 #[.pointer (some ⟨S, 0, none⟩), .int .i64 i] w fun e w' => e = .returned (.int .u64 ((plSeeI h C r i : Nat) : Int)) ∧ w = w' := by
 have h1 := p.a.cP
 have hset := plS_set r
 have hlt64 : ∀ k ∈ r, k < 64 := fun k hk => by have := p.lt k hk; omega
 have CH := hid (fun wx => has_any (plS r) i wx hset)
 cases hh : hasB (plS r) i with
 | false =>
  have HV : Hid ((0 : Int) = ((plSeeI h C r i : Nat) : Int)) := hid (by unfold plSeeI; rw [hh]; rfl)
  rw [hh] at CH
  clear hh hset p
  generalize plS r = s at *
  go_enter Tryz.func131, Tryz.ntmps131
  go_wp2_with fail
  refine (CH.out _).mono ?_
  rintro e w1 ⟨rfl, rfl⟩
  go_wp2_with fail
  go_ret
  exact ⟨ret_i HV.out, rfl⟩
 | true =>
  have hb2 := hh
  unfold hasB at hb2
  rw [Bool.and_eq_true, decide_eq_true_eq] at hb2
  obtain ⟨⟨hi0, hi64⟩, hb2⟩ := hb2
  obtain ⟨k, rfl⟩ := Int.eq_ofNat_of_zero_le hi0
  rw [Int.toNat_natCast] at hb2
  have hk64 : k < 64 := by omega
  have hkr : k ∈ r := by rw [plS_bit k r hlt64, decide_eq_true_eq] at hb2; exact hb2
  have h3 := p.a.cS hk64
  rw [(p.eq k hkr).2] at h3
  have HV : Hid (((plSee h C r k : Nat) : Int) = ((plSeeI h C r (k : Int) : Nat) : Int)) := hid (by unfold plSeeI; rw [hh]; rfl)
  rw [hh] at CH
  clear hh hset p hb2 hkr hlt64
  generalize plS r = s at *
  generalize plSee h C r k = y at *
  go_enter Tryz.func131, Tryz.ntmps131
  go_wp2_with fail
  refine (CH.out _).mono ?_
  rintro e w1 ⟨rfl, rfl⟩
  go_wp2_with fail
  go_ret
  exact ⟨ret_i HV.out, rfl⟩
end
theorem joinF_fold (F : Nat → Nat) : ∀ (l : List Nat) (s : Nat), l.foldl (fun s k => s ||| F k) s = s ||| joinL F l
 | [], s => by rw [joinL_nil]; simp
 | k :: l, s => by
  have e : joinL F (k :: l) = F k ||| joinL F l := by
   show l.foldl _ (0 ||| F k) = _
   rw [joinF_fold F l, Nat.zero_or]
  rw [List.foldl_cons, joinF_fold F l, e, Nat.or_assoc]
theorem joinN_step {F : Nat → Nat} {c : Nat} (hne : lst c ≠ []) (a : Nat) : a ||| joinN F c = (a ||| F (fst c)) ||| joinN F (woS c (fst c : Int)) := by
 have e : lst c = fst c :: lst (woS c (fst c : Int)) := by
  have := lst_step (S := c) (c := c) (acc := []) (by simp) hne
  simpa using this
 unfold joinN
 rw [e]
 show a ||| (lst (woS c (fst c : Int))).foldl _ (0 ||| F (fst c)) = _
 rw [joinF_fold, Nat.zero_or, Nat.or_assoc]
theorem joined_any (S o : Nat) (F : Nat → Nat) (s : Nat) (w : World) (hs : IsSet s) (hF : ∀ k, k < 64 → IsSet (F k)) (hcell : ∀ k, k < 64 → w.cell? ⟨S, o + k, none⟩ = some (.int .u64 ((F k : Nat) : Int))) (ht : Tab w) :
  Calls Tryz.prog 210 #[.int .u64 (s : Int), .pointer (some ⟨S, o, none⟩)] w fun e w' => e = .returned (.int .u64 ((joinN F s : Nat) : Int)) ∧ Below w.heap.size w w' := by
 have HT := hid (fun wx (hx : Below w.heap.size w wx) => ht.below hx ht.pos)
 have HC := hid (fun wx (hx : Below w.heap.size w wx) k (hk : k < 64) => (hx.cell (p := ⟨S, o + k, none⟩) (block_lt (hcell k hk))).trans (hcell k hk))
 have HF := hid hF
 have HV : Hid (joinN F s = 0 ||| joinN F s) := hid (Nat.zero_or _).symm
 clear hcell ht hF
 go_enter Tryz.func210, Tryz.ntmps210
 go_wp2_with fail
 go_loopw [0, 5] (fun v x wr => ∃ c a : Nat, IsSet c ∧ IsSet a ∧ v = .int .u64 (c : Int) ∧ x = .int .u64 (a : Int) ∧ Hid (joinN F s = a ||| joinN F c) ∧ Below w.heap.size w wr)
  (fun v _ _ => (lst (intOf v).toNat).length)
 case atStart => exact ⟨s, 0, hs, by unfold IsSet; omega, rfl, rfl, HV, Below.refl _ _⟩
 case round =>
  clear HV
  obtain ⟨c, a, hc, ha, rfl, rfl, HJ, hb⟩ := hrel
  rcases Nat.eq_zero_or_pos c with h0 | h0
  ·subst h0
   have HR : Hid (((a : Nat) : Int) = ((joinN F s : Nat) : Int)) := hid (by rw [HJ.out]; unfold joinN; rw [lst_zero, joinL_nil, Nat.or_zero])
   go_wp2_with fail
   go_ret
   exact ⟨ret_i HR.out, hb⟩
  ·have hne := lst_ne hc h0
   have h0i : ((c : Int) != 0) = true := by rw [bne_iff_ne]; omega
   have hwo := isSet_woS (n := (fst c : Int)) hc
   have hfl : fst c < 64 := fst_lt hne
   have HN : Hid (joinN F s = (a ||| F (fst c)) ||| joinN F (woS c (fst c : Int))) := hid (by rw [HJ.out, joinN_step hne])
   have HD := hid (lst_less hne)
   have hff := HF.out _ hfl
   have hor := isSet_or ha hff
   have HOR : Hid (Go.bits .or .u64 (a : Int) ((F (fst c) : Nat) : Int) = ((a ||| F (fst c) : Nat) : Int)) := hid (Go.bits_or_u64_nat _ _ ha hff)
   have CF := hid (fun n => (first_any c (wr.drewN n) hc (HT.out _ (below_drewN hb n))).mono fun _ _ h => And.intro h.1 h.2.symm)
   have CF2 := hid (fun wx (hx : Below w.heap.size w wx) => first_any c wx hc (HT.out _ hx))
   have CW := hid (fun wx => wo_any c (fst c : Int) wx hc)
   have hcell := HC.out _ hb _ hfl
   generalize woS c (fst c : Int) = c2 at *
   generalize F (fst c) = y at *
   generalize fst c = f at *
   have hfi : (f : Int) < 64 := by omega
   clear hne HJ h0
   go_wp2_with fail
   go_quiet ((go_at_call 181; exact Calls.quiet_of_same (CF.out _)))
   rw [HOR.out]
   have hb2 := below_drewN hb nq
   generalize wr.drewN nq = w2 at *
   go_wp2_with (first
    | (go_at_call 181; refine (CF2.out _ hb2).mono ?_; rintro e w' ⟨rfl, rfl⟩)
    | (go_at_call 171; refine (CW.out _).mono ?_; rintro e w' ⟨rfl, rfl⟩))
   go_roundw
   case rel => exact ⟨c2, a ||| y, hwo, hor, rfl, rfl, HN, hb2⟩
   case measure => simp only [intOf, Int.toNat_natCast]; exact HD.out
end

section
open Go.RowKit
theorem hasB_nat {s : Nat} {n : Nat} (hn : n < 64) : hasB s (n : Int) = s.testBit n := by
 unfold hasB
 rw [decide_eq_true (by omega), Bool.true_and, Int.toNat_natCast]
theorem lastI_snoc (l : List Int) (a : Int) (s : Nat) : lastI (l ++ [a]) s = if hasB s a then a else lastI l s := by
 unfold lastI lastTo
 rw [List.take_length, List.take_length, List.foldl_append]
 rfl
theorem least_base {h : List TxnV} {x : Nat} {l : List Int} {R : Mat} (hx : x < 9223372036854775808) (hR : LeastIs h x l R) {i j : Nat} (hi : i < 64) (hj : j < 64)
  (hb : froM h i j = true ∨ (x.testBit 0 = true ∧ sesM h i j = true) ∨ (x.testBit 5 = true ∧ timM h i j = true) ∨ (x.testBit 3 = true ∧ rivM h (chainR l) i j = true) ∨ (x.testBit 4 = true ∧ chainR l i j = true)) : R i j = true := by
 refine (hR i j hi hj).2 (.base ((startM_iff h x hx _ i j).2 ?_))
 rw [baseM_iff h x hx]
 rcases hb with hb | hb | hb | hb | hb
 ·exact .inl (.inl hb)
 ·exact .inl (.inr (.inl hb))
 ·exact .inl (.inr (.inr hb))
 ·exact .inr (.inl hb)
 ·exact .inr (.inr hb)
end

section
open Go.RowKit
section
variable {b pl rv C : Nat} {sF aF : Nat → Nat}
theorem wld1_base {j : Nat} (h : b.testBit j = true) : (wld1 b pl C).testBit j = true := by
 unfold wld1; split
 ·rw [Nat.testBit_or, h]; rfl
 ·exact h
theorem wld2_up {j : Nat} (h : (wld1 b pl C).testBit j = true) : (wld2 b pl rv C).testBit j = true := by
 unfold wld2; split
 ·rw [Nat.testBit_or, h]; rfl
 ·exact h
theorem wld3_up {j : Nat} (h : (wld2 b pl rv C).testBit j = true) : (wld3 b pl rv C sF).testBit j = true := by
 unfold wld3; split
 ·rw [Nat.testBit_or, h]; rfl
 ·exact h
theorem wld4_up {j : Nat} (h : (wld3 b pl rv C sF).testBit j = true) : (wld4 b pl rv C sF aF).testBit j = true := by
 unfold wld4; split
 ·rw [Nat.testBit_or, h]; rfl
 ·exact h
theorem wld4_base {j : Nat} (h : b.testBit j = true) : (wld4 b pl rv C sF aF).testBit j = true := wld4_up (wld3_up (wld2_up (wld1_base h)))
theorem wld4_all {j : Nat} (hc : C.testBit 4 = true) (h : pl.testBit j = true) : (wld4 b pl rv C sF aF).testBit j = true := by
 refine wld4_up (wld3_up (wld2_up ?_))
 unfold wld1
 rw [if_pos hc, Nat.testBit_or, h, Bool.or_true]
theorem wld4_riv {j : Nat} (hc : C.testBit 3 = true) (h : rv.testBit j = true) (h2 : pl.testBit j = true) : (wld4 b pl rv C sF aF).testBit j = true := by
 refine wld4_up (wld3_up ?_)
 unfold wld2
 rw [if_pos hc, Nat.testBit_or, Nat.testBit_and, h, h2, Bool.and_true, Bool.or_true]
theorem wld4_least {Y : Nat → Prop} (hb : ∀ j, b.testBit j = true → Y j) (h4 : C.testBit 4 = true → ∀ j, pl.testBit j = true → Y j) (h3 : C.testBit 3 = true → ∀ j, rv.testBit j = true → pl.testBit j = true → Y j)
  (h1 : C.testBit 1 = true → ∀ m j, m < 64 → Y m → (sF m).testBit j = true → Y j) (h2 : C.testBit 2 = true → ∀ m j, m < 64 → Y m → (aF m).testBit j = true → Y j) {j : Nat} (h : (wld4 b pl rv C sF aF).testBit j = true) : Y j := by
 have y1 : ∀ j, (wld1 b pl C).testBit j = true → Y j := by
  intro j hj
  unfold wld1 at hj
  split at hj
  ·rename_i hc; rw [Nat.testBit_or, Bool.or_eq_true] at hj; exact hj.elim (hb j) (h4 hc j)
  ·exact hb j hj
 have y2 : ∀ j, (wld2 b pl rv C).testBit j = true → Y j := by
  intro j hj
  unfold wld2 at hj
  split at hj
  ·rename_i hc; rw [Nat.testBit_or, Bool.or_eq_true, Nat.testBit_and, Bool.and_eq_true] at hj; exact hj.elim (y1 j) (fun q => h3 hc j q.1 q.2)
  ·exact y1 j hj
 have y3 : ∀ j, (wld3 b pl rv C sF).testBit j = true → Y j := by
  intro j hj
  unfold wld3 at hj
  split at hj
  ·rename_i hc; rw [Nat.testBit_or, Bool.or_eq_true, joinN_iff] at hj
   rcases hj with hj | ⟨k, hk, q1, q2⟩
   ·exact y2 j hj
   ·exact h1 hc k j hk (y2 k q1) q2
  ·exact y2 j hj
 unfold wld4 at h
 split at h
 ·rename_i hc; rw [Nat.testBit_or, Bool.or_eq_true, joinN_iff] at h
  rcases h with hj | ⟨k, hk, q1, q2⟩
  ·exact y3 j hj
  ·exact h2 hc k j hk (y3 k q1) q2
 ·exact y3 j h
theorem wld4_closed (_ : ∀ k j, (aF k).testBit j = true → j < 64) (h64 : ∀ m, (wld4 b pl rv C sF aF).testBit m = true → m < 64) (hsa : ∀ k j, (sF k).testBit j = true → (aF k).testBit j = true)
  (hs : C.testBit 1 = true → ∀ k m j, (sF k).testBit m = true → (sF m).testBit j = true → (sF k).testBit j = true)
  (ha : ∀ k m j, (aF k).testBit m = true → (aF m).testBit j = true → (aF k).testBit j = true) :
  (C.testBit 1 = true → ∀ m j, (wld4 b pl rv C sF aF).testBit m = true → (sF m).testBit j = true → (wld4 b pl rv C sF aF).testBit j = true) ∧
  (C.testBit 2 = true → ∀ m j, (wld4 b pl rv C sF aF).testBit m = true → (aF m).testBit j = true → (wld4 b pl rv C sF aF).testBit j = true) := by
 have P2 : C.testBit 2 = true → ∀ m j, (wld4 b pl rv C sF aF).testBit m = true → (aF m).testBit j = true → (wld4 b pl rv C sF aF).testBit j = true := by
  intro hc m j hm hj
  have hm64 := h64 m hm
  unfold wld4 at hm ⊢
  rw [if_pos hc, Nat.testBit_or, Bool.or_eq_true, joinN_iff] at hm ⊢
  rcases hm with hm | ⟨k, hk, q1, q2⟩
  ·exact .inr ⟨m, hm64, hm, hj⟩
  ·exact .inr ⟨k, hk, q1, ha k m j q2 hj⟩
 refine ⟨fun hc m j hm hj => ?_, P2⟩
 by_cases c2 : C.testBit 2 = true
 ·exact P2 c2 m j hm (hsa m j hj)
 ·have e : wld4 b pl rv C sF aF = wld3 b pl rv C sF := by unfold wld4; rw [if_neg c2]
  have hm64 := h64 m hm
  rw [e] at hm ⊢
  unfold wld3 at hm ⊢
  rw [if_pos hc, Nat.testBit_or, Bool.or_eq_true, joinN_iff] at hm ⊢
  rcases hm with hm | ⟨k, hk, q1, q2⟩
  ·exact .inr ⟨m, hm64, hm, hj⟩
  ·exact .inr ⟨k, hk, q1, hs hc k m j q2 hj⟩
end
structure RowG (h : List TxnV) (C : Nat) (r : List Nat) : Prop where
 nd : r.Nodup
 lt : ∀ k ∈ r, k < 64
 base : ∀ k ∈ r, ∀ j, (baseN h C k).testBit j = true → (aheadL r k).testBit j = true
section
variable {h : List TxnV} {C : Nat}
theorem RowG.tail {i : Nat} {r : List Nat} (g : RowG h C (i :: r)) : RowG h C r :=
 ⟨(List.nodup_cons.1 g.nd).2, fun k hk => g.lt k (List.mem_cons_of_mem _ hk), (base_tail (List.nodup_cons.1 g.nd).1 g.base).1⟩
theorem RowG.head {i : Nat} {r : List Nat} (g : RowG h C (i :: r)) : ∀ j, (baseN h C i).testBit j = true → (plS r).testBit j = true := (base_tail (List.nodup_cons.1 g.nd).1 g.base).2
theorem aheadL_tail {i k : Nat} {r : List Nat} (hne : k ≠ i) : aheadL (i :: r) k = aheadL r k := by rw [aheadL, if_neg hne]
theorem plSee_tail {i k : Nat} {r : List Nat} (hne : k ≠ i) : plSee h C (i :: r) k = plSee h C r k := by rw [plSee, if_neg hne]
theorem plS_mem {r : List Nat} (hlt : ∀ k ∈ r, k < 64) {j : Nat} (hj : (plS r).testBit j = true) : j ∈ r := by rw [plS_bit j r hlt, decide_eq_true_eq] at hj; exact hj
theorem aheadL_mem {r : List Nat} (hlt : ∀ k ∈ r, k < 64) {k j : Nat} (hj : (aheadL r k).testBit j = true) : j ∈ r := plS_mem hlt (ahead_in hlt hj)
theorem aheadL_out : ∀ {r : List Nat} {k : Nat}, k ∉ r → aheadL r k = 0
 | [], _, _ => rfl
 | i :: r, k, hk => by
  rw [aheadL_tail (fun e => hk (by rw [e]; exact List.mem_cons_self ..)), aheadL_out (fun q => hk (List.mem_cons_of_mem _ q))]
theorem aheadL_trans : ∀ {r : List Nat}, r.Nodup → (∀ k ∈ r, k < 64) → ∀ {k m j : Nat}, (aheadL r k).testBit m = true → (aheadL r m).testBit j = true → (aheadL r k).testBit j = true
 | [], _, _, k, m, j, h1, _ => by unfold aheadL at h1; simp at h1
 | i :: r, hnd, hlt, k, m, j, h1, h2 => by
  obtain ⟨hi, hnd'⟩ := List.nodup_cons.1 hnd
  have hlt' : ∀ a ∈ r, a < 64 := fun a ha => hlt a (List.mem_cons_of_mem _ ha)
  by_cases e : k = i
  ·subst e
   rw [aheadL, if_pos rfl] at h1 ⊢
   have hm := plS_mem hlt' h1
   rw [aheadL_tail (fun e => hi (by rw [← e]; exact hm))] at h2
   exact ahead_in hlt' h2
  ·rw [aheadL_tail e] at h1 ⊢
   have hm := aheadL_mem hlt' h1
   rw [aheadL_tail (fun e => hi (by rw [← e]; exact hm))] at h2
   exact aheadL_trans hnd' hlt' h1 h2
theorem sees_closed : ∀ {r : List Nat}, RowG h C r → (C.testBit 1 = true → ∀ k m j, (plSee h C r k).testBit m = true → (plSee h C r m).testBit j = true → (plSee h C r k).testBit j = true) ∧
  (C.testBit 2 = true → ∀ k m j, (plSee h C r k).testBit m = true → (aheadL r m).testBit j = true → (plSee h C r k).testBit j = true)
 | [], _ => ⟨fun _ k m j h1 _ => by unfold plSee at h1; simp at h1, fun _ k m j h1 _ => by unfold plSee at h1; simp at h1⟩
 | i :: r, g => by
  obtain ⟨hi, hnd'⟩ := List.nodup_cons.1 g.nd
  have gt := g.tail
  obtain ⟨I1, I2⟩ := sees_closed gt
  have hin : ∀ m, (wld4 (baseN h C i) (plS r) (rivN h i) C (plSee h C r) (aheadL r)).testBit m = true → (plS r).testBit m = true := fun m hm =>
   wld4_in g.head (fun k j _ hj => ahead_in gt.lt (sees_ahead gt.lt gt.nd gt.base hj)) (fun k j _ hj => ahead_in gt.lt hj) hm
  obtain ⟨N1, N2⟩ := wld4_closed (b := baseN h C i) (pl := plS r) (rv := rivN h i) (C := C) (sF := plSee h C r) (aF := aheadL r) (fun k j hj => gt.lt j (aheadL_mem gt.lt hj)) (fun m hm => gt.lt m (plS_mem gt.lt (hin m hm)))
   (fun k j hj => sees_ahead gt.lt gt.nd gt.base hj) (fun hc k m j => I1 hc k m j) (fun k m j => aheadL_trans gt.nd gt.lt)
  constructor
  ·intro hc k m j h1 h2
   by_cases e : k = i
   ·subst e
    rw [plSee, if_pos rfl] at h1 ⊢
    have hm := plS_mem gt.lt (hin m h1)
    rw [plSee_tail (fun e => hi (by rw [← e]; exact hm))] at h2
    exact N1 hc m j h1 h2
   ·rw [plSee_tail e] at h1 ⊢
    have hm := aheadL_mem gt.lt (sees_ahead gt.lt gt.nd gt.base h1)
    rw [plSee_tail (fun e => hi (by rw [← e]; exact hm))] at h2
    exact I1 hc k m j h1 h2
  ·intro hc k m j h1 h2
   by_cases e : k = i
   ·subst e
    rw [plSee, if_pos rfl] at h1 ⊢
    have hm := plS_mem gt.lt (hin m h1)
    rw [aheadL_tail (fun e => hi (by rw [← e]; exact hm))] at h2
    exact N2 hc m j h1 h2
   ·rw [plSee_tail e] at h1 ⊢
    have hm := aheadL_mem gt.lt (sees_ahead gt.lt gt.nd gt.base h1)
    rw [aheadL_tail (fun e => hi (by rw [← e]; exact hm))] at h2
    exact I2 hc k m j h1 h2
theorem sees_fix : ∀ {r : List Nat}, RowG h C r → ∀ k, k ∈ r → plSee h C r k = wld4 (baseN h C k) (aheadL r k) (rivN h k) C (plSee h C r) (aheadL r)
 | [], _, k, hk => by cases hk
 | i :: r, g, k, hk => by
  obtain ⟨hi, hnd'⟩ := List.nodup_cons.1 g.nd
  have gt := g.tail
  have hS : ∀ k j, (plSee h C r k).testBit j = true → (plS r).testBit j = true := fun k j hj => ahead_in gt.lt (sees_ahead gt.lt gt.nd gt.base hj)
  by_cases e : k = i
  ·subst e
   rw [show aheadL (k :: r) k = plS r by rw [aheadL, if_pos rfl]]
   conv => lhs; rw [plSee, if_pos rfl]
   refine wld4_congr g.head (fun m hm hp => ?_) (fun m j _ => hS m j)
   have hne : m ≠ k := fun e => hi (by rw [← e]; exact plS_mem gt.lt hp)
   rw [plSee_tail hne, aheadL_tail hne]; exact ⟨rfl, rfl⟩
  ·have hkr : k ∈ r := by rcases List.mem_cons.1 hk with q | q; exact (e q).elim; exact q
   rw [plSee_tail e, aheadL_tail e, sees_fix gt k hkr]
   refine wld4_congr (gt.base k hkr) (fun m hm hp => ?_) (fun m j hp hj => aheadL_trans gt.nd gt.lt hp (sees_ahead gt.lt gt.nd gt.base hj))
   have hne : m ≠ i := fun e => hi (by rw [← e]; exact aheadL_mem gt.lt hp)
   rw [plSee_tail hne, aheadL_tail hne]; exact ⟨rfl, rfl⟩
theorem ahead_snoc {a b c : Int} : ∀ {L : List Int}, Ahead (L ++ [c]) a b ↔ Ahead L a b ∨ (a ∈ L ∧ b = c)
 | [] => by simp [Ahead]
 | d :: L => by
  show Ahead (L ++ [c]) a b ∨ (d = a ∧ b ∈ L ++ [c]) ↔ (Ahead L a b ∨ (d = a ∧ b ∈ L)) ∨ (a ∈ d :: L ∧ b = c)
  rw [ahead_snoc, List.mem_append, List.mem_singleton, List.mem_cons]
  constructor
  ·rintro ((q | ⟨q1, q2⟩) | ⟨q1, q2 | q2⟩)
   ·exact .inl (.inl q)
   ·exact .inr ⟨.inr q1, q2⟩
   ·exact .inl (.inr ⟨q1, q2⟩)
   ·exact .inr ⟨.inl q1.symm, q2⟩
  ·rintro ((q | ⟨q1, q2⟩) | ⟨q1 | q1, q2⟩)
   ·exact .inl (.inl q)
   ·exact .inr ⟨q1, .inl q2⟩
   ·exact .inr ⟨q1.symm, .inr q2⟩
   ·exact .inl (.inr ⟨q1, q2⟩)
theorem ahead_chain {r : List Nat} (hnd : r.Nodup) (hlt : ∀ k ∈ r, k < 64) (j k : Nat) : chainR (r.reverse.map Int.ofNat) j k = true ↔ (aheadL r k).testBit j = true := by
 rw [chainR_iff]
 induction r with
 | nil => simp [Ahead, aheadL]
 | cons i r ih =>
  obtain ⟨hi, hnd'⟩ := List.nodup_cons.1 hnd
  have hlt' : ∀ a ∈ r, a < 64 := fun a ha => hlt a (List.mem_cons_of_mem _ ha)
  have ih := ih hnd' hlt'
  rw [List.reverse_cons, List.map_append, List.map_cons, List.map_nil, ahead_snoc, ih]
  have hmem : ((j : Int) ∈ r.reverse.map Int.ofNat) ↔ j ∈ r := by
   rw [List.mem_map]
   exact ⟨fun ⟨a, ha, e⟩ => by have : a = j := Int.ofNat.inj e; rw [← this]; exact List.mem_reverse.1 ha, fun q => ⟨j, List.mem_reverse.2 q, rfl⟩⟩
  rw [hmem]
  by_cases e : k = i
  ·subst e
   rw [aheadL, if_pos rfl, plS_bit j r hlt', decide_eq_true_eq, aheadL_out hi]
   simp
  ·rw [aheadL_tail e]
   constructor
   ·rintro (q | ⟨_, q⟩)
    ·exact q
    ·exact (e (Int.ofNat.inj q)).elim
   ·exact fun q => .inl q
end
end

section
open Go.RowKit
theorem heap_set_far (w : World) (p : Addr) (u : Value) (k : Nat) (hk : k ≠ p.block) : (w.setCell p u).heap[k]? = w.heap[k]? := Below.heap_setCell w p u k (fun e => hk e)
theorem PlStep.setCell {S : Nat} {v1 v2 : Value} {w w' : World} (h : PlStep S v1 v2 w w') (o : Nat) (u : Value) : PlStep S v1 v2 w (w'.setCell ⟨S, o, none⟩ u) := by
 refine ⟨h.os, h.tape, h.output, by have := h.size; simpa using this, fun k hk hs hv => ?_, h.own⟩
 rw [heap_set_far w' ⟨S, o, none⟩ u k hs]
 exact h.block k hk hs hv
theorem PlStep.below {S : Nat} {v1 v2 : Value} {w w' w'' : World} (h : PlStep S v1 v2 w w') (hb : Below w'.heap.size w' w'') : PlStep S v1 v2 w w'' := h.trans (.of_below hb)
theorem PlStep.grown {S : Nat} {v1 v2 v3 : Value} {w w' w'' : World} (h : PlStep S v1 v2 w w') (hg : w'.grownBy w'' v2.ownBlock) (ho : ∀ g, v3.ownBlock = some g → v2.ownBlock = some g ∨ g = w'.heap.size) : PlStep S v1 v3 w w'' := by
 refine ⟨hg.os.trans h.os, hg.tape.trans h.tape, hg.output.trans h.output, Nat.le_trans h.size hg.size, fun k hk hs hv => ?_, fun g hgo => ?_⟩
 ·refine (hg.block k (Nat.lt_of_lt_of_le hk h.size) (fun e => ?_)).trans (h.block k hk hs hv)
  rcases h.own k e.symm with q | q
  ·exact hv q
  ·omega
 ·rcases ho g hgo with q | q
  ·exact h.own g q
  ·exact .inr (by have := h.size; omega)
theorem PlStep.as {S : Nat} {v1 v2 v3 : Value} {w w' : World} (h : PlStep S v1 v2 w w') (e : v3.ownBlock = v2.ownBlock) : PlStep S v1 v3 w w' := ⟨h.os, h.tape, h.output, h.size, h.block, fun g hg => h.own g (by rw [← e]; exact hg)⟩
theorem owns_less {w : World} {base n cap : Nat} {e : TypeId} {ao : Option Addr} {xs : List Value} {x : Value} (h : w.ownsRow base e 1 (.slice ao (n + 1) cap) (n + 1) (xs ++ [x])) : w.ownsRow base e 1 (.slice ao n cap) n xs := by
 obtain ⟨hl, h⟩ := h
 have hn : xs.length = n := by simp at hl; omega
 refine ⟨by omega, ?_⟩
 rcases h with ⟨hv, h0⟩ | ⟨g, cap', cur, hv, hb, hh, hc, hm, hs, ht⟩
 ·omega
 ·obtain ⟨e1, e2, e3⟩ : ao = some ⟨g, 0, none⟩ ∧ n + 1 = n + 1 ∧ cap = cap' := by simpa using hv
  subst e1 e3
  refine .inr ⟨g, cap, cur, rfl, hb, hh, by omega, hm, hs, ?_⟩
  have := congrArg (List.take (n * 1)) ht
  rw [List.take_take, Nat.min_eq_left (by omega)] at this
  rw [this, Nat.mul_one, ← hn, List.take_left]
theorem own_len (ao : Option Addr) (n m c d : Nat) : (Value.slice ao n c).ownBlock = (Value.slice ao m d).ownBlock := by cases ao <;> rfl
section
variable {W : World} {S B b : Nat} {h : List TxnV} {C : Nat} {r : List Nat} {vb vr : Value} {aF sF : Nat → Nat} {w : World}
theorem PlIs.undo {i : Nat} {ao : Option Addr} {cap : Nat} (p : PlIs W S B b h C (i :: r) vb (.slice ao (r.length + 1) cap) aF sF w) :
  PlIs W S B b h C r vb (.slice ao r.length cap) aF sF ((w.setCell ⟨S, 3, none⟩ (.slice ao r.length cap)).setCell ⟨S, 4, none⟩ (.int .u64 ((plS r : Nat) : Int))) ∧
  PlStep S (.slice ao (r.length + 1) cap) (.slice ao r.length cap) w ((w.setCell ⟨S, 3, none⟩ (.slice ao r.length cap)).setCell ⟨S, 4, none⟩ (.int .u64 ((plS r : Nat) : Int))) := by
 obtain ⟨hi, hnd⟩ := List.nodup_cons.1 p.nd
 have hrw := p.rw
 rw [List.reverse_cons, List.map_append, List.length_cons] at hrw
 have hne : ∀ k ∈ r, k ≠ i := fun k hk e => hi (by rw [← e]; exact hk)
 refine ⟨⟨p.o, p.t, (p.bel.setCell (p := ⟨S, 3, none⟩) p.low _).setCell (p := ⟨S, 4, none⟩) p.low _, p.low, (p.a.setR _).setP _, pl_far (pl_far p.ba (by simp) _) (by simp) _, pl_far (pl_far (owns_less hrw) (by simp) _) (by simp) _, fun g hg e => p.ne g hg (by rw [own_len ao (r.length + 1) r.length cap cap]; exact e), p.set, fun k hk => ?_, hnd, fun k hk => p.lt k (List.mem_cons_of_mem _ hk), (base_tail hi p.base).1⟩, ?_⟩
 ·have := p.eq k (List.mem_cons_of_mem _ hk)
  rw [aheadL_tail (hne k hk), plSee_tail (hne k hk)] at this
  exact this
 ·exact (((PlStep.refl S _ w).setCell 3 _).setCell 4 _).as (own_len _ _ _ _ _)
structure PlRaw (W : World) (S B C : Nat) (h : List TxnV) (r : List Nat) (vb vr : Value) (aF sF : Nat → Nat) (w0 w : World) : Prop where
 bel : Below W.heap.size W w
 low : W.heap.size ≤ S
 a : PlAt w S B C vb vr (plS r) aF sF
 ba : w.ownsRow (S + 1) 115 1 vb h.length ((List.range h.length).map fun i => .int .u64 ((baseN h C i : Nat) : Int))
 rw : w.ownsRow (S + 1) 3 1 vr r.length (r.reverse.map fun i : Nat => .int .i64 (i : Int))
 st : PlStep S vr vr w0 w
theorem PlIs.raw (p : PlIs W S B b h C r vb vr aF sF w) : PlRaw W S B C h r vb vr aF sF w w := ⟨p.bel, p.low, p.a, p.ba, p.rw, .refl _ _ _⟩
section
variable {w0 w' : World}
theorem PlRaw.below (p : PlRaw W S B C h r vb vr aF sF w0 w) (hb : Below w.heap.size w w') : PlRaw W S B C h r vb vr aF sF w0 w' :=
 ⟨p.bel.trans (hb.mono p.bel.size), p.low, p.a.below hb p.a.lt, owns_below p.ba hb, owns_below p.rw hb, p.st.below hb⟩
theorem PlRaw.setA (p : PlRaw W S B C h r vb vr aF sF w0 w) {k : Nat} (hk : k < 64) (s : Nat) : PlRaw W S B C h r vb vr (updN aF k s) sF w0 (w.setCell ⟨S, 5 + k, none⟩ (.int .u64 (s : Int))) :=
 ⟨p.bel.setCell (p := ⟨S, 5 + k, none⟩) p.low _, p.low, p.a.setA hk s, pl_far p.ba (by simp) _, pl_far p.rw (by simp) _, p.st.setCell _ _⟩
theorem PlRaw.setS (p : PlRaw W S B C h r vb vr aF sF w0 w) {k : Nat} (hk : k < 64) (s : Nat) : PlRaw W S B C h r vb vr aF (updN sF k s) w0 (w.setCell ⟨S, 69 + k, none⟩ (.int .u64 (s : Int))) :=
 ⟨p.bel.setCell (p := ⟨S, 69 + k, none⟩) p.low _, p.low, p.a.setS hk s, pl_far p.ba (by simp) _, pl_far p.rw (by simp) _, p.st.setCell _ _⟩
theorem updN_same (F : Nat → Nat) (i s : Nat) : updN F i s i = s := by unfold updN; rw [if_pos rfl]
theorem updN_other (F : Nat → Nat) {i k : Nat} (s : Nat) (hk : k ≠ i) : updN F i s k = F k := by unfold updN; rw [if_neg hk]
theorem PlRaw.app (p : PlRaw W S B C h r vb vr aF sF w0 w) (hne : ∀ g, vb.ownBlock = some g → vr.ownBlock ≠ some g) {w5 : World} {g cap n : Nat} {xs : List Value} (hown : w5.ownsRow (S + 1) 3 1 (.slice (some ⟨g, 0, none⟩) n cap) n xs) (hg : w.grownBy w5 vr.ownBlock) (hl : vr.ownBlock = some g ∨ g = w.heap.size) :
  Below W.heap.size W w5 ∧ PlAt w5 S B C vb vr (plS r) aF sF ∧ w5.ownsRow (S + 1) 115 1 vb h.length ((List.range h.length).map fun i => .int .u64 ((baseN h C i : Nat) : Int)) ∧ PlStep S vr (.slice (some ⟨g, 0, none⟩) n cap) w0 w5 ∧ ∀ k, vb.ownBlock = some k → k ≠ g := by
 have hS : vr.ownBlock ≠ some S := fun e => by have := (p.rw.lt _ e).1; omega
 refine ⟨p.bel.grown hg p.bel.size (fun k hk => ?_), p.a.grown hg (fun e => hS e.symm), p.ba.kept hg ?_, p.st.grown hg (fun k hk => ?_), fun k hk e => ?_⟩
 ·have := (p.rw.lt _ hk).1
  have := p.low
  omega
 ·cases hb : vb.ownBlock with
  | none => exact .inl rfl
  | some k => exact .inr (fun e => hne k hb e.symm)
 ·have e : g = k := by injection hk
  rcases hl with q | q
  ·exact .inl (by rw [← e]; exact q)
  ·exact .inr (by omega)
 ·subst e
  rcases hl with q | q
  ·exact hne k hk q
  ·have := (p.ba.lt _ hk).2
   omega
theorem PlIs.done (p : PlIs W S B b h C r vb vr aF sF w) {i s : Nat} (hi : i < h.length) (hin : i ∉ r) (hbs : ∀ j, (baseN h C i).testBit j = true → (plS r).testBit j = true) (h64 : h.length ≤ 64) (hs : s = nextN h C r i) {w4 w5 : World} (q : PlRaw W S B C h r vb vr (updN aF i (plS r)) (updN sF i s) w w4)
  {g cap : Nat} (hown : w5.ownsRow (S + 1) 3 1 (.slice (some ⟨g, 0, none⟩) (r.length + 1) cap) (r.length + 1) ((r.reverse.map fun i : Nat => .int .i64 (i : Int)) ++ [.int .i64 (i : Int)])) (hg : w4.grownBy w5 vr.ownBlock) (hl : vr.ownBlock = some g ∨ g = w4.heap.size) :
  PlIs W S B b h C (i :: r) vb (.slice (some ⟨g, 0, none⟩) (r.length + 1) cap) (updN aF i (plS r)) (updN sF i s) ((w5.setCell ⟨S, 3, none⟩ (.slice (some ⟨g, 0, none⟩) (r.length + 1) cap)).setCell ⟨S, 4, none⟩ (.int .u64 ((plS (i :: r) : Nat) : Int))) ∧
  PlStep S vr (.slice (some ⟨g, 0, none⟩) (r.length + 1) cap) w ((w5.setCell ⟨S, 3, none⟩ (.slice (some ⟨g, 0, none⟩) (r.length + 1) cap)).setCell ⟨S, 4, none⟩ (.int .u64 ((plS (i :: r) : Nat) : Int))) := by
 obtain ⟨b5, a5, v5, s5, n5⟩ := q.app p.ne hown hg hl
 have hi64 : i < 64 := by omega
 have hset : IsSet s := by rw [hs]; exact wld4_set (baseN_set h C i) (plS_set r) (rivN_set h i) (fun k _ => plSee_set h C r k) (fun k _ => aheadL_set r k)
 refine ⟨⟨p.o, p.t, (b5.setCell (p := ⟨S, 3, none⟩) p.low _).setCell (p := ⟨S, 4, none⟩) p.low _, p.low, (a5.setR _).setP _, pl_far (pl_far v5 (by simp) _) (by simp) _, ?_, fun k hk e => n5 k hk (by injection e with e; exact e.symm), fun k hk => ?_, fun k hk => ?_, List.nodup_cons.2 ⟨hin, p.nd⟩, fun k hk => ?_, fun k hk j hj => ?_⟩, (s5.setCell 3 _).setCell 4 _⟩
 ·rw [List.reverse_cons, List.map_append, List.length_cons]
  exact pl_far (pl_far hown (by simp) _) (by simp) _
 ·by_cases e : k = i
  ·subst e; rw [updN_same, updN_same]; exact ⟨plS_set r, hset⟩
  ·rw [updN_other _ _ e, updN_other _ _ e]; exact p.set k hk
 ·by_cases e : k = i
  ·subst e
   rw [updN_same, updN_same, aheadL, if_pos rfl, plSee, if_pos rfl, hs]
   exact ⟨rfl, rfl⟩
  ·rw [updN_other _ _ e, updN_other _ _ e, aheadL_tail e, plSee_tail e]
   rcases List.mem_cons.1 hk with q | q
   ·exact (e q).elim
   ·exact p.eq k q
 ·rcases List.mem_cons.1 hk with q | q
  ·omega
  ·exact p.lt k q
 ·by_cases e : k = i
  ·subst e
   rw [aheadL, if_pos rfl]
   exact hbs j hj
  ·rw [aheadL_tail e]
   rcases List.mem_cons.1 hk with q | q
   ·exact (e q).elim
   ·exact p.base k q j hj
end
end
end

section
open Go.RowKit
section
variable {W : World} {S B b : Nat} {h : List TxnV} {C : Nat} {r : List Nat} {vb vr : Value} {aF sF : Nat → Nat} {w : World}
theorem pundo_cons {i : Nat} (p : PlIs W S B b h C (i :: r) vb vr aF sF w) (h64 : h.length ≤ 64) : Calls Tryz.prog 129 #[.pointer (some ⟨S, 0, none⟩)] w fun e w' => e = .returned (.bool true) ∧ ∃ vr', PlIs W S B b h C r vb vr' aF sF w' ∧ PlStep S vr vr' w w' := by
 obtain ⟨ao, cap, rfl⟩ := p.form
 have hlen := p.len
 simp only [List.length_cons] at p hlen ⊢
 have HU := hid (fun wx (hx : Below w.heap.size w wx) => (p.below hx).undo)
 have HX := hid (fun wx (hx : Below w.heap.size w wx) => PlStep.of_below (S := S) (vr := .slice ao (r.length + 1) cap) hx)
 have hrow := p.row
 have hl1 : ((i :: r).reverse.map Int.ofNat).length = r.length + 1 := by simp
 obtain ⟨g, o, hao, hcell⟩ := Ints.at (ao := ao) (n := r.length + 1) (cap := cap) hrow (k := r.length) (by rw [hl1]; omega)
 subst hao
 have hval : ((i :: r).reverse.map Int.ofNat)[r.length]'(by rw [hl1]; omega) = (i : Int) := by simp
 rw [hval] at hcell
 have HS := hid (fun wx (hx : Below w.heap.size w wx) => And.intro (p.below hx).a.cR (And.intro (p.below hx).a.cP (And.intro ((hx.cell (p := ⟨g, o + r.length, none⟩) (block_lt hcell)).trans hcell) (And.intro ((p.below hx).a.free (i := 3) (by omega)) ((p.below hx).a.free (i := 4) (by omega))))))
 have hpop := plS_pop (i := i) (r := r) (List.nodup_cons.1 p.nd).1 (fun a ha => by have := p.lt a ha; omega)
 have CW := hid (fun wx => wo_any (plS (i :: r)) (i : Int) wx (plS_set _))
 rw [hpop] at CW
 have hr64 : (r.length : Int) < 64 := by omega
 have hr1 : (r.length : Int) + 1 - 1 = (r.length : Int) := by omega
 have hr2 : (r.length : Int) < (r.length : Int) + 1 := by omega
 have hc1 : r.length ≤ cap := by
  have := p.rw.2
  rcases this with ⟨e, _⟩ | ⟨_, _, _, e, _, _, hh, _⟩
  ·cases e
  ·simp only [Value.slice.injEq] at e
   simp only [List.length_cons] at hh
   omega
 have hc2 : (r.length : Int) ≤ (cap : Int) := by omega
 have kd0 := Below.refl w.heap.size w
 obtain ⟨n3, n4, _, _, _⟩ := HS.out _ kd0
 clear p hrow hl1 hval hcell hpop hlen
 generalize plS (i :: r) = s1 at *
 generalize plS r = s0 at *
 generalize r.length = n at *
 go_enter Tryz.func129, Tryz.ntmps129
 go_upto_region 4 with fail
 have kd := kd0.drew
 clear n3 n4 kd0
 refine wp_region_held_drew (S := fun _ => True) (by kernel_rfl) trivial (fun hS0 => ?_)
 generalize w.drew = wd at *
 obtain ⟨n3, n4, n5, f3, f4⟩ := HS.out _ kd
 refine tA (some 16) 0 rfl rfl hS0 ?_
 try simp only [Act.put, zA, zB, zC]
 refine tA (some 17) 1 rfl rfl hS0 ?_
 try simp only [Act.put, zA, zB, zC]
 refine tA (some 18) 2 rfl rfl hS0 ?_
 try simp only [Act.put, zA, zB, zC]
 refine tA (some 19) 3 rfl rfl hS0 ?_
 try simp only [Act.put, zA, zB, zC]
 refine tA (some 20) 4 rfl rfl hS0 ?_
 try simp only [Act.put, zA, zB, zC]
 refine tA (some 22) 6 rfl rfl hS0 ?_
 try simp only [Act.put, zA, zB, zC]
 refine tA (some 24) 8 rfl rfl hS0 ?_
 try simp only [Act.put, zA, zB, zC]
 refine tA (some 25) 9 rfl rfl hS0 ?_
 try simp only [Act.put, zA, zB, zC]
 refine tA (some 26) 10 rfl rfl hS0 ?_
 try simp only [Act.put, zA, zB, zC]
 refine tA (some 28) 12 rfl rfl hS0 ?_
 try simp only [Act.put, zA, zB, zC]
 refine tA (some 29) 13 rfl rfl hS0 ?_
 try simp only [Act.put, zA, zB, zC]
 refine tA (some 30) 14 rfl rfl hS0 ?_
 try simp only [Act.put, zA, zB, zC]
 refine tA (some 32) 16 rfl rfl hS0 ?_
 try simp only [Act.put, zA, zB, zC]
 refine wpAnyH_ready (rs := [5, 11, 15]) (by kernel_rfl) (by simp) ?_
 refine AllReadyH.cons rfl (fun K hK => ?_) (AllReadyH.cons rfl (fun K hK => ?_) (AllReadyH.cons rfl (fun K hK => ?_) AllReadyH.nil))
 ·
  go_simp
  refine hK.out _ _ trivial (fun _ => ?_)
  clear hK K
  refine tA (some 23) 7 rfl rfl hS0 ?_
  try simp only [Act.put, zA, zB, zC]
  refine wpAnyH_ready (rs := [11, 15]) (by kernel_rfl) (by simp) ?_
  refine AllReadyH.cons rfl (fun K hK => ?_) (AllReadyH.cons rfl (fun K hK => ?_) AllReadyH.nil)
  ·
   go_simp
   refine hK.out _ _ trivial (fun _ => ?_)
   clear hK K
   refine rD 15 rfl (fun K hK => ?_)
   go_simp
   refine hK.out _ _ trivial (fun _ => ?_)
   clear hK K
   refine tA (some 33) 17 rfl rfl hS0 ?_
   try simp only [Act.put, zA, zB, zC]
   refine rD 18 rfl (fun K hK => ?_)
   go_simp
   refine hK.out _ _ trivial (fun _ => ?_)
   clear hK K
   refine rD 19 rfl (fun K hK => ?_)
   go_simp
   refine (CW.out _).mono ?_
   rintro e y1 ⟨rfl, rfl⟩
   show K _ _
   refine hK.out _ _ trivial (fun _ => ?_)
   clear hK K
   refine tA (some 36) 20 rfl rfl hS0 ?_
   try simp only [Act.put, zA, zB, zC]
   refine tA (some 37) 21 rfl rfl hS0 ?_
   try simp only [Act.put, zA, zB, zC]
   refine rD 22 rfl (fun K hK => ?_)
   go_simp
   refine hK.out _ _ trivial (fun _ => ?_)
   clear hK K
   refine tA (some 38) 23 rfl rfl hS0 ?_
   try simp only [Act.put, zA, zB, zC]
   refine tA (some 39) 24 rfl rfl hS0 ?_
   try simp only [Act.put, zA, zB, zC]
   refine rD 25 rfl (fun K hK => ?_)
   have q4 : (World.setCell wd ⟨S, 3, none⟩ (.slice (some ⟨g, o, none⟩) n cap)).cell? ⟨S, 4, none⟩ = some (.int .u64 (s1 : Int)) := by rw [World.cell?_setCell_other _ _ _ _ (by simp)]; exact n4
   go_simp
   refine hK.out _ _ trivial (fun _ => ?_)
   clear hK K
   refine wpAnyH_done (by kernel_rfl) ?_ _
   have hu := HU.out _ kd
   have hx := HX.out _ kd
   go_wp2_with fail
   go_ret
   exact ⟨rfl, _, hu.1, hx.trans hu.2⟩
  ·
   go_simp
   refine hK.out _ _ trivial (fun _ => ?_)
   clear hK K
   refine tA (some 33) 17 rfl rfl hS0 ?_
   try simp only [Act.put, zA, zB, zC]
   refine wpAnyH_ready (rs := [11, 18]) (by kernel_rfl) (by simp) ?_
   refine AllReadyH.cons rfl (fun K hK => ?_) (AllReadyH.cons rfl (fun K hK => ?_) AllReadyH.nil)
   ·
    go_simp
    refine hK.out _ _ trivial (fun _ => ?_)
    clear hK K
    refine rD 18 rfl (fun K hK => ?_)
    go_simp
    refine hK.out _ _ trivial (fun _ => ?_)
    clear hK K
    refine rD 19 rfl (fun K hK => ?_)
    go_simp
    refine (CW.out _).mono ?_
    rintro e y1 ⟨rfl, rfl⟩
    show K _ _
    refine hK.out _ _ trivial (fun _ => ?_)
    clear hK K
    refine tA (some 36) 20 rfl rfl hS0 ?_
    try simp only [Act.put, zA, zB, zC]
    refine tA (some 37) 21 rfl rfl hS0 ?_
    try simp only [Act.put, zA, zB, zC]
    refine rD 22 rfl (fun K hK => ?_)
    go_simp
    refine hK.out _ _ trivial (fun _ => ?_)
    clear hK K
    refine tA (some 38) 23 rfl rfl hS0 ?_
    try simp only [Act.put, zA, zB, zC]
    refine tA (some 39) 24 rfl rfl hS0 ?_
    try simp only [Act.put, zA, zB, zC]
    refine rD 25 rfl (fun K hK => ?_)
    have q4 : (World.setCell wd ⟨S, 3, none⟩ (.slice (some ⟨g, o, none⟩) n cap)).cell? ⟨S, 4, none⟩ = some (.int .u64 (s1 : Int)) := by rw [World.cell?_setCell_other _ _ _ _ (by simp)]; exact n4
    go_simp
    refine hK.out _ _ trivial (fun _ => ?_)
    clear hK K
    refine wpAnyH_done (by kernel_rfl) ?_ _
    have hu := HU.out _ kd
    have hx := HX.out _ kd
    go_wp2_with fail
    go_ret
    exact ⟨rfl, _, hu.1, hx.trans hu.2⟩
   ·
    go_simp
    refine hK.out _ _ trivial (fun _ => ?_)
    clear hK K
    refine rD 11 rfl (fun K hK => ?_)
    go_simp
    refine hK.out _ _ trivial (fun _ => ?_)
    clear hK K
    refine rD 19 rfl (fun K hK => ?_)
    go_simp
    refine (CW.out _).mono ?_
    rintro e y1 ⟨rfl, rfl⟩
    show K _ _
    refine hK.out _ _ trivial (fun _ => ?_)
    clear hK K
    refine tA (some 36) 20 rfl rfl hS0 ?_
    try simp only [Act.put, zA, zB, zC]
    refine tA (some 37) 21 rfl rfl hS0 ?_
    try simp only [Act.put, zA, zB, zC]
    refine rD 22 rfl (fun K hK => ?_)
    go_simp
    refine hK.out _ _ trivial (fun _ => ?_)
    clear hK K
    refine tA (some 38) 23 rfl rfl hS0 ?_
    try simp only [Act.put, zA, zB, zC]
    refine tA (some 39) 24 rfl rfl hS0 ?_
    try simp only [Act.put, zA, zB, zC]
    refine rD 25 rfl (fun K hK => ?_)
    have q4 : (World.setCell wd ⟨S, 3, none⟩ (.slice (some ⟨g, o, none⟩) n cap)).cell? ⟨S, 4, none⟩ = some (.int .u64 (s1 : Int)) := by rw [World.cell?_setCell_other _ _ _ _ (by simp)]; exact n4
    go_simp
    refine hK.out _ _ trivial (fun _ => ?_)
    clear hK K
    refine wpAnyH_done (by kernel_rfl) ?_ _
    have hu := HU.out _ kd
    have hx := HX.out _ kd
    go_wp2_with fail
    go_ret
    exact ⟨rfl, _, hu.1, hx.trans hu.2⟩
 ·
  go_simp
  refine hK.out _ _ trivial (fun _ => ?_)
  clear hK K
  refine wpAnyH_ready (rs := [5, 15]) (by kernel_rfl) (by simp) ?_
  refine AllReadyH.cons rfl (fun K hK => ?_) (AllReadyH.cons rfl (fun K hK => ?_) AllReadyH.nil)
  ·
   go_simp
   refine hK.out _ _ trivial (fun _ => ?_)
   clear hK K
   refine tA (some 23) 7 rfl rfl hS0 ?_
   try simp only [Act.put, zA, zB, zC]
   refine rD 15 rfl (fun K hK => ?_)
   go_simp
   refine hK.out _ _ trivial (fun _ => ?_)
   clear hK K
   refine tA (some 33) 17 rfl rfl hS0 ?_
   try simp only [Act.put, zA, zB, zC]
   refine rD 18 rfl (fun K hK => ?_)
   go_simp
   refine hK.out _ _ trivial (fun _ => ?_)
   clear hK K
   refine rD 19 rfl (fun K hK => ?_)
   go_simp
   refine (CW.out _).mono ?_
   rintro e y1 ⟨rfl, rfl⟩
   show K _ _
   refine hK.out _ _ trivial (fun _ => ?_)
   clear hK K
   refine tA (some 36) 20 rfl rfl hS0 ?_
   try simp only [Act.put, zA, zB, zC]
   refine tA (some 37) 21 rfl rfl hS0 ?_
   try simp only [Act.put, zA, zB, zC]
   refine rD 22 rfl (fun K hK => ?_)
   go_simp
   refine hK.out _ _ trivial (fun _ => ?_)
   clear hK K
   refine tA (some 38) 23 rfl rfl hS0 ?_
   try simp only [Act.put, zA, zB, zC]
   refine tA (some 39) 24 rfl rfl hS0 ?_
   try simp only [Act.put, zA, zB, zC]
   refine rD 25 rfl (fun K hK => ?_)
   have q4 : (World.setCell wd ⟨S, 3, none⟩ (.slice (some ⟨g, o, none⟩) n cap)).cell? ⟨S, 4, none⟩ = some (.int .u64 (s1 : Int)) := by rw [World.cell?_setCell_other _ _ _ _ (by simp)]; exact n4
   go_simp
   refine hK.out _ _ trivial (fun _ => ?_)
   clear hK K
   refine wpAnyH_done (by kernel_rfl) ?_ _
   have hu := HU.out _ kd
   have hx := HX.out _ kd
   go_wp2_with fail
   go_ret
   exact ⟨rfl, _, hu.1, hx.trans hu.2⟩
  ·
   go_simp
   refine hK.out _ _ trivial (fun _ => ?_)
   clear hK K
   refine tA (some 33) 17 rfl rfl hS0 ?_
   try simp only [Act.put, zA, zB, zC]
   refine wpAnyH_ready (rs := [5, 18]) (by kernel_rfl) (by simp) ?_
   refine AllReadyH.cons rfl (fun K hK => ?_) (AllReadyH.cons rfl (fun K hK => ?_) AllReadyH.nil)
   ·
    go_simp
    refine hK.out _ _ trivial (fun _ => ?_)
    clear hK K
    refine tA (some 23) 7 rfl rfl hS0 ?_
    try simp only [Act.put, zA, zB, zC]
    refine rD 18 rfl (fun K hK => ?_)
    go_simp
    refine hK.out _ _ trivial (fun _ => ?_)
    clear hK K
    refine rD 19 rfl (fun K hK => ?_)
    go_simp
    refine (CW.out _).mono ?_
    rintro e y1 ⟨rfl, rfl⟩
    show K _ _
    refine hK.out _ _ trivial (fun _ => ?_)
    clear hK K
    refine tA (some 36) 20 rfl rfl hS0 ?_
    try simp only [Act.put, zA, zB, zC]
    refine tA (some 37) 21 rfl rfl hS0 ?_
    try simp only [Act.put, zA, zB, zC]
    refine rD 22 rfl (fun K hK => ?_)
    go_simp
    refine hK.out _ _ trivial (fun _ => ?_)
    clear hK K
    refine tA (some 38) 23 rfl rfl hS0 ?_
    try simp only [Act.put, zA, zB, zC]
    refine tA (some 39) 24 rfl rfl hS0 ?_
    try simp only [Act.put, zA, zB, zC]
    refine rD 25 rfl (fun K hK => ?_)
    have q4 : (World.setCell wd ⟨S, 3, none⟩ (.slice (some ⟨g, o, none⟩) n cap)).cell? ⟨S, 4, none⟩ = some (.int .u64 (s1 : Int)) := by rw [World.cell?_setCell_other _ _ _ _ (by simp)]; exact n4
    go_simp
    refine hK.out _ _ trivial (fun _ => ?_)
    clear hK K
    refine wpAnyH_done (by kernel_rfl) ?_ _
    have hu := HU.out _ kd
    have hx := HX.out _ kd
    go_wp2_with fail
    go_ret
    exact ⟨rfl, _, hu.1, hx.trans hu.2⟩
   ·
    go_simp
    refine hK.out _ _ trivial (fun _ => ?_)
    clear hK K
    refine wpAnyH_ready (rs := [5, 19]) (by kernel_rfl) (by simp) ?_
    refine AllReadyH.cons rfl (fun K hK => ?_) (AllReadyH.cons rfl (fun K hK => ?_) AllReadyH.nil)
    ·
     go_simp
     refine hK.out _ _ trivial (fun _ => ?_)
     clear hK K
     refine tA (some 23) 7 rfl rfl hS0 ?_
     try simp only [Act.put, zA, zB, zC]
     refine rD 19 rfl (fun K hK => ?_)
     go_simp
     refine (CW.out _).mono ?_
     rintro e y1 ⟨rfl, rfl⟩
     show K _ _
     refine hK.out _ _ trivial (fun _ => ?_)
     clear hK K
     refine tA (some 36) 20 rfl rfl hS0 ?_
     try simp only [Act.put, zA, zB, zC]
     refine tA (some 37) 21 rfl rfl hS0 ?_
     try simp only [Act.put, zA, zB, zC]
     refine rD 22 rfl (fun K hK => ?_)
     go_simp
     refine hK.out _ _ trivial (fun _ => ?_)
     clear hK K
     refine tA (some 38) 23 rfl rfl hS0 ?_
     try simp only [Act.put, zA, zB, zC]
     refine tA (some 39) 24 rfl rfl hS0 ?_
     try simp only [Act.put, zA, zB, zC]
     refine rD 25 rfl (fun K hK => ?_)
     have q4 : (World.setCell wd ⟨S, 3, none⟩ (.slice (some ⟨g, o, none⟩) n cap)).cell? ⟨S, 4, none⟩ = some (.int .u64 (s1 : Int)) := by rw [World.cell?_setCell_other _ _ _ _ (by simp)]; exact n4
     go_simp
     refine hK.out _ _ trivial (fun _ => ?_)
     clear hK K
     refine wpAnyH_done (by kernel_rfl) ?_ _
     have hu := HU.out _ kd
     have hx := HX.out _ kd
     go_wp2_with fail
     go_ret
     exact ⟨rfl, _, hu.1, hx.trans hu.2⟩
    ·
     go_simp
     refine (CW.out _).mono ?_
     rintro e y1 ⟨rfl, rfl⟩
     show K _ _
     refine hK.out _ _ trivial (fun _ => ?_)
     clear hK K
     refine rD 5 rfl (fun K hK => ?_)
     go_simp
     refine hK.out _ _ trivial (fun _ => ?_)
     clear hK K
     refine tA (some 23) 7 rfl rfl hS0 ?_
     try simp only [Act.put, zA, zB, zC]
     refine tA (some 36) 20 rfl rfl hS0 ?_
     try simp only [Act.put, zA, zB, zC]
     refine tA (some 37) 21 rfl rfl hS0 ?_
     try simp only [Act.put, zA, zB, zC]
     refine rD 22 rfl (fun K hK => ?_)
     go_simp
     refine hK.out _ _ trivial (fun _ => ?_)
     clear hK K
     refine tA (some 38) 23 rfl rfl hS0 ?_
     try simp only [Act.put, zA, zB, zC]
     refine tA (some 39) 24 rfl rfl hS0 ?_
     try simp only [Act.put, zA, zB, zC]
     refine rD 25 rfl (fun K hK => ?_)
     have q4 : (World.setCell wd ⟨S, 3, none⟩ (.slice (some ⟨g, o, none⟩) n cap)).cell? ⟨S, 4, none⟩ = some (.int .u64 (s1 : Int)) := by rw [World.cell?_setCell_other _ _ _ _ (by simp)]; exact n4
     go_simp
     refine hK.out _ _ trivial (fun _ => ?_)
     clear hK K
     refine wpAnyH_done (by kernel_rfl) ?_ _
     have hu := HU.out _ kd
     have hx := HX.out _ kd
     go_wp2_with fail
     go_ret
     exact ⟨rfl, _, hu.1, hx.trans hu.2⟩
 ·
  go_simp
  refine hK.out _ _ trivial (fun _ => ?_)
  clear hK K
  refine tA (some 33) 17 rfl rfl hS0 ?_
  try simp only [Act.put, zA, zB, zC]
  refine wpAnyH_ready (rs := [5, 11, 18]) (by kernel_rfl) (by simp) ?_
  refine AllReadyH.cons rfl (fun K hK => ?_) (AllReadyH.cons rfl (fun K hK => ?_) (AllReadyH.cons rfl (fun K hK => ?_) AllReadyH.nil))
  ·
   go_simp
   refine hK.out _ _ trivial (fun _ => ?_)
   clear hK K
   refine tA (some 23) 7 rfl rfl hS0 ?_
   try simp only [Act.put, zA, zB, zC]
   refine wpAnyH_ready (rs := [11, 18]) (by kernel_rfl) (by simp) ?_
   refine AllReadyH.cons rfl (fun K hK => ?_) (AllReadyH.cons rfl (fun K hK => ?_) AllReadyH.nil)
   ·
    go_simp
    refine hK.out _ _ trivial (fun _ => ?_)
    clear hK K
    refine rD 18 rfl (fun K hK => ?_)
    go_simp
    refine hK.out _ _ trivial (fun _ => ?_)
    clear hK K
    refine rD 19 rfl (fun K hK => ?_)
    go_simp
    refine (CW.out _).mono ?_
    rintro e y1 ⟨rfl, rfl⟩
    show K _ _
    refine hK.out _ _ trivial (fun _ => ?_)
    clear hK K
    refine tA (some 36) 20 rfl rfl hS0 ?_
    try simp only [Act.put, zA, zB, zC]
    refine tA (some 37) 21 rfl rfl hS0 ?_
    try simp only [Act.put, zA, zB, zC]
    refine rD 22 rfl (fun K hK => ?_)
    go_simp
    refine hK.out _ _ trivial (fun _ => ?_)
    clear hK K
    refine tA (some 38) 23 rfl rfl hS0 ?_
    try simp only [Act.put, zA, zB, zC]
    refine tA (some 39) 24 rfl rfl hS0 ?_
    try simp only [Act.put, zA, zB, zC]
    refine rD 25 rfl (fun K hK => ?_)
    have q4 : (World.setCell wd ⟨S, 3, none⟩ (.slice (some ⟨g, o, none⟩) n cap)).cell? ⟨S, 4, none⟩ = some (.int .u64 (s1 : Int)) := by rw [World.cell?_setCell_other _ _ _ _ (by simp)]; exact n4
    go_simp
    refine hK.out _ _ trivial (fun _ => ?_)
    clear hK K
    refine wpAnyH_done (by kernel_rfl) ?_ _
    have hu := HU.out _ kd
    have hx := HX.out _ kd
    go_wp2_with fail
    go_ret
    exact ⟨rfl, _, hu.1, hx.trans hu.2⟩
   ·
    go_simp
    refine hK.out _ _ trivial (fun _ => ?_)
    clear hK K
    refine rD 11 rfl (fun K hK => ?_)
    go_simp
    refine hK.out _ _ trivial (fun _ => ?_)
    clear hK K
    refine rD 19 rfl (fun K hK => ?_)
    go_simp
    refine (CW.out _).mono ?_
    rintro e y1 ⟨rfl, rfl⟩
    show K _ _
    refine hK.out _ _ trivial (fun _ => ?_)
    clear hK K
    refine tA (some 36) 20 rfl rfl hS0 ?_
    try simp only [Act.put, zA, zB, zC]
    refine tA (some 37) 21 rfl rfl hS0 ?_
    try simp only [Act.put, zA, zB, zC]
    refine rD 22 rfl (fun K hK => ?_)
    go_simp
    refine hK.out _ _ trivial (fun _ => ?_)
    clear hK K
    refine tA (some 38) 23 rfl rfl hS0 ?_
    try simp only [Act.put, zA, zB, zC]
    refine tA (some 39) 24 rfl rfl hS0 ?_
    try simp only [Act.put, zA, zB, zC]
    refine rD 25 rfl (fun K hK => ?_)
    have q4 : (World.setCell wd ⟨S, 3, none⟩ (.slice (some ⟨g, o, none⟩) n cap)).cell? ⟨S, 4, none⟩ = some (.int .u64 (s1 : Int)) := by rw [World.cell?_setCell_other _ _ _ _ (by simp)]; exact n4
    go_simp
    refine hK.out _ _ trivial (fun _ => ?_)
    clear hK K
    refine wpAnyH_done (by kernel_rfl) ?_ _
    have hu := HU.out _ kd
    have hx := HX.out _ kd
    go_wp2_with fail
    go_ret
    exact ⟨rfl, _, hu.1, hx.trans hu.2⟩
  ·
   go_simp
   refine hK.out _ _ trivial (fun _ => ?_)
   clear hK K
   refine wpAnyH_ready (rs := [5, 18]) (by kernel_rfl) (by simp) ?_
   refine AllReadyH.cons rfl (fun K hK => ?_) (AllReadyH.cons rfl (fun K hK => ?_) AllReadyH.nil)
   ·
    go_simp
    refine hK.out _ _ trivial (fun _ => ?_)
    clear hK K
    refine tA (some 23) 7 rfl rfl hS0 ?_
    try simp only [Act.put, zA, zB, zC]
    refine rD 18 rfl (fun K hK => ?_)
    go_simp
    refine hK.out _ _ trivial (fun _ => ?_)
    clear hK K
    refine rD 19 rfl (fun K hK => ?_)
    go_simp
    refine (CW.out _).mono ?_
    rintro e y1 ⟨rfl, rfl⟩
    show K _ _
    refine hK.out _ _ trivial (fun _ => ?_)
    clear hK K
    refine tA (some 36) 20 rfl rfl hS0 ?_
    try simp only [Act.put, zA, zB, zC]
    refine tA (some 37) 21 rfl rfl hS0 ?_
    try simp only [Act.put, zA, zB, zC]
    refine rD 22 rfl (fun K hK => ?_)
    go_simp
    refine hK.out _ _ trivial (fun _ => ?_)
    clear hK K
    refine tA (some 38) 23 rfl rfl hS0 ?_
    try simp only [Act.put, zA, zB, zC]
    refine tA (some 39) 24 rfl rfl hS0 ?_
    try simp only [Act.put, zA, zB, zC]
    refine rD 25 rfl (fun K hK => ?_)
    have q4 : (World.setCell wd ⟨S, 3, none⟩ (.slice (some ⟨g, o, none⟩) n cap)).cell? ⟨S, 4, none⟩ = some (.int .u64 (s1 : Int)) := by rw [World.cell?_setCell_other _ _ _ _ (by simp)]; exact n4
    go_simp
    refine hK.out _ _ trivial (fun _ => ?_)
    clear hK K
    refine wpAnyH_done (by kernel_rfl) ?_ _
    have hu := HU.out _ kd
    have hx := HX.out _ kd
    go_wp2_with fail
    go_ret
    exact ⟨rfl, _, hu.1, hx.trans hu.2⟩
   ·
    go_simp
    refine hK.out _ _ trivial (fun _ => ?_)
    clear hK K
    refine wpAnyH_ready (rs := [5, 19]) (by kernel_rfl) (by simp) ?_
    refine AllReadyH.cons rfl (fun K hK => ?_) (AllReadyH.cons rfl (fun K hK => ?_) AllReadyH.nil)
    ·
     go_simp
     refine hK.out _ _ trivial (fun _ => ?_)
     clear hK K
     refine tA (some 23) 7 rfl rfl hS0 ?_
     try simp only [Act.put, zA, zB, zC]
     refine rD 19 rfl (fun K hK => ?_)
     go_simp
     refine (CW.out _).mono ?_
     rintro e y1 ⟨rfl, rfl⟩
     show K _ _
     refine hK.out _ _ trivial (fun _ => ?_)
     clear hK K
     refine tA (some 36) 20 rfl rfl hS0 ?_
     try simp only [Act.put, zA, zB, zC]
     refine tA (some 37) 21 rfl rfl hS0 ?_
     try simp only [Act.put, zA, zB, zC]
     refine rD 22 rfl (fun K hK => ?_)
     go_simp
     refine hK.out _ _ trivial (fun _ => ?_)
     clear hK K
     refine tA (some 38) 23 rfl rfl hS0 ?_
     try simp only [Act.put, zA, zB, zC]
     refine tA (some 39) 24 rfl rfl hS0 ?_
     try simp only [Act.put, zA, zB, zC]
     refine rD 25 rfl (fun K hK => ?_)
     have q4 : (World.setCell wd ⟨S, 3, none⟩ (.slice (some ⟨g, o, none⟩) n cap)).cell? ⟨S, 4, none⟩ = some (.int .u64 (s1 : Int)) := by rw [World.cell?_setCell_other _ _ _ _ (by simp)]; exact n4
     go_simp
     refine hK.out _ _ trivial (fun _ => ?_)
     clear hK K
     refine wpAnyH_done (by kernel_rfl) ?_ _
     have hu := HU.out _ kd
     have hx := HX.out _ kd
     go_wp2_with fail
     go_ret
     exact ⟨rfl, _, hu.1, hx.trans hu.2⟩
    ·
     go_simp
     refine (CW.out _).mono ?_
     rintro e y1 ⟨rfl, rfl⟩
     show K _ _
     refine hK.out _ _ trivial (fun _ => ?_)
     clear hK K
     refine rD 5 rfl (fun K hK => ?_)
     go_simp
     refine hK.out _ _ trivial (fun _ => ?_)
     clear hK K
     refine tA (some 23) 7 rfl rfl hS0 ?_
     try simp only [Act.put, zA, zB, zC]
     refine tA (some 36) 20 rfl rfl hS0 ?_
     try simp only [Act.put, zA, zB, zC]
     refine tA (some 37) 21 rfl rfl hS0 ?_
     try simp only [Act.put, zA, zB, zC]
     refine rD 22 rfl (fun K hK => ?_)
     go_simp
     refine hK.out _ _ trivial (fun _ => ?_)
     clear hK K
     refine tA (some 38) 23 rfl rfl hS0 ?_
     try simp only [Act.put, zA, zB, zC]
     refine tA (some 39) 24 rfl rfl hS0 ?_
     try simp only [Act.put, zA, zB, zC]
     refine rD 25 rfl (fun K hK => ?_)
     have q4 : (World.setCell wd ⟨S, 3, none⟩ (.slice (some ⟨g, o, none⟩) n cap)).cell? ⟨S, 4, none⟩ = some (.int .u64 (s1 : Int)) := by rw [World.cell?_setCell_other _ _ _ _ (by simp)]; exact n4
     go_simp
     refine hK.out _ _ trivial (fun _ => ?_)
     clear hK K
     refine wpAnyH_done (by kernel_rfl) ?_ _
     have hu := HU.out _ kd
     have hx := HX.out _ kd
     go_wp2_with fail
     go_ret
     exact ⟨rfl, _, hu.1, hx.trans hu.2⟩
  ·
   go_simp
   refine hK.out _ _ trivial (fun _ => ?_)
   clear hK K
   refine wpAnyH_ready (rs := [5, 11]) (by kernel_rfl) (by simp) ?_
   refine AllReadyH.cons rfl (fun K hK => ?_) (AllReadyH.cons rfl (fun K hK => ?_) AllReadyH.nil)
   ·
    go_simp
    refine hK.out _ _ trivial (fun _ => ?_)
    clear hK K
    refine tA (some 23) 7 rfl rfl hS0 ?_
    try simp only [Act.put, zA, zB, zC]
    refine rD 11 rfl (fun K hK => ?_)
    go_simp
    refine hK.out _ _ trivial (fun _ => ?_)
    clear hK K
    refine rD 19 rfl (fun K hK => ?_)
    go_simp
    refine (CW.out _).mono ?_
    rintro e y1 ⟨rfl, rfl⟩
    show K _ _
    refine hK.out _ _ trivial (fun _ => ?_)
    clear hK K
    refine tA (some 36) 20 rfl rfl hS0 ?_
    try simp only [Act.put, zA, zB, zC]
    refine tA (some 37) 21 rfl rfl hS0 ?_
    try simp only [Act.put, zA, zB, zC]
    refine rD 22 rfl (fun K hK => ?_)
    go_simp
    refine hK.out _ _ trivial (fun _ => ?_)
    clear hK K
    refine tA (some 38) 23 rfl rfl hS0 ?_
    try simp only [Act.put, zA, zB, zC]
    refine tA (some 39) 24 rfl rfl hS0 ?_
    try simp only [Act.put, zA, zB, zC]
    refine rD 25 rfl (fun K hK => ?_)
    have q4 : (World.setCell wd ⟨S, 3, none⟩ (.slice (some ⟨g, o, none⟩) n cap)).cell? ⟨S, 4, none⟩ = some (.int .u64 (s1 : Int)) := by rw [World.cell?_setCell_other _ _ _ _ (by simp)]; exact n4
    go_simp
    refine hK.out _ _ trivial (fun _ => ?_)
    clear hK K
    refine wpAnyH_done (by kernel_rfl) ?_ _
    have hu := HU.out _ kd
    have hx := HX.out _ kd
    go_wp2_with fail
    go_ret
    exact ⟨rfl, _, hu.1, hx.trans hu.2⟩
   ·
    go_simp
    refine hK.out _ _ trivial (fun _ => ?_)
    clear hK K
    refine wpAnyH_ready (rs := [5, 19]) (by kernel_rfl) (by simp) ?_
    refine AllReadyH.cons rfl (fun K hK => ?_) (AllReadyH.cons rfl (fun K hK => ?_) AllReadyH.nil)
    ·
     go_simp
     refine hK.out _ _ trivial (fun _ => ?_)
     clear hK K
     refine tA (some 23) 7 rfl rfl hS0 ?_
     try simp only [Act.put, zA, zB, zC]
     refine rD 19 rfl (fun K hK => ?_)
     go_simp
     refine (CW.out _).mono ?_
     rintro e y1 ⟨rfl, rfl⟩
     show K _ _
     refine hK.out _ _ trivial (fun _ => ?_)
     clear hK K
     refine tA (some 36) 20 rfl rfl hS0 ?_
     try simp only [Act.put, zA, zB, zC]
     refine tA (some 37) 21 rfl rfl hS0 ?_
     try simp only [Act.put, zA, zB, zC]
     refine rD 22 rfl (fun K hK => ?_)
     go_simp
     refine hK.out _ _ trivial (fun _ => ?_)
     clear hK K
     refine tA (some 38) 23 rfl rfl hS0 ?_
     try simp only [Act.put, zA, zB, zC]
     refine tA (some 39) 24 rfl rfl hS0 ?_
     try simp only [Act.put, zA, zB, zC]
     refine rD 25 rfl (fun K hK => ?_)
     have q4 : (World.setCell wd ⟨S, 3, none⟩ (.slice (some ⟨g, o, none⟩) n cap)).cell? ⟨S, 4, none⟩ = some (.int .u64 (s1 : Int)) := by rw [World.cell?_setCell_other _ _ _ _ (by simp)]; exact n4
     go_simp
     refine hK.out _ _ trivial (fun _ => ?_)
     clear hK K
     refine wpAnyH_done (by kernel_rfl) ?_ _
     have hu := HU.out _ kd
     have hx := HX.out _ kd
     go_wp2_with fail
     go_ret
     exact ⟨rfl, _, hu.1, hx.trans hu.2⟩
    ·
     go_simp
     refine (CW.out _).mono ?_
     rintro e y1 ⟨rfl, rfl⟩
     show K _ _
     refine hK.out _ _ trivial (fun _ => ?_)
     clear hK K
     refine rD 5 rfl (fun K hK => ?_)
     go_simp
     refine hK.out _ _ trivial (fun _ => ?_)
     clear hK K
     refine tA (some 23) 7 rfl rfl hS0 ?_
     try simp only [Act.put, zA, zB, zC]
     refine tA (some 36) 20 rfl rfl hS0 ?_
     try simp only [Act.put, zA, zB, zC]
     refine tA (some 37) 21 rfl rfl hS0 ?_
     try simp only [Act.put, zA, zB, zC]
     refine rD 22 rfl (fun K hK => ?_)
     go_simp
     refine hK.out _ _ trivial (fun _ => ?_)
     clear hK K
     refine tA (some 38) 23 rfl rfl hS0 ?_
     try simp only [Act.put, zA, zB, zC]
     refine tA (some 39) 24 rfl rfl hS0 ?_
     try simp only [Act.put, zA, zB, zC]
     refine rD 25 rfl (fun K hK => ?_)
     have q4 : (World.setCell wd ⟨S, 3, none⟩ (.slice (some ⟨g, o, none⟩) n cap)).cell? ⟨S, 4, none⟩ = some (.int .u64 (s1 : Int)) := by rw [World.cell?_setCell_other _ _ _ _ (by simp)]; exact n4
     go_simp
     refine hK.out _ _ trivial (fun _ => ?_)
     clear hK K
     refine wpAnyH_done (by kernel_rfl) ?_ _
     have hu := HU.out _ kd
     have hx := HX.out _ kd
     go_wp2_with fail
     go_ret
     exact ⟨rfl, _, hu.1, hx.trans hu.2⟩
end
end

section
open Go.RowKit
theorem bit_ne (x k : Nat) (hx : x < 9223372036854775808) (hk : 2 ^ k < 9223372036854775808) {q : Int} (hq : bits .and .i64 (x : Int) ((2 ^ k : Nat) : Int) = q) : x.testBit k = !decide (q = 0) := by
 have := bit_zero x k hx hk
 rw [hq] at this
 cases hb : x.testBit k
 ·rw [decide_eq_true (this.2 hb)]; rfl
 ·rw [decide_eq_false (fun e => by rw [this.1 e] at hb; cases hb)]; rfl
theorem pwould_any {W : World} {S B b : Nat} {h : List TxnV} {C : Nat} {r : List Nat} {vb vr : Value} {aF sF : Nat → Nat} {w : World} (p : PlIs W S B b h C r vb vr aF sF w) (hc : checkI h = 0) (hC : C < 9223372036854775808) (i : Nat) (hi : i < h.length) :
  Calls Tryz.prog 169 #[.pointer (some ⟨S, 0, none⟩), .int .i64 i] w fun e w' => e = .returned (.int .u64 ((wld4 (baseN h C i) (plS r) (rivN h i) C sF aF : Nat) : Int)) ∧ Below w.heap.size w w' := by
 obtain ⟨q16, h16⟩ : ∃ q, bits .and .i64 (C : Int) 16 = q := ⟨_, rfl⟩
 obtain ⟨q8, h8⟩ : ∃ q, bits .and .i64 (C : Int) 8 = q := ⟨_, rfl⟩
 obtain ⟨q2, h2⟩ : ∃ q, bits .and .i64 (C : Int) 2 = q := ⟨_, rfl⟩
 obtain ⟨q4, h4⟩ : ∃ q, bits .and .i64 (C : Int) 4 = q := ⟨_, rfl⟩
 have H16 := hid (bit_ne C 4 hC (by omega) h16)
 have H8 := hid (bit_ne C 3 hC (by omega) h8)
 have H2 := hid (bit_ne C 1 hC (by omega) h2)
 have H4 := hid (bit_ne C 2 hC (by omega) h4)
 have hbs := baseN_set h C i
 have hps := plS_set r
 have hrs := rivN_set h i
 have E1 : Hid (wld1 (baseN h C i) (plS r) C = if q16 = 0 then baseN h C i else baseN h C i ||| plS r) := hid (by unfold wld1; rw [H16.out]; by_cases e : q16 = 0 <;> simp [e])
 have E2 : Hid (wld2 (baseN h C i) (plS r) (rivN h i) C = if q8 = 0 then wld1 (baseN h C i) (plS r) C else wld1 (baseN h C i) (plS r) C ||| (rivN h i &&& plS r)) := hid (by unfold wld2; rw [H8.out]; by_cases e : q8 = 0 <;> simp [e])
 have E3 : Hid (wld3 (baseN h C i) (plS r) (rivN h i) C sF = if q2 = 0 then wld2 (baseN h C i) (plS r) (rivN h i) C else wld2 (baseN h C i) (plS r) (rivN h i) C ||| joinN sF (wld2 (baseN h C i) (plS r) (rivN h i) C)) := hid (by unfold wld3; rw [H2.out]; by_cases e : q2 = 0 <;> simp [e])
 have E4 : Hid (wld4 (baseN h C i) (plS r) (rivN h i) C sF aF = if q4 = 0 then wld3 (baseN h C i) (plS r) (rivN h i) C sF else wld3 (baseN h C i) (plS r) (rivN h i) C sF ||| joinN aF (wld3 (baseN h C i) (plS r) (rivN h i) C sF)) := hid (by unfold wld4; rw [H4.out]; by_cases e : q4 = 0 <;> simp [e])
 have hsF : ∀ k, k < 64 → IsSet (sF k) := fun k hk => (p.set k hk).2
 have haF : ∀ k, k < 64 → IsSet (aF k) := fun k hk => (p.set k hk).1
 have s1 := wld1_set (C := C) hbs hps
 have s2 := wld2_set (C := C) hbs hps hrs
 have s3 := wld3_set (C := C) hbs hps hrs hsF
 have CJ1 := hid (fun s wx (hs : IsSet s) (hx : Below w.heap.size w wx) => joined_any S 69 sF s wx hs hsF (fun k hk => (p.below hx).a.cS hk) (p.below hx).tab)
 have CJ2 := hid (fun s wx (hs : IsSet s) (hx : Below w.heap.size w wx) => joined_any S 5 aF s wx hs haF (fun k hk => (p.below hx).a.cA hk) (p.below hx).tab)
 have CRV := hid (fun wx (hx : Below w.heap.size w wx) => ordis_rivals (p.below hx).ord hc i)
 have HS := hid (fun wx (hx : Below w.heap.size w wx) => And.intro (p.below hx).a.cO (And.intro (p.below hx).a.cC (p.below hx).a.cP))
 obtain ⟨gb, ob, cb, hvb, hcb⟩ : ∃ gb ob cb, vb = .slice (some ⟨gb, ob, none⟩) h.length cb ∧ w.cell? ⟨gb, ob + i, none⟩ = some (.int .u64 ((baseN h C i : Nat) : Int)) := by
  obtain ⟨hl, ao, cap, e, hm, hno, hcl⟩ := Row.of_owns p.ba
  obtain ⟨g, off, e2, hcell⟩ := hcl (by omega)
  refine ⟨g, off, cap, by rw [e, e2], ?_⟩
  rw [hcell i (by omega), List.getElem?_map, List.getElem?_range hi]; rfl
 have cB := p.a.cB
 rw [hvb] at cB
 obtain ⟨n0, n1, n2⟩ := HS.out w (Below.refl _ _)
 have hii : (i : Int) < (h.length : Int) := by omega
 have hb0 := Below.refl w.heap.size w
 have hr0 : IsSet (joinN sF (wld2 (baseN h C i) (plS r) (rivN h i) C)) := joinN_set hsF
 have hr1 : IsSet (joinN aF (wld3 (baseN h C i) (plS r) (rivN h i) C sF)) := joinN_set haF
 clear p H16 H8 H2 H4 hsF haF hvb hc hi
 generalize wld4 (baseN h C i) (plS r) (rivN h i) C sF aF = x4 at *
 generalize wld3 (baseN h C i) (plS r) (rivN h i) C sF = x3 at *
 generalize wld2 (baseN h C i) (plS r) (rivN h i) C = x2 at *
 generalize wld1 (baseN h C i) (plS r) C = x1 at *
 generalize baseN h C i = x0 at *
 generalize plS r = pl at *
 generalize rivN h i = rv at *
 have CJ1 := hid (fun wx (hx : Below w.heap.size w wx) => CJ1.out x2 wx s2 hx)
 have CJ2 := hid (fun wx (hx : Below w.heap.size w wx) => CJ2.out x3 wx s3 hx)
 generalize joinN sF x2 = j1 at *
 generalize joinN aF x3 = j2 at *
 have O1 := Go.bits_or_u64_nat _ _ hbs hps
 have O2 := Go.bits_and_u64_nat _ _ hrs hps
 have O3 := Go.bits_or_u64_nat _ _ s1 (isSet_and (t := pl) hrs)
 have O4 := Go.bits_or_u64_nat _ _ s2 hr0
 have O5 := Go.bits_or_u64_nat _ _ s3 hr1
 clear hbs hps hrs s1 s2 s3 hr0 hr1
 go_enter Tryz.func169, Tryz.ntmps169
 go_upto_if 18 with fail
 go_cut [5] from 13 to 24 (fun v wx => v = .int .u64 (x1 : Int) ∧ Below w.heap.size w wx)
 case first =>
  by_cases e : q16 = 0
  ·have HE : Hid (x0 = x1) := hid (by rw [E1.out, if_pos e])
   go_wp2_with fail
   go_meet
   exact ⟨by rw [HE.out], hb0⟩
  ·have HE : Hid (x0 ||| pl = x1) := hid (by rw [E1.out, if_neg e])
   have e2 := bne_iff_ne.2 e
   go_wp2_with fail
   go_meet
   exact ⟨by rw [← HE.out], hb0⟩
 obtain ⟨rfl, hb1⟩ := hcut
 generalize wc = w1 at *
 clear hb0 cB hcb n0 n1 n2
 obtain ⟨n0, n1, n2⟩ := HS.out _ hb1
 go_upto_if 30 with fail
 go_cut [5] from 25 to 43 (fun v wx => v = .int .u64 (x2 : Int) ∧ Below w.heap.size w wx)
 case first =>
  by_cases e : q8 = 0
  ·have HE : Hid (x1 = x2) := hid (by rw [E2.out, if_pos e])
   go_wp2_with fail
   go_meet
   exact ⟨by rw [HE.out], hb1⟩
  ·have HE : Hid (x1 ||| (rv &&& pl) = x2) := hid (by rw [E2.out, if_neg e])
   have e2 := bne_iff_ne.2 e
   go_upto_region 5 with fail
   refine wp_region_held_drew (S := Below w.heap.size w) (by kernel_rfl) hb1.drew (fun hS0 => ?_)
   refine tG (some 31) 0 ?vua0 rfl rfl (Or.inl ⟨by rfl, ?hua0⟩) hS0 ?rua0
   case hua0 => (intro w hw; obtain ⟨n0, n1, n2⟩ := HS.out _ hw; go_simp; try (with_reducible rfl))
   try simp only [Act.put, zA, zB, zC]
   refine tG (some 32) 1 ?vua1 rfl rfl (Or.inl ⟨by rfl, ?hua1⟩) hS0 ?rua1
   case hua1 => (intro w hw; obtain ⟨n0, n1, n2⟩ := HS.out _ hw; go_simp; try (with_reducible rfl))
   try simp only [Act.put, zA, zB, zC]
   refine tG (some 33) 2 ?vua2 rfl rfl (Or.inl ⟨by rfl, ?hua2⟩) hS0 ?rua2
   case hua2 => (intro w hw; obtain ⟨n0, n1, n2⟩ := HS.out _ hw; go_simp; try (with_reducible rfl))
   try simp only [Act.put, zA, zB, zC]
   refine tG (some 34) 3 ?vua3 rfl rfl (Or.inl ⟨by rfl, ?hua3⟩) hS0 ?rua3
   case hua3 => (intro w hw; obtain ⟨n0, n1, n2⟩ := HS.out _ hw; go_simp; try (with_reducible rfl))
   try simp only [Act.put, zA, zB, zC]
   refine tG (some 35) 4 ?vua4 rfl rfl (Or.inl ⟨by rfl, ?hua4⟩) hS0 ?rua4
   case hua4 => (intro w hw; obtain ⟨n0, n1, n2⟩ := HS.out _ hw; go_simp; try (with_reducible rfl))
   try simp only [Act.put, zA, zB, zC]
   refine tG (some 36) 5 ?vua5 rfl rfl (Or.inl ⟨by rfl, ?hua5⟩) hS0 ?rua5
   case hua5 => (intro w hw; obtain ⟨n0, n1, n2⟩ := HS.out _ hw; go_simp; try (with_reducible rfl))
   try simp only [Act.put, zA, zB, zC]
   refine tG (some 38) 7 ?vua7 rfl rfl (Or.inl ⟨by rfl, ?hua7⟩) hS0 ?rua7
   case hua7 => (intro w hw; obtain ⟨n0, n1, n2⟩ := HS.out _ hw; go_simp; try (with_reducible rfl))
   try simp only [Act.put, zA, zB, zC]
   refine tG (some 39) 8 ?vua8 rfl rfl (Or.inl ⟨by rfl, ?hua8⟩) hS0 ?rua8
   case hua8 => (intro w hw; obtain ⟨n0, n1, n2⟩ := HS.out _ hw; go_simp; try (with_reducible rfl))
   try simp only [Act.put, zA, zB, zC]
   refine tG (some 40) 9 ?vua9 rfl rfl (Or.inl ⟨by rfl, ?hua9⟩) hS0 ?rua9
   case hua9 => (intro w hw; obtain ⟨n0, n1, n2⟩ := HS.out _ hw; go_simp; try (with_reducible rfl))
   try simp only [Act.put, zA, zB, zC]
   refine tG (some 41) 10 ?vua10 rfl rfl (Or.inl ⟨by rfl, ?hua10⟩) hS0 ?rua10
   case hua10 => (intro w hw; obtain ⟨n0, n1, n2⟩ := HS.out _ hw; go_simp; try (with_reducible rfl))
   try simp only [Act.put, zA, zB, zC]
   refine rD 6 rfl (fun K hK => ?_)
   go_simp
   refine (CRV.out _ hS0).mono ?_
   rintro e y1 ⟨rfl, j1⟩
   show K _ _
   have s1 := below_then hS0 j1
   refine hK.out _ _ s1 (fun _ => ?_)
   clear hK K
   refine tG (some 42) 11 ?vua11 rfl rfl (Or.inl ⟨by rfl, ?hua11⟩) s1 ?rua11
   case hua11 => (intro w hw; obtain ⟨n0, n1, n2⟩ := HS.out _ hw; go_simp; try (with_reducible rfl))
   try simp only [Act.put, zA, zB, zC]
   refine tG (some 43) 12 ?vua12 rfl rfl (Or.inl ⟨by rfl, ?hua12⟩) s1 ?rua12
   case hua12 => (intro w hw; obtain ⟨n0, n1, n2⟩ := HS.out _ hw; go_simp; try (with_reducible rfl))
   try simp only [Act.put, zA, zB, zC]
   refine tG (some 5) 13 ?vua13 rfl rfl (Or.inl ⟨by rfl, ?hua13⟩) s1 ?rua13
   case hua13 => (intro w hw; obtain ⟨n0, n1, n2⟩ := HS.out _ hw; go_simp; try (with_reducible rfl))
   try simp only [Act.put, zA, zB, zC]
   refine wpAnyH_done (by kernel_rfl) ?_ _
   rw [HE.out]
   go_wp2_with fail
   go_meet
   exact ⟨rfl, s1⟩
 obtain ⟨rfl, hb2⟩ := hcut
 generalize wc = w2 at *
 clear hb1 n0 n1 n2
 obtain ⟨n0, n1, n2⟩ := HS.out _ hb2
 go_upto_if 49 with fail
 go_cut [5] from 44 to 56 (fun v wx => v = .int .u64 (x3 : Int) ∧ Below w.heap.size w wx)
 case first =>
  by_cases e : q2 = 0
  ·have HE : Hid (x2 = x3) := hid (by rw [E3.out, if_pos e])
   go_wp2_with fail
   go_meet
   exact ⟨by rw [HE.out], hb2⟩
  ·have HE : Hid (x2 ||| j1 = x3) := hid (by rw [E3.out, if_neg e])
   have e2 := bne_iff_ne.2 e
   go_wp2_with fail
   refine (CJ1.out _ hb2).mono ?_
   rintro e w3 ⟨rfl, h3⟩
   have hb3 := below_then hb2 h3
   go_wp2_with fail
   go_meet
   exact ⟨by rw [← HE.out], hb3⟩
 obtain ⟨rfl, hb3⟩ := hcut
 generalize wc = w3 at *
 clear hb2 n0 n1 n2
 obtain ⟨n0, n1, n2⟩ := HS.out _ hb3
 go_upto_region 8 with fail
 by_cases e : q4 = 0
 ·have HE : Hid ((x3 : Int) = ((x4 : Nat) : Int)) := hid (by rw [E4.out, if_pos e])
  go_wp2_with fail
  go_ret
  exact ⟨ret_i HE.out, hb3⟩
 ·have HE : Hid (((x3 ||| j2 : Nat) : Int) = ((x4 : Nat) : Int)) := hid (by rw [E4.out, if_neg e])
  have e2 := bne_iff_ne.2 e
  go_wp2_with fail
  refine (CJ2.out _ hb3).mono ?_
  rintro e w4 ⟨rfl, h4⟩
  have hb4 := below_then hb3 h4
  go_wp2_with fail
  go_ret
  exact ⟨ret_i HE.out, hb4⟩
end

section
open Go.RowKit
theorem all_congr {α : Type} {p q : α → Bool} : ∀ (l : List α), (∀ a ∈ l, p a = q a) → l.all p = l.all q
 | [], _ => rfl
 | a :: l, h => by rw [List.all_cons, List.all_cons, h a List.mem_cons_self, all_congr l (fun b hb => h b (List.mem_cons_of_mem _ hb))]
end

section
open Go.RowKit
theorem rivR_symm (h : List TxnV) (i k : Nat) : rivR h i k = rivR h k i := by
 unfold rivR
 congr 1
 funext n
 rw [Bool.and_comm]
theorem rivB_symm (h : List TxnV) (i k : Nat) : rivB h i k = rivB h k i := by
 unfold rivB
 rw [rivR_symm h i k, Bool.eq_iff_iff]
 simp only [Bool.and_eq_true, decide_eq_true_eq]
 exact ⟨fun ⟨a, b, c, d⟩ => ⟨b, a, fun e => c e.symm, d⟩, fun ⟨a, b, c, d⟩ => ⟨b, a, fun e => c e.symm, d⟩⟩
theorem baseN_bit {h : List TxnV} {C i j : Nat} (hi : i < 64) : (baseN h C i).testBit j = true ↔ j < 64 ∧ baseM h (C : Int) j i = true := by
 unfold baseN
 rw [seeTo_bit _ _ _ _ (Nat.le_refl 64), Bool.and_eq_true, decide_eq_true_eq]
 exact ⟨fun ⟨a, b⟩ => ⟨a, by rwa [hasR_nat _ _ _ a hi] at b⟩, fun ⟨a, b⟩ => ⟨a, by rw [hasR_nat _ _ _ a hi]; exact b⟩⟩
theorem rivN_bit {h : List TxnV} {i j : Nat} : (rivN h i).testBit j = true ↔ j < 64 ∧ rivB h i j = true := by
 unfold rivN
 rw [testBit_mkS, Bool.and_eq_true, decide_eq_true_eq]
theorem baseM_lt {h : List TxnV} {C j k : Nat} (hC : C < 9223372036854775808) (hj : j < 64) (hk : k < 64) (hb : baseM h (C : Int) j k = true) : j < h.length ∧ k < h.length := by
 rw [baseM_iff h C hC] at hb
 rcases hb with hb | ⟨_, hb⟩ | ⟨_, hb⟩
 ·exact ⟨((prsTo_iff _ _ j k hj hk _).1 hb).1, ((prsTo_iff _ _ j k hj hk _).1 hb).2.1⟩
 ·exact ⟨((prsTo_iff _ _ j k hj hk _).1 hb).1, ((prsTo_iff _ _ j k hj hk _).1 hb).2.1⟩
 ·exact ⟨((prsTo_iff _ _ j k hj hk _).1 hb).1, ((prsTo_iff _ _ j k hj hk _).1 hb).2.1⟩
def seesR (h : List TxnV) (C : Nat) (r : List Nat) : Mat := fun j k => (plSee h C r k).testBit j
section
variable {h : List TxnV} {C : Nat}
theorem RowG.drop : ∀ {p r : List Nat}, RowG h C (p ++ r) → RowG h C r
 | [], _, g => g
 | _ :: p, _, g => RowG.drop (p := p) g.tail
theorem aheadL_drop : ∀ {p r : List Nat}, (p ++ r).Nodup → ∀ {k : Nat}, k ∈ r → aheadL (p ++ r) k = aheadL r k
 | [], _, _, _, _ => rfl
 | i :: p, r, hn, k, hk => by
  obtain ⟨hi, hn'⟩ := List.nodup_cons.1 (show (i :: (p ++ r)).Nodup from hn)
  show aheadL (i :: (p ++ r)) k = _
  rw [aheadL_tail (fun e => hi (by rw [← e]; exact List.mem_append_right _ hk)), aheadL_drop hn' hk]
theorem sees_sound {r : List Nat} (g : RowG h C r) (hC : C < 9223372036854775808) : ∀ (r' p : List Nat), p ++ r' = r → ∀ j k, (plSee h C r' k).testBit j = true → Must (startM h (C : Int) (chainR (r.reverse.map Int.ofNat))) (chainR (r.reverse.map Int.ofNat)) (trB C) (pfB C) j k
 | [], _, _, j, k, hj => by unfold plSee at hj; simp at hj
 | i :: r', p, he, j, k, hj => by
  have ih := sees_sound g hC r' (p ++ [i]) (by rw [List.append_assoc]; exact he)
  by_cases e : k = i
  ·subst e
   have g2 : RowG h C (k :: r') := RowG.drop (p := p) (by rw [he]; exact g)
   have hk64 := g2.lt k (List.mem_cons_self ..)
   have hA : ∀ m, m ∈ k :: r' → aheadL r m = aheadL (k :: r') m := fun m hm => by
    rw [← he]; exact aheadL_drop (by rw [he]; exact g.nd) hm
   have hkn := (List.nodup_cons.1 g2.nd).1
   have hpl : ∀ j, (plS r').testBit j = true → chainR (r.reverse.map Int.ofNat) j k = true := fun j hj => by
    rw [ahead_chain g.nd g.lt, hA k (List.mem_cons_self ..), aheadL, if_pos rfl]; exact hj
   rw [plSee, if_pos rfl] at hj
   refine wld4_least (Y := fun j => Must (startM h (C : Int) (chainR (r.reverse.map Int.ofNat))) (chainR (r.reverse.map Int.ofNat)) (trB C) (pfB C) j k) ?_ ?_ ?_ ?_ ?_ hj
   ·intro j hj
    exact .base ((startM_iff h C hC _ j k).2 (.inl ((baseN_bit hk64).1 hj).2))
   ·intro hc j hj
    exact .base ((startM_iff h C hC _ j k).2 (.inr (.inr ⟨hc, hpl j hj⟩)))
   ·intro hc j hr hj
    refine .base ((startM_iff h C hC _ j k).2 (.inr (.inl ⟨hc, ?_⟩)))
    unfold rivM
    rw [hpl j hj, rivB_symm, (rivN_bit.1 hr).2]; rfl
   ·intro hc m j hm hY hj
    exact .trans (by rw [trB_bit C hC]; exact hc) hm (ih j m hj) hY
   ·intro hc m j hm hY hj
    refine .pre (by rw [pfB_bit C hC]; exact hc) hm ?_ hY
    have hm' : m ∈ r' := by
     by_cases q : m ∈ r'
     ·exact q
     ·rw [aheadL_out q] at hj; simp at hj
    have hne : m ≠ k := fun e => hkn (by rw [← e]; exact hm')
    rw [ahead_chain g.nd g.lt, hA m (List.mem_cons_of_mem _ hm'), aheadL_tail hne]; exact hj
  ·rw [plSee_tail e] at hj
   exact ih j k hj
theorem sees_least {r : List Nat} (g : RowG h C r) (hC : C < 9223372036854775808) (hall : ∀ k, k < h.length → k ∈ r) : LeastIs h C (r.reverse.map Int.ofNat) (seesR h C r) := by
 intro j k hj hk
 refine ⟨fun hs => sees_sound g hC r [] rfl j k hs, fun hm => ?_⟩
 obtain ⟨c1, c2⟩ := sees_closed g
 refine must_in (V := fun j k => (plSee h C r k).testBit j = true) ?_ ?_ ?_ hm hj hk
 ·intro j k hj hk hs
  rw [startM_iff h C hC] at hs
  rcases hs with hs | ⟨hc, hs⟩ | ⟨hc, hs⟩
  ·have hkr := hall k (baseM_lt hC hj hk hs).2
   rw [sees_fix g k hkr]
   exact wld4_base ((baseN_bit hk).2 ⟨hj, hs⟩)
  ·unfold rivM at hs
   rw [Bool.and_eq_true, ahead_chain g.nd g.lt] at hs
   have hkr : k ∈ r := by
    by_cases q : k ∈ r
    ·exact q
    ·rw [aheadL_out q] at hs; simp at hs
   rw [sees_fix g k hkr]
   exact wld4_riv hc (rivN_bit.2 ⟨hj, by rw [rivB_symm]; exact hs.2⟩) hs.1
  ·rw [ahead_chain g.nd g.lt] at hs
   have hkr : k ∈ r := by
    by_cases q : k ∈ r
    ·exact q
    ·rw [aheadL_out q] at hs; simp at hs
   rw [sees_fix g k hkr]
   exact wld4_all hc hs
 ·intro ht i m j _ _ _ h1 h2
  rw [trB_bit C hC] at ht
  exact c1 ht j m i h2 h1
 ·intro hp i m j _ _ _ h1 h2
  rw [pfB_bit C hC] at hp
  rw [ahead_chain g.nd g.lt] at h1
  exact c2 hp j m i h2 h1
end
theorem read_from {h : List TxnV} (hc : checkI h = 0) {k : Nat} (hk : k < h.length) {x : Int × Int} (hx : x ∈ readsOf h k) : x.2 = -1 ∨ ∃ n : Nat, n < h.length ∧ x.2 = (n : Int) ∧ n ≠ k ∧ (wrtN h x.1).testBit n = true := by
 rw [reads_same hc hk] at hx
 unfold rdR at hx
 obtain ⟨o, ho, rfl⟩ := List.mem_map.1 hx
 obtain ⟨ho1, ho2⟩ := List.mem_filter.1 ho
 obtain ⟨h1, h2⟩ := refReads_in ho1
 rcases reads_F (may_of hc) hk h1 h2 with ⟨h0, hn⟩ | ⟨h0, u, hu, hku, hw⟩
 ·left; unfold fromR; rw [if_pos h0]
 ·right
  obtain ⟨p, hp, hpv, hpk⟩ := real_wr h h.length (Nat.le_refl _) o.val u hu
  obtain ⟨t, ht, hpt, hpw⟩ := wrs_mem.1 hp
  obtain ⟨n, hn, rfl⟩ := List.getElem_of_mem ht
  have h3 := may_wr (may_of hc) hn hpt hpw
  rw [hpv, hu] at h3
  have h4 := Option.some.inj h3
  have hui : u.i = (n : Int) := by rw [h4]
  have hfr : fromR h o = (n : Int) := by unfold fromR; rw [if_neg h0, hw, hui]
  refine ⟨n, hn, hfr, ?_, ?_⟩
  ·rintro rfl
   rw [hfr] at ho2
   simp at ho2
  ·have h64 := (check_zero hc).1
   show (wrtN h o.key).testBit n = true
   unfold wrtN
   rw [testBit_mkS, decide_eq_true (show n < 64 by omega), decide_eq_true hn, Bool.true_and, Bool.true_and, decide_eq_true_eq, opsAt_eq hn]
   unfold keysOf
   rw [← hku, ← hpk]
   obtain ⟨a, b⟩ := (check_zero hc).2.2.2 _ (List.getElem_mem hn) p hpt
   obtain ⟨q, hq⟩ := Option.isSome_iff_exists.1 (lastW_some h[n].l hpw h[n].l.length (Nat.le_refl _) (by rw [List.take_length]; exact hpt))
   rw [List.take_length] at hq
   refine List.mem_map.2 ⟨q, upTo_mem.2 ⟨p.key.toNat, by omega, ?_⟩, (lastW_key hq).1⟩
   unfold wrK
   rw [Int.toNat_of_nonneg a]; exact hq
theorem from_base {h : List TxnV} {C : Nat} (hC : C < 9223372036854775808) (h64 : h.length ≤ 64) {k n : Nat} (hk : k < h.length) (hn : n < h.length) {x : Int × Int} (hx : x ∈ readsOf h k) (he : x.2 = (n : Int)) : (baseN h C k).testBit n = true := by
 rw [baseN_bit (by omega)]
 refine ⟨by omega, (baseM_iff h C hC n k).2 (.inl ?_)⟩
 refine (prsTo_iff (froP h) h.length n k (by omega) (by omega) h.length).2 ⟨hn, hk, ?_⟩
 unfold froP
 rw [List.any_eq_true]
 exact ⟨x, hx, by rw [he]; simp⟩
theorem readsP_congr {h : List TxnV} {aF aG : Nat → Nat} {s k : Nat} (hc : ∀ x ∈ readsOf h k, 0 ≤ x.2 → aF x.2.toNat = aG x.2.toNat) : readsP h aF s k = readsP h aG s k := by
 unfold readsP
 refine all_congr _ fun x hx => ?_
 unfold readP readW
 by_cases h0 : 0 ≤ x.2
 ·rw [if_pos h0, if_pos h0, hc x hx h0]
 ·rw [if_neg h0, if_neg h0]
def goodR (h : List TxnV) (C : Nat) (r : List Nat) : Prop := ∀ k ∈ r, (∀ j, (baseN h C k).testBit j = true → (aheadL r k).testBit j = true) ∧ readsP h (aheadL r) (plSee h C r k) k = true
section
variable {h : List TxnV} {C : Nat}
theorem reads_tail (hc : checkI h = 0) (hC : C < 9223372036854775808) {i k : Nat} {r : List Nat} (hi : i ∉ r) (hlt : ∀ a ∈ r, a < h.length) (hk : k < h.length) (hb : ∀ j, (baseN h C k).testBit j = true → (plS r).testBit j = true) (s : Nat) :
  readsP h (aheadL (i :: r)) s k = readsP h (aheadL r) s k := by
 have h64 := (check_zero hc).1
 refine readsP_congr fun x hx h0 => ?_
 rcases read_from hc hk hx with e | ⟨n, hn, e, _, _⟩
 ·omega
 ·have := plS_mem (fun a ha => by have := hlt a ha; omega) (hb n (from_base hC h64 hk hn hx e))
  rw [e, Int.toNat_natCast]
  exact aheadL_tail (fun q => hi (by rw [← q]; exact this))
theorem inB_bits {s t : Nat} (hs : IsSet s) : inB s t = true ↔ ∀ j, s.testBit j = true → t.testBit j = true := by
 rw [inB_iff hs]
 exact ⟨fun q j hj => q j (by by_cases e : j < 64; exact e; rw [hs.high (by omega)] at hj; cases hj) hj, fun q j _ hj => q j hj⟩
theorem good_cons (hc : checkI h = 0) (hC : C < 9223372036854775808) {i : Nat} {r : List Nat} (hi : i ∉ r) (hin : i < h.length) (hlt : ∀ a ∈ r, a < h.length) : goodR h C (i :: r) ↔ goodR h C r ∧ tryP h C r i = true := by
 have h64 := (check_zero hc).1
 have hlt64 : ∀ a ∈ r, a < 64 := fun a ha => by have := hlt a ha; omega
 have key : ∀ k ∈ r, k ≠ i := fun k hk e => hi (by rw [← e]; exact hk)
 constructor
 ·intro g
  constructor
  ·intro k hk
   obtain ⟨g1, g2⟩ := g k (List.mem_cons_of_mem _ hk)
   rw [aheadL_tail (key k hk)] at g1
   refine ⟨g1, ?_⟩
   rw [plSee_tail (key k hk), reads_tail hc hC hi hlt (hlt k hk) (fun j hj => ahead_in hlt64 (g1 j hj))] at g2
   exact g2
  ·obtain ⟨g1, g2⟩ := g i (List.mem_cons_self ..)
   rw [aheadL, if_pos rfl] at g1
   rw [plSee, if_pos rfl, reads_tail hc hC hi hlt hin g1] at g2
   unfold tryP nextN
   rw [decide_eq_true hin, decide_eq_false hi, (inB_bits (baseN_set h C i)).2 g1, g2]; rfl
 ·rintro ⟨g, ht⟩
  unfold tryP at ht
  simp only [Bool.and_eq_true] at ht
  obtain ⟨_, _, g1, g2⟩ := ht
  have g1 := (inB_bits (baseN_set h C i)).1 g1
  intro k hk
  by_cases e : k = i
  ·subst e
   rw [aheadL, if_pos rfl]
   refine ⟨g1, ?_⟩
   rw [plSee, if_pos rfl, reads_tail hc hC hi hlt hin g1]
   exact g2
  ·have hkr : k ∈ r := by rcases List.mem_cons.1 hk with q | q; exact (e q).elim; exact q
   obtain ⟨q1, q2⟩ := g k hkr
   rw [aheadL_tail e]
   refine ⟨q1, ?_⟩
   rw [plSee_tail e, reads_tail hc hC hi hlt (hlt k hkr) (fun j hj => ahead_in hlt64 (q1 j hj))]
   exact q2
def allT (h : List TxnV) (C : Nat) : List Nat → List Nat → Bool
 | _, [] => true
 | r, i :: l => tryP h C r i && allT h C (i :: r) l
theorem good_drop (hc : checkI h = 0) (hC : C < 9223372036854775808) : ∀ {p r : List Nat}, (p ++ r).Nodup → (∀ a ∈ p ++ r, a < h.length) → goodR h C (p ++ r) → goodR h C r
 | [], _, _, _, g => g
 | i :: p, r, hn, hlt, g => by
  obtain ⟨hi, hn'⟩ := List.nodup_cons.1 (show (i :: (p ++ r)).Nodup from hn)
  have hlt' : ∀ a ∈ p ++ r, a < h.length := fun a ha => hlt a (List.mem_cons_of_mem _ ha)
  exact good_drop hc hC hn' hlt' ((good_cons hc hC hi (hlt i (List.mem_cons_self ..)) hlt').1 g).1
theorem allT_iff (hc : checkI h = 0) (hC : C < 9223372036854775808) : ∀ (l r : List Nat), (l.reverse ++ r).Nodup → (∀ a ∈ l.reverse ++ r, a < h.length) → goodR h C r → (allT h C r l = true ↔ goodR h C (l.reverse ++ r))
 | [], r, _, _, g => ⟨fun _ => g, fun _ => rfl⟩
 | i :: l, r, hn, hlt, g => by
  have e : (i :: l).reverse ++ r = l.reverse ++ (i :: r) := by simp
  rw [e] at hn hlt ⊢
  have hn2 : (i :: r).Nodup := (List.nodup_append.1 hn).2.1
  have hi := (List.nodup_cons.1 hn2).1
  have hin := hlt i (List.mem_append_right _ (List.mem_cons_self ..))
  have hltr : ∀ a ∈ r, a < h.length := fun a ha => hlt a (List.mem_append_right _ (List.mem_cons_of_mem _ ha))
  unfold allT
  rw [Bool.and_eq_true]
  constructor
  ·rintro ⟨ht, ha⟩
   exact (allT_iff hc hC l (i :: r) hn hlt ((good_cons hc hC hi hin hltr).2 ⟨g, ht⟩)).1 ha
  ·intro g2
   have g3 := good_drop hc hC hn hlt g2
   exact ⟨((good_cons hc hC hi hin hltr).1 g3).2, (allT_iff hc hC l (i :: r) hn hlt g3).2 g2⟩
theorem last_is {f : Nat} {S : Nat} (hS : S.testBit f = true) : ∀ {r : List Nat}, r.Nodup → (∀ k ∈ r, k < 64) → f ∈ r → (∀ j, S.testBit j = true → j ∈ r) → (lastI (r.reverse.map Int.ofNat) S = (f : Int) ↔ ∀ j, S.testBit j = true → j = f ∨ (aheadL r f).testBit j = true) := by
 intro r
 induction r with
 | nil => intro _ _ hf _; cases hf
 | cons i r ih =>
  intro hnd hlt hf hin
  obtain ⟨hi, hnd'⟩ := List.nodup_cons.1 hnd
  have hi64 := hlt i (List.mem_cons_self ..)
  have hlt' : ∀ a ∈ r, a < 64 := fun a ha => hlt a (List.mem_cons_of_mem _ ha)
  rw [List.reverse_cons, List.map_append, List.map_cons, List.map_nil, lastI_snoc, show Int.ofNat i = (i : Int) from rfl, hasB_nat hi64]
  by_cases hs : S.testBit i = true
  ·rw [if_pos hs]
   by_cases e : f = i
   ·subst e
    refine ⟨fun _ j hj => ?_, fun _ => rfl⟩
    rw [aheadL, if_pos rfl, plS_bit j r hlt', decide_eq_true_eq]
    exact List.mem_cons.1 (hin j hj)
   ·constructor
    ·intro q; exact (e (Int.ofNat.inj q).symm).elim
    ·intro q
     rcases q i hs with q | q
     ·exact (e q.symm).elim
     ·rw [aheadL_tail e] at q
      exact (hi (aheadL_mem hlt' q)).elim
  ·rw [if_neg hs]
   have e : f ≠ i := fun e => hs (by rw [← e]; exact hS)
   have hfr : f ∈ r := by rcases List.mem_cons.1 hf with q | q; exact (e q).elim; exact q
   rw [ih hnd' hlt' hfr (fun j hj => by
    rcases List.mem_cons.1 (hin j hj) with q | q
    ·exact (hs (by rw [← q]; exact hj)).elim
    ·exact q), aheadL_tail e]
theorem last_none {S : Nat} : ∀ {r : List Nat}, (∀ k ∈ r, k < 64) → (∀ j, S.testBit j = true → j ∈ r) → (lastI (r.reverse.map Int.ofNat) S = -1 ↔ S = 0) := by
 intro r
 induction r with
 | nil =>
  intro _ hin
  refine ⟨fun _ => ?_, fun _ => rfl⟩
  apply Nat.eq_of_testBit_eq
  intro j
  cases e : S.testBit j with
  | false => simp
  | true => cases hin j e
 | cons i r ih =>
  intro hlt hin
  have hi64 := hlt i (List.mem_cons_self ..)
  have hlt' : ∀ a ∈ r, a < 64 := fun a ha => hlt a (List.mem_cons_of_mem _ ha)
  rw [List.reverse_cons, List.map_append, List.map_cons, List.map_nil, lastI_snoc, show Int.ofNat i = (i : Int) from rfl, hasB_nat hi64]
  by_cases hs : S.testBit i = true
  ·rw [if_pos hs]
   constructor
   ·intro q; exact absurd q (by omega)
   ·intro q; rw [q] at hs; simp at hs
  ·rw [if_neg hs]
   exact ih hlt' (fun j hj => by
    rcases List.mem_cons.1 (hin j hj) with q | q
    ·exact (hs (by rw [← q]; exact hj)).elim
    ·exact q)
theorem read_last (hc : checkI h = 0) {r : List Nat} (hnd : r.Nodup) (hlt : ∀ k ∈ r, k < 64) {k s : Nat} (hk : k < h.length) (hs : ∀ j, s.testBit j = true → j ∈ r) {x : Int × Int} (hx : x ∈ readsOf h k) (hfs : ∀ n : Nat, x.2 = (n : Int) → s.testBit n = true) :
  decide (lastI (r.reverse.map Int.ofNat) (s &&& wrtN h x.1) = x.2) = readP h (aheadL r) s x := by
 have h64 := (check_zero hc).1
 unfold readP readW
 rw [decide_eq_decide]
 have hsW : ∀ j, (s &&& wrtN h x.1).testBit j = true → j ∈ r := fun j hj => by rw [Nat.testBit_and, Bool.and_eq_true] at hj; exact hs j hj.1
 rcases read_from hc hk hx with e | ⟨n, hn, e, hne, hw⟩
 ·rw [e, if_neg (by omega)]
  exact last_none hlt hsW
 ·have hsn := hfs n e
  rw [e, if_pos (by omega), Int.toNat_natCast, last_is (by rw [Nat.testBit_and, hsn, hw]; rfl) hnd hlt (hs n hsn) hsW]
  generalize s &&& wrtN h x.1 = T at *
  constructor
  ·intro q
   unfold lackN
   apply Nat.eq_of_testBit_eq
   intro j
   rw [Nat.testBit_xor, Nat.testBit_and, testBit_withS, Int.toNat_natCast, Nat.zero_testBit]
   cases hj : T.testBit j with
   | false => simp
   | true =>
    rcases q j hj with q | q
    ·subst q
     have : decide (0 ≤ (j : Int) ∧ (j : Int) < 64) = true := by simp; omega
     rw [this]; simp
    ·rw [q]; simp
  ·intro q j hj
   have := congrArg (fun z => z.testBit j) q
   simp only [lackN] at this
   rw [Nat.testBit_xor, Nat.testBit_and, testBit_withS, Int.toNat_natCast, Nat.zero_testBit, hj] at this
   cases ha : (aheadL r n).testBit j with
   | true => exact .inr rfl
   | false =>
    rw [ha] at this
    have h2 : (decide (0 ≤ (n : Int) ∧ (n : Int) < 64) && decide (n = j)) = true := by simpa using this
    rw [Bool.and_eq_true, decide_eq_true_eq, decide_eq_true_eq] at h2
    exact .inl h2.2.symm
end
end

section
open Go.RowKit
theorem ordis_rd {w : World} {B b : Nat} {h : List TxnV} (hO : OrdIs w B b h) (hc : checkI h = 0) {i : Nat} (hi : i < h.length) : ∃ bm g o rcap ao cap, w.cell? ⟨B, 193, none⟩ = some (.map (some bm)) ∧ w.cell? ⟨B, 195, none⟩ = some (.slice (some ⟨g, o, none⟩) h.length rcap) ∧
  w.cell? ⟨g, o + i, none⟩ = some (.slice ao (readsOf h i).length cap) ∧ Frs w (.slice ao (readsOf h i).length cap) (readsOf h i) ∧ bm < w.heap.size ∧
  ∀ wx, Below w.heap.size w wx → ∀ y, InI y → Sem.run Tryz.prog (Instr.lookup 118 (.map (some bm)) (.int .i64 y) false) wx = .ok (.int .u64 ((wrtN h y : Nat) : Int)) wx := by
 obtain ⟨bm, m, c, vk, vr, K, R, h1, h2, h3, h4, h5, h6⟩ := hO
 have hl : R.length = h.length := by have := congrArg List.length h6; simpa [readsTo] using this
 have hF := h4.frws
 obtain ⟨⟨hlen, ro, rcap, rfl, hm, hno, hcc⟩, hE⟩ := hF
 obtain ⟨g, o, rfl, hcell⟩ := hcc (by omega)
 have hiR : i < R.length := by omega
 have he : R[i].2 = readsOf h i := by
  have := congrArg (·[i]?) h6
  simp only [List.getElem?_map, List.getElem?_eq_getElem hiR, readsTo, List.getElem?_range hi, Option.map_some] at this
  exact Option.some.inj this
 have hfr := hE _ (List.getElem_mem hiR)
 rw [he] at hfr
 obtain ⟨ao, cap, e, _⟩ := hfr.form
 have hcR := h1.cR
 rw [hl] at hcR
 refine ⟨bm, g, o, rcap, ao, cap, h1.cM, hcR, ?_, by rw [← e]; exact hfr, h2.lt, fun wx hx y hy => ?_⟩
 ·rw [hcell i (by omega), List.getElem?_map, List.getElem?_eq_getElem hiR, ← e]; rfl
 ·have hK := lookI_run (t := 118) (el := 115) (w := wx) false keyI mapIS 0 (zeroS _) (h2.below hx) hy
  rw [wrt_eq hc h5 h3 y] at hK
  simpa only [Bool.false_eq_true, if_false, eS] using hK
theorem all_take {α : Type} {l : List α} {f : α → Bool} {k : Nat} (hk : k < l.length) (hp : (l.take k).all f = true) (hy : f l[k] = true) : (l.take (k + 1)).all f = true := by
 rw [List.take_succ_eq_append_getElem hk, List.all_append, hp]; simp [hy]
theorem all_no {α : Type} {l : List α} {f : α → Bool} {k : Nat} (hk : k < l.length) (hn : f l[k] = false) : l.all f = false := by
 rw [List.all_eq_false]
 exact ⟨_, List.getElem_mem hk, by rw [hn]; simp⟩
theorem preads_any {W : World} {S B b : Nat} {h : List TxnV} {C : Nat} {r : List Nat} {vb vr : Value} {aF sF : Nat → Nat} {w : World} (p : PlIs W S B b h C r vb vr aF sF w) (hc : checkI h = 0) (i : Nat) (hi : i < h.length) (s : Nat) (hs : IsSet s) :
  Calls Tryz.prog 170 #[.pointer (some ⟨S, 0, none⟩), .int .i64 i, .int .u64 (s : Int)] w fun e w' => e = .returned (.bool (readsP h aF s i)) ∧ Below w.heap.size w w' := by
 have HR : Hid (readsP h aF s i = (readsOf h i).all (readP h aF s)) := hid rfl
 have h64 := (check_zero hc).1
 have hii : (i : Int) < (h.length : Int) := by omega
 obtain ⟨bm, g, o, rcap, ao, cap, n1, n2, n3, hfr, _, hlook⟩ := ordis_rd p.ord hc hi
 have n0 := p.a.cO
 have HF := hid (fun wx (hx : Below w.heap.size w wx) => hfr.below hx)
 have HP := hid (fun wx (hx : Below w.heap.size w wx) => And.intro (p.below hx).a.cO ((hx.cell (p := ⟨B, 193, none⟩) (block_lt n1)).trans n1))
 have HLK := hid hlook
 have HA := hid (fun wx (hx : Below w.heap.size w wx) k (hk : k < 64) => (p.below hx).a.cA hk)
 have HAS := hid (fun k (hk : k < 64) => (p.set k hk).1)
 have HKEY := hid (fun r (hr : r ∈ readsOf h i) => reads_key hc hi hr)
 have HFR : Hid (∀ r ∈ readsOf h i, r.2 < 64) := hid (fun r hr => by
  rcases read_from hc hi hr with e | ⟨n, hn, e, _⟩
  ·omega
  ·omega)
 have HW := hid (fun y => wrtN_set h y)
 have hb0 := Below.refl w.heap.size w
 obtain ⟨_, _, _, hri⟩ := hfr.form
 clear p hfr hlook hc n1 hi h64
 go_enter Tryz.func170, Tryz.ntmps170
 go_wp2_with fail
 clear n0 n2 n3
 go_loopw [21] (fun j wx => ∃ k : Nat, k ≤ (readsOf h i).length ∧ j = .int .i64 k ∧ Hid (((readsOf h i).take k).all (readP h aF s) = true) ∧ Below w.heap.size w wx) (fun j _ => (readsOf h i).length - (intOf j).toNat)
 case atStart => exact ⟨0, by omega, rfl, hid rfl, hb0⟩
 case round =>
  clear hb0
  obtain ⟨k, hk, rfl, HRO, hbk⟩ := hrel
  by_cases hlk : k < (readsOf h i).length
  ·have hkk : (k : Int) < ((readsOf h i).length : Int) := by omega
   obtain ⟨gk, ok, hao, e0, e1⟩ := (HF.out _ hbk).at hlk
   cases hao
   have hkey := HKEY.out _ (List.getElem_mem hlk)
   have hrf := HFR.out _ (List.getElem_mem hlk)
   have HYE := hid (fun hy => all_take (f := readP h aF s) hlk HRO.out hy)
   have HNO := hid (fun hn => all_no (f := readP h aF s) hlk hn)
   have HRD : Hid (readP h aF s (readsOf h i)[k] = decide (readW h aF s (readsOf h i)[k] = 0)) := hid rfl
   generalize readP h aF s (readsOf h i)[k] = rb at *
   generalize (readsOf h i)[k] = rr at *
   obtain ⟨rk, rf⟩ := rr
   simp only at e0 e1 hkey HRD hrf
   have hkI : InI rk := inI_of (by unfold IntOk; omega)
   have hset := HW.out rk
   have HWE : Hid (readW h aF s (rk, rf) = if 0 ≤ rf then lackN (s &&& wrtN h rk) (withS (aF rf.toNat) rf) else s &&& wrtN h rk) := hid rfl
   have HLK2 := hid (fun wx (hx : Below w.heap.size w wx) => HLK.out wx hx rk hkI)
   generalize readW h aF s (rk, rf) = z at *
   generalize wrtN h rk = x at *
   have hand := Go.bits_and_u64_nat _ _ hs hset
   have hsx : IsSet (s &&& x) := isSet_and hs
   generalize s &&& x = sx at *
   have hbq := hbk.alloc hbk.size (.cells #[.int .i64 rk, .int .i64 rf] 133)
   obtain ⟨d0, d1⟩ : (wr.alloc (.cells #[.int .i64 rk, .int .i64 rf] 133)).cell? ⟨wr.heap.size, 0, none⟩ = some (.int .i64 rk) ∧ (wr.alloc (.cells #[.int .i64 rk, .int .i64 rf] 133)).cell? ⟨wr.heap.size, 1, none⟩ = some (.int .i64 rf) := by
    constructor <;> (rw [cell_of_row _ _ _ _ _ _ (heap_alloc_new wr _)]; rfl)
   go_upto_region 4 with fail
   clear e0 e1 hbk hkI hset
   generalize wr.alloc (.cells #[.int .i64 rk, .int .i64 rf] 133) = w5 at *
   generalize wr.heap.size = q at *
   have HBQ := hid (fun wx (hx : Below w5.heap.size w5 wx) => hbq.trans (hx.mono hbq.size))
   have HS := hid (fun wx (hx : Below w5.heap.size w5 wx) => And.intro (HP.out wx (hbq.trans (hx.mono hbq.size))) (And.intro ((hx.cell (p := ⟨q, 0, none⟩) (block_lt d0)).trans d0) (And.intro ((hx.cell (p := ⟨q, 1, none⟩) (block_lt d1)).trans d1) (HLK2.out wx (hbq.trans (hx.mono hbq.size))))))
   have kd := (Below.refl w5.heap.size w5).drew
   clear d0 d1 hbq
   refine wp_region_held_drew (S := Below w5.heap.size w5) (by kernel_rfl) kd (fun hS0 => ?_)
   refine tG (some 25) 0 ?vra0 rfl rfl (Or.inl ⟨by rfl, ?hra0⟩) hS0 ?rra0
   case hra0 => (intro w hw; obtain ⟨⟨m0, m1⟩, m2, m3, m4⟩ := HS.out _ hw; go_simp; try (with_reducible rfl))
   try simp only [Act.put, zA, zB, zC]
   refine tG (some 26) 1 ?vra1 rfl rfl (Or.inl ⟨by rfl, ?hra1⟩) hS0 ?rra1
   case hra1 => (intro w hw; obtain ⟨⟨m0, m1⟩, m2, m3, m4⟩ := HS.out _ hw; go_simp; try (with_reducible rfl))
   try simp only [Act.put, zA, zB, zC]
   refine tG (some 27) 2 ?vra2 rfl rfl (Or.inl ⟨by rfl, ?hra2⟩) hS0 ?rra2
   case hra2 => (intro w hw; obtain ⟨⟨m0, m1⟩, m2, m3, m4⟩ := HS.out _ hw; go_simp; try (with_reducible rfl))
   try simp only [Act.put, zA, zB, zC]
   refine tG (some 28) 3 ?vra3 rfl rfl (Or.inl ⟨by rfl, ?hra3⟩) hS0 ?rra3
   case hra3 => (intro w hw; obtain ⟨⟨m0, m1⟩, m2, m3, m4⟩ := HS.out _ hw; go_simp; try (with_reducible rfl))
   try simp only [Act.put, zA, zB, zC]
   refine tG (some 29) 4 ?vra4 rfl rfl (Or.inl ⟨by rfl, ?hra4⟩) hS0 ?rra4
   case hra4 => (intro w hw; obtain ⟨⟨m0, m1⟩, m2, m3, m4⟩ := HS.out _ hw; go_simp; try (with_reducible rfl))
   try simp only [Act.put, zA, zB, zC]
   refine tG (some 30) 5 ?vra5 rfl rfl (Or.inl ⟨by rfl, ?hra5⟩) hS0 ?rra5
   case hra5 => (intro w hw; obtain ⟨⟨m0, m1⟩, m2, m3, m4⟩ := HS.out _ hw; go_simp; try (with_reducible rfl))
   try simp only [Act.put, zA, zB, zC]
   refine tG (some 31) 6 ?vra6 rfl rfl (Or.inl ⟨by rfl, ?hra6⟩) hS0 ?rra6
   case hra6 => (intro w hw; obtain ⟨⟨m0, m1⟩, m2, m3, m4⟩ := HS.out _ hw; go_simp; try (with_reducible rfl))
   try simp only [Act.put, zA, zB, zC]
   refine tG (some 32) 7 ?vra7 rfl rfl (Or.inl ⟨by rfl, ?hra7⟩) hS0 ?rra7
   case hra7 => (intro w hw; obtain ⟨⟨m0, m1⟩, m2, m3, m4⟩ := HS.out _ hw; go_simp; try (with_reducible rfl))
   try simp only [Act.put, zA, zB, zC]
   refine tG (some 33) 8 ?vra8 rfl rfl (Or.inl ⟨by rfl, ?hra8⟩) hS0 ?rra8
   case hra8 => (intro w hw; obtain ⟨⟨m0, m1⟩, m2, m3, m4⟩ := HS.out _ hw; go_simp; try (with_reducible rfl))
   try simp only [Act.put, zA, zB, zC]
   refine tG (some 34) 9 ?vra9 rfl rfl (Or.inl ⟨by rfl, ?hra9⟩) hS0 ?rra9
   case hra9 => (intro w hw; obtain ⟨⟨m0, m1⟩, m2, m3, m4⟩ := HS.out _ hw; go_simp; try (with_reducible rfl))
   try simp only [Act.put, zA, zB, zC]
   refine tG (some 35) 10 ?vra10 rfl rfl (Or.inl ⟨by rfl, ?hra10⟩) hS0 ?rra10
   case hra10 => (intro w hw; obtain ⟨⟨m0, m1⟩, m2, m3, m4⟩ := HS.out _ hw; go_simp; try (with_reducible rfl))
   try simp only [Act.put, zA, zB, zC]
   refine tG (some 36) 11 ?vra11 rfl rfl (Or.inl ⟨by rfl, ?hra11⟩) hS0 ?rra11
   case hra11 => (intro w hw; obtain ⟨⟨m0, m1⟩, m2, m3, m4⟩ := HS.out _ hw; go_simp; try (with_reducible rfl))
   try simp only [Act.put, zA, zB, zC]
   refine tG (some 9) 12 ?vra12 rfl rfl (Or.inl ⟨by rfl, ?hra12⟩) hS0 ?rra12
   case hra12 => (intro w hw; obtain ⟨⟨m0, m1⟩, m2, m3, m4⟩ := HS.out _ hw; go_simp; try (with_reducible rfl))
   try simp only [Act.put, zA, zB, zC]
   refine wpAnyH_done (by kernel_rfl) ?_ _
   clear hand
   obtain ⟨⟨m0, m1⟩, m2, m3, m4⟩ := HS.out _ kd
   clear m4 m1
   go_upto_if 39 with fail
   go_cut [9] from 37 to 51 (fun v wx => v = .int .u64 (z : Int) ∧ Below w5.heap.size w5 wx)
   case first =>
    by_cases h0 : 0 ≤ rf
    ·obtain ⟨n, rfl⟩ := Int.eq_ofNat_of_zero_le h0
     have hn64 : n < 64 := by omega
     have hni : (n : Int) < 64 := by omega
     have hAn := HAS.out n hn64
     have CW := hid (fun wx => with_any (aF n) (n : Int) wx hAn)
     have HE : Hid (bits .andNot .u64 (sx : Int) ((withS (aF n) (n : Int) : Nat) : Int) = (z : Int)) := hid (by
      rw [bits_andNot_u64_nat _ _ hsx (isSet_withS hAn), HWE.out, if_pos h0, Int.toNat_natCast]; rfl)
     have HS3 := hid (fun wx (hx : Below w5.heap.size w5 wx) => And.intro (HS.out wx hx) (HA.out wx (HBQ.out wx hx) n hn64))
     generalize withS (aF n) (n : Int) = y at *
     generalize aF n = an at *
     clear m0 m2 hAn HWE HRD HYE HNO HS HA HAS
     go_upto_region 6 with fail
     refine wp_region_held_drew (S := Below w5.heap.size w5) (by kernel_rfl) kd.drew (fun hS0 => ?_)
     refine tG (some 40) 0 ?vrb0 rfl rfl (Or.inl ⟨by rfl, ?hrb0⟩) hS0 ?rrb0
     case hrb0 => (intro w hw; obtain ⟨⟨⟨m0, m1⟩, m2, m3, _⟩, m5⟩ := HS3.out _ hw; go_simp; try (with_reducible rfl))
     try simp only [Act.put, zA, zB, zC]
     refine tG (some 41) 1 ?vrb1 rfl rfl (Or.inl ⟨by rfl, ?hrb1⟩) hS0 ?rrb1
     case hrb1 => (intro w hw; obtain ⟨⟨⟨m0, m1⟩, m2, m3, _⟩, m5⟩ := HS3.out _ hw; go_simp; try (with_reducible rfl))
     try simp only [Act.put, zA, zB, zC]
     refine tG (some 42) 2 ?vrb2 rfl rfl (Or.inl ⟨by rfl, ?hrb2⟩) hS0 ?rrb2
     case hrb2 => (intro w hw; obtain ⟨⟨⟨m0, m1⟩, m2, m3, _⟩, m5⟩ := HS3.out _ hw; go_simp; try (with_reducible rfl))
     try simp only [Act.put, zA, zB, zC]
     refine tG (some 43) 3 ?vrb3 rfl rfl (Or.inl ⟨by rfl, ?hrb3⟩) hS0 ?rrb3
     case hrb3 => (intro w hw; obtain ⟨⟨⟨m0, m1⟩, m2, m3, _⟩, m5⟩ := HS3.out _ hw; go_simp; try (with_reducible rfl))
     try simp only [Act.put, zA, zB, zC]
     refine tG (some 44) 4 ?vrb4 rfl rfl (Or.inl ⟨by rfl, ?hrb4⟩) hS0 ?rrb4
     case hrb4 => (intro w hw; obtain ⟨⟨⟨m0, m1⟩, m2, m3, _⟩, m5⟩ := HS3.out _ hw; go_simp; try (with_reducible rfl))
     try simp only [Act.put, zA, zB, zC]
     refine tG (some 45) 5 ?vrb5 rfl rfl (Or.inl ⟨by rfl, ?hrb5⟩) hS0 ?rrb5
     case hrb5 => (intro w hw; obtain ⟨⟨⟨m0, m1⟩, m2, m3, _⟩, m5⟩ := HS3.out _ hw; go_simp; try (with_reducible rfl))
     try simp only [Act.put, zA, zB, zC]
     refine tG (some 46) 6 ?vrb6 rfl rfl (Or.inl ⟨by rfl, ?hrb6⟩) hS0 ?rrb6
     case hrb6 => (intro w hw; obtain ⟨⟨⟨m0, m1⟩, m2, m3, _⟩, m5⟩ := HS3.out _ hw; go_simp; try (with_reducible rfl))
     try simp only [Act.put, zA, zB, zC]
     refine tG (some 47) 7 ?vrb7 rfl rfl (Or.inl ⟨by rfl, ?hrb7⟩) hS0 ?rrb7
     case hrb7 => (intro w hw; obtain ⟨⟨⟨m0, m1⟩, m2, m3, _⟩, m5⟩ := HS3.out _ hw; go_simp; try (with_reducible rfl))
     try simp only [Act.put, zA, zB, zC]
     refine tG (some 48) 8 ?vrb8 rfl rfl (Or.inl ⟨by rfl, ?hrb8⟩) hS0 ?rrb8
     case hrb8 => (intro w hw; obtain ⟨⟨⟨m0, m1⟩, m2, m3, _⟩, m5⟩ := HS3.out _ hw; go_simp; try (with_reducible rfl))
     try simp only [Act.put, zA, zB, zC]
     refine tG (some 49) 9 ?vrb9 rfl rfl (Or.inl ⟨by rfl, ?hrb9⟩) hS0 ?rrb9
     case hrb9 => (intro w hw; obtain ⟨⟨⟨m0, m1⟩, m2, m3, _⟩, m5⟩ := HS3.out _ hw; go_simp; try (with_reducible rfl))
     try simp only [Act.put, zA, zB, zC]
     refine rD 10 rfl (fun K hK => ?_)
     go_simp
     refine (CW.out _).mono ?_
     rintro e y1 ⟨rfl, rfl⟩
     show K _ _
     refine hK.out _ _ hS0 (fun _ => ?_)
     clear hK K
     refine tG (some 51) 11 ?vrb11 rfl rfl (Or.inl ⟨by rfl, ?hrb11⟩) hS0 ?rrb11
     case hrb11 => (intro w hw; obtain ⟨⟨⟨m0, m1⟩, m2, m3, _⟩, m5⟩ := HS3.out _ hw; go_simp; try (with_reducible rfl))
     try simp only [Act.put, zA, zB, zC]
     refine tG (some 9) 12 ?vrb12 rfl rfl (Or.inl ⟨by rfl, ?hrb12⟩) hS0 ?rrb12
     case hrb12 => (intro w hw; obtain ⟨⟨⟨m0, m1⟩, m2, m3, _⟩, m5⟩ := HS3.out _ hw; go_simp; try (with_reducible rfl))
     try simp only [Act.put, zA, zB, zC]
     refine wpAnyH_done (by kernel_rfl) ?_ _
     rw [HE.out]
     go_wp2_with fail
     go_meet
     exact ⟨rfl, hS0⟩
    ·have HE : Hid (sx = z) := hid (by rw [HWE.out, if_neg h0])
     have h0 : ¬ (0 : Int) ≤ rf := h0
     go_wp2_with fail
     go_meet
     exact ⟨by rw [HE.out], kd⟩
   obtain ⟨rfl, hb6⟩ := hcut
   generalize wc = w6 at *
   have hbz := HBQ.out _ hb6
   clear m0 m2 m3 HS HBQ kd HWE HLK2
   by_cases hz : z = 0
   ·have HY := hid (HYE.out (by rw [HRD.out, decide_eq_true hz]))
    have hzi : (z : Int) = 0 := by omega
    clear HYE HNO HRD hz
    go_wp2_with fail
    go_roundw
    case rel => exact ⟨k + 1, by omega, by go_num, HY, hbz⟩
    case measure => simp [intOf]; omega
   ·have HY : Hid (false = readsP h aF s i) := hid (by rw [HR.out, HNO.out (by rw [HRD.out, decide_eq_false hz])])
    have hzi : ¬ (z : Int) = 0 := by omega
    clear HYE HNO HRD hz
    go_wp2_with fail
    go_ret
    exact ⟨ret_b HY.out, hbz⟩
  ·have hk2 : k = (readsOf h i).length := by omega
   subst hk2
   have HY : Hid (true = readsP h aF s i) := hid (by rw [HR.out]; have := HRO.out; rw [List.take_length] at this; exact this.symm)
   go_wp2_with fail
   go_ret
   exact ⟨ret_b HY.out, hbk⟩
end

end Go.Proofs.YtadihdkpoeibhaaGreatDoor
