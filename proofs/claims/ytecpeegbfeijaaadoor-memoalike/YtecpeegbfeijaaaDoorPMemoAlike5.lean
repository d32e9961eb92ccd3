/- Walks and plain facts that the proof of the statement MemoAlike uses, joined: MemF SeaC PlaH PlaI PlaG. Conditions: each theorem's own. -/
import Derived.Laws.BytesArg
import Derived.OwnWalk
import Derived.Deep.AppendLies
import Derived.Test.YtecpeegbfeijaaaDoorPMemoAlike2
import Derived.Test.YtecpeegbfeijaaaDoorPMemoAlike3
import Derived.Test.YtecpeegbfeijaaaDoorPMemoAlike4
namespace Go.Proofs.YtecpeegbfeijaaaDoor
set_option maxRecDepth 100000
open Go.RowKit

theorem infoByte : ((Tryd.prog.info? 5).map fun i => (i.zero, i.size, i.bytes)) = some (some (.int .u8 0), 1, 1) := by kernel_rfl
def u8V (l : List Nat) : List Value := l.map fun n : Nat => Value.int .u8 (n : Int)
/-- A table of bytes. -/
def ByAt (w : World) (A : Nat) (F : Nat → Nat) : Prop := ∀ i, i < 64 → w.cell? ⟨A, i, none⟩ = some (.int .u8 ((F i : Nat) : Int)) ∧ w.frozen? ⟨A, i, none⟩ = false
section
variable {w w' : World} {A : Nat} {F : Nat → Nat}
theorem ByAt.lt (h : ByAt w A F) : A < w.heap.size := block_lt (h 0 (by omega)).1
theorem ByAt.block (h : ByAt w A F) (hb : w'.heap[A]? = w.heap[A]?) : ByAt w' A F := fun i hi =>
  ⟨(World.cell?_of_block (a := ⟨A, i, none⟩) hb).trans (h i hi).1, (World.frozen?_of_block (a := ⟨A, i, none⟩) hb).trans (h i hi).2⟩
theorem ByAt.below {B : Nat} (h : ByAt w A F) (hb : Below B w w') (hB : A < B) : ByAt w' A F := h.block (hb.block A hB)
theorem ByAt.set (h : ByAt w A F) {i : Nat} (hi : i < 64) (s : Nat) : ByAt (w.setCell ⟨A, i, none⟩ (.int .u8 (s : Int))) A (updN F i s) := fun k hk => by
  refine ⟨?_, by rw [World.frozen?_setCell]; exact (h k hk).2⟩
  unfold updN
  by_cases e : k = i
  · subst e; rw [if_pos rfl]; exact World.cell?_setCell_same _ _ _ (h k hk).1
  · rw [if_neg e, World.cell?_setCell_other _ _ _ _ (fun q => e (by injection q with _ q2; exact q2.symm))]
    exact (h k hk).1
theorem ByAt.made (w : World) (t : TypeId) (cs : Array Value) (h : ∀ i, i < 64 → cs[i]? = some (.int .u8 0)) : ByAt (w.alloc (.cells cs t)) w.heap.size (fun _ => 0) := fun i hi => by
  have hn := heap_alloc_new w (.cells cs t)
  exact ⟨by rw [cell_of_row _ _ _ _ _ _ hn]; exact h i hi, frozen_of_row _ _ _ _ _ hn⟩
end
/-- A row of bytes as a text. -/
theorem row_bytes {w : World} {base : Nat} {v : Value} {l : List Nat} (h : w.ownsRow base 5 1 v l.length (u8V l)) : (convert 23 9 v).run Tryd.prog w = .ok (.string (byteB l)) w := by
  rcases h.2 with ⟨rfl, h0⟩ | ⟨g, cap, cur, rfl, _, hg, h1, _, h2, h3⟩
  · obtain rfl := List.eq_nil_of_length_eq_zero h0
    exact run_convert_bytes_nil (P := Tryd.prog) w 23 5 Tryd.underlying23 Tryd.underlying5 0 0 9 Tryd.underlying9
  · have := run_convert_bytes_arg (P := Tryd.prog) w 23 5 Tryd.underlying23 Tryd.underlying5 g 0 l.length cap (l.map Int.ofNat) (by simp) (fun i hi => by
      rw [Nat.zero_add, cell_of_row _ _ _ _ _ _ hg]
      have e : cur.toList[i]? = (u8V l)[i]? := by rw [← h3, Nat.mul_one, List.getElem?_take, if_pos hi]
      rw [← Array.getElem?_toList, e]
      unfold u8V
      simp [List.getD, hi]) 9 Tryd.underlying9
    rw [this]
    congr 2
    unfold strOfNums byteB
    rw [List.map_map]
    rfl
/-- Of a row the first k that came, the last one first. -/
def lastK (r : List Nat) (k : Nat) : List Nat := (r.reverse.take k).reverse
theorem lastK_succ (r : List Nat) (k : Nat) (hk : k < r.reverse.length) : lastK r (k + 1) = r.reverse[k] :: lastK r k := by
  unfold lastK; rw [List.take_succ_eq_append_getElem hk, List.reverse_append]; rfl
theorem lastK_all (r : List Nat) (k : Nat) (hk : k = r.length) : lastK r k = r := by
  unfold lastK; rw [List.take_of_length_le (by rw [List.length_reverse]; omega), List.reverse_reverse]
theorem aheadC_upd (h : List TxnV) (i : Nat) (r : List Nat) : aheadC h (i :: r) = updN (aheadC h r) i (wrOf h r).length := by
  funext k; unfold updN; rw [aheadC]
set_option maxHeartbeats 4000000 in
theorem mreaches_any (C : Nat) (hC : C < 9223372036854775808) (w : World) :
    Calls Tryd.prog 24 #[.int .i64 (C : Int)] w fun e w' => e = .returned (.bool (reachB C)) ∧ w = w' := by
  obtain ⟨q16, h16⟩ : ∃ q, bits .and .i64 (C : Int) 16 = q := ⟨_, rfl⟩
  obtain ⟨q4, h4⟩ : ∃ q, bits .and .i64 (C : Int) 4 = q := ⟨_, rfl⟩
  have e16 := bit_ne C 4 hC (by omega) h16
  have e4 := bit_ne C 2 hC (by omega) h4
  have HV : Hid (reachB C = (!decide (q4 = 0) && decide (q16 = 0))) := Lib.hid (by unfold reachB; rw [e16, e4]; cases decide (q16 = 0) <;> simp)
  clear e16 e4
  rw [HV.out]
  clear HV
  go_enter Tryd.func24, Tryd.ntmps24
  by_cases z4 : q4 = 0
  · have b4 : (q4 != 0) = false := by simp [z4]
    go_wp2_with fail
    go_ret
    exact ⟨by simp [z4], rfl⟩
  · have b4 : (q4 != 0) = true := by simp [z4]
    go_wp2_with fail
    go_ret
    refine ⟨?_, rfl⟩
    by_cases z16 : q16 = 0 <;> simp [z4, z16]
theorem lack_set {a b : Nat} (ha : IsSet a) : IsSet (lackN a b) := isSet_of_bits fun i hi => by
  unfold lackN
  rw [Nat.testBit_xor, Nat.testBit_and, ha.high hi]; simp
theorem zero_bytes (w : World) : ByAt (w.alloc (.cells #[.int .u8 0, .int .u8 0, .int .u8 0, .int .u8 0, .int .u8 0, .int .u8 0, .int .u8 0, .int .u8 0, .int .u8 0, .int .u8 0, .int .u8 0, .int .u8 0, .int .u8 0, .int .u8 0, .int .u8 0, .int .u8 0, .int .u8 0, .int .u8 0, .int .u8 0, .int .u8 0, .int .u8 0, .int .u8 0, .int .u8 0, .int .u8 0, .int .u8 0, .int .u8 0, .int .u8 0, .int .u8 0, .int .u8 0, .int .u8 0, .int .u8 0, .int .u8 0, .int .u8 0, .int .u8 0, .int .u8 0, .int .u8 0, .int .u8 0, .int .u8 0, .int .u8 0, .int .u8 0, .int .u8 0, .int .u8 0, .int .u8 0, .int .u8 0, .int .u8 0, .int .u8 0, .int .u8 0, .int .u8 0, .int .u8 0, .int .u8 0, .int .u8 0, .int .u8 0, .int .u8 0, .int .u8 0, .int .u8 0, .int .u8 0, .int .u8 0, .int .u8 0, .int .u8 0, .int .u8 0, .int .u8 0, .int .u8 0, .int .u8 0, .int .u8 0] 62)) w.heap.size (fun _ => 0) := ByAt.made w _ _ fun i hi => by
  rw [show (#[.int .u8 0, .int .u8 0, .int .u8 0, .int .u8 0, .int .u8 0, .int .u8 0, .int .u8 0, .int .u8 0, .int .u8 0, .int .u8 0, .int .u8 0, .int .u8 0, .int .u8 0, .int .u8 0, .int .u8 0, .int .u8 0, .int .u8 0, .int .u8 0, .int .u8 0, .int .u8 0, .int .u8 0, .int .u8 0, .int .u8 0, .int .u8 0, .int .u8 0, .int .u8 0, .int .u8 0, .int .u8 0, .int .u8 0, .int .u8 0, .int .u8 0, .int .u8 0, .int .u8 0, .int .u8 0, .int .u8 0, .int .u8 0, .int .u8 0, .int .u8 0, .int .u8 0, .int .u8 0, .int .u8 0, .int .u8 0, .int .u8 0, .int .u8 0, .int .u8 0, .int .u8 0, .int .u8 0, .int .u8 0, .int .u8 0, .int .u8 0, .int .u8 0, .int .u8 0, .int .u8 0, .int .u8 0, .int .u8 0, .int .u8 0, .int .u8 0, .int .u8 0, .int .u8 0, .int .u8 0, .int .u8 0, .int .u8 0, .int .u8 0, .int .u8 0] : Array Value) = (List.replicate 64 (Value.int .u8 0)).toArray from rfl, List.getElem?_toArray, List.getElem?_replicate, if_pos hi]
theorem hasB_bit {s : Nat} {j : Nat} (hj : j < 64) : hasB s (j : Int) = s.testBit j := by
  unfold hasB
  rw [Int.toNat_natCast, show decide (0 ≤ (j : Int) ∧ (j : Int) < 64) = true by simp; omega, Bool.true_and]
theorem own_form {w : World} {base : Nat} {e : TypeId} {size n : Nat} {v : Value} {xs : List Value} (h : w.ownsRow base e size v n xs) : ∃ ao cap, v = .slice ao n cap := by
  rcases h.2 with ⟨rfl, rfl⟩ | ⟨g, cap, cur, rfl, _⟩
  · exact ⟨_, _, rfl⟩
  · exact ⟨_, _, rfl⟩
theorem u8V_app (l : List Nat) (n : Nat) : u8V (l ++ [n]) = u8V l ++ [.int .u8 (n : Int)] := by unfold u8V; rw [List.map_append]; rfl
theorem wrap_u8 {n : Nat} (h : n < 256) : IntKind.u8.wrap (n : Int) = (n : Int) := by
  have : IntKind.u8.wrap (n : Int) = (n : Int) % 256 := by rfl
  rw [this]; omega
/-- A key in its own block. -/
structure KyAt (w : World) (g p : Nat) (s : ByteArray) : Prop where
  c0 : w.cell? ⟨g, 0, none⟩ = some (.int .u64 (p : Int))
  c1 : w.cell? ⟨g, 1, none⟩ = some (.string s)
  f0 : w.frozen? ⟨g, 0, none⟩ = false
  f1 : w.frozen? ⟨g, 1, none⟩ = false
section
variable {w w' : World} {g p : Nat} {s : ByteArray}
theorem KyAt.lt (h : KyAt w g p s) : g < w.heap.size := block_lt h.c0
theorem KyAt.block (h : KyAt w g p s) (hb : w'.heap[g]? = w.heap[g]?) : KyAt w' g p s :=
  ⟨(World.cell?_of_block (a := ⟨g, 0, none⟩) hb).trans h.c0, (World.cell?_of_block (a := ⟨g, 1, none⟩) hb).trans h.c1, (World.frozen?_of_block (a := ⟨g, 0, none⟩) hb).trans h.f0, (World.frozen?_of_block (a := ⟨g, 1, none⟩) hb).trans h.f1⟩
theorem KyAt.below (h : KyAt w g p s) (hb : Below w.heap.size w w') : KyAt w' g p s := h.block (hb.block g h.lt)
theorem KyAt.made (w : World) : KyAt (w.alloc (.cells #[.int .u64 0, .string ⟨#[]⟩] 38)) w.heap.size 0 ⟨#[]⟩ := by
  have hn := heap_alloc_new w (.cells #[.int .u64 0, .string ⟨#[]⟩] 38)
  refine ⟨?_, ?_, frozen_of_row _ _ _ _ _ hn, frozen_of_row _ _ _ _ _ hn⟩ <;> (rw [cell_of_row _ _ _ _ _ _ hn]; rfl)
theorem KyAt.set (h : KyAt w g p s) (q : Nat) (u : ByteArray) : KyAt ((w.setCell ⟨g, 0, none⟩ (.int .u64 (q : Int))).setCell ⟨g, 1, none⟩ (.string u)) g q u := by
  refine ⟨?_, ?_, ?_, ?_⟩
  · rw [World.cell?_setCell_other _ _ _ _ (by simp)]
    exact World.cell?_setCell_same _ _ _ h.c0
  · exact World.cell?_setCell_same _ _ _ (by rw [World.cell?_setCell_other _ _ _ _ (by simp)]; exact h.c1)
  · simp only [World.frozen?_setCell]; exact h.f0
  · simp only [World.frozen?_setCell]; exact h.f1
end
/-- What the loops of Of hold: the row of bytes, and the table of how many are ahead. -/
structure OfB (N A : Nat) (rv : Value) (bs : List Nat) (F : Nat → Nat) (w4 wr : World) : Prop where
  own : wr.ownsRow N 5 1 rv bs.length (u8V bs)
  tab : ByAt wr A F
  gr : w4.grownBy wr (some A)
  len : bs.length ≤ 128
section
variable {N A : Nat} {rv : Value} {bs : List Nat} {F : Nat → Nat} {w4 wr w6 : World}
theorem OfB.set (q : OfB N A rv bs F w4 wr) (hA : A < N) {i : Nat} (hi : i < 64) (s : Nat) : OfB N A rv bs (updN F i s) w4 (wr.setCell ⟨A, i, none⟩ (.int .u8 (s : Int))) := by
  have hs : Below 0 wr (wr.setCell ⟨A, i, none⟩ (.int .u8 (s : Int))) := (Below.refl 0 wr).setCell (Nat.zero_le _) _
  refine ⟨pl_far q.own hA _, q.tab.set hi s, ⟨hs.os.trans q.gr.os, hs.tape.trans q.gr.tape, hs.output.trans q.gr.output, Nat.le_trans q.gr.size hs.size, fun k hk hne => ?_⟩, q.len⟩
  rw [Below.heap_setCell wr ⟨A, i, none⟩ _ k (fun e => hne (by rw [e]))]
  exact q.gr.block k hk hne
theorem OfB.app (q : OfB N A rv bs F w4 wr) (hA : A < N) (hN : N = w4.heap.size) {o : Obj} {v' : Value} {n : Nat} (hl : bs.length + 1 ≤ 128) (hown : w6.ownsRow N 5 1 v' (bs.length + 1) (u8V bs ++ [.int .u8 (n : Int)])) (hg : (wr.alloc o).grownBy w6 rv.ownBlock) : OfB N A v' (bs ++ [n]) F w4 w6 := by
  have hlo := q.own.lt
  have hAr : rv.ownBlock ≠ some A := fun e => by have := (hlo A e).1; omega
  have hAl := q.tab.lt
  have hz : wr.heap.size ≤ (wr.alloc o).heap.size := by simp
  refine ⟨by rw [u8V_app, List.length_append]; exact hown, q.tab.block ((hg.block A (by omega) (fun e => hAr e.symm)).trans (Below.heap_alloc wr o A hAl)), ⟨hg.os.trans q.gr.os, hg.tape.trans q.gr.tape, hg.output.trans q.gr.output, Nat.le_trans q.gr.size (Nat.le_trans hz hg.size), fun k hk hne => ?_⟩, by rw [List.length_append]; exact hl⟩
  have hkr : k < wr.heap.size := Nat.lt_of_lt_of_le hk q.gr.size
  rw [hg.block k (by omega) (fun e => by have := (hlo k e.symm).1; omega), Below.heap_alloc wr o k hkr]
  exact q.gr.block k hk hne
theorem OfB.below (q : OfB N A rv bs F w4 wr) (hb : Below wr.heap.size wr w6) : OfB N A rv bs F w4 w6 :=
  ⟨owns_below q.own hb, q.tab.below hb q.tab.lt, ⟨hb.os.trans q.gr.os, hb.tape.trans q.gr.tape, hb.output.trans q.gr.output, Nat.le_trans q.gr.size hb.size, fun k hk hne => (hb.block k (Nat.lt_of_lt_of_le hk q.gr.size)).trans (q.gr.block k hk hne)⟩, q.len⟩
end
section
variable {W : World} {S B b : Nat} {h : List TxnV} {C : Nat} {r : List Nat} {vb vr : Value} {aF sF : Nat → Nat} {w : World}
set_option maxRecDepth 100000 in
set_option maxHeartbeats 16000000 in
theorem mof_any (p : PlIs W S B b h C r vb vr aF sF w) (hc : checkI h = 0) (hC : C < 9223372036854775808) :
    Calls Tryd.prog 9 #[.pointer (some ⟨B, 0, none⟩), .pointer (some ⟨S, 0, none⟩)] w fun e w' => e = .returned (kV (plS r) (keyB h C r)) ∧ Below w.heap.size w w' := by
  have h64 := (check_zero hc).1
  obtain ⟨i0, hi, hz0, hz1, hz2⟩ := info_parts infoByte
  have hrl : r.length ≤ 64 := by have := p.len; omega
  have hlt64 : ∀ k ∈ r, k < 64 := fun k hk => by have := p.lt k hk; omega
  have P := Lib.hid p
  have CP := Lib.hid (fun wx (hx : Below w.heap.size w wx) => pplaced_any (p.below hx))
  have CW := Lib.hid (fun wx (hx : Below w.heap.size w wx) => mwriters_any (p.below hx).ord hc)
  have CR := Lib.hid (fun wx (hx : Below w.heap.size w wx) => prow_at (p.below hx) h64)
  have CA := Lib.hid (fun wx (hx : Below w.heap.size w wx) => pasks_any (p.below hx))
  have CL := Lib.hid (fun wx (hx : Below w.heap.size w wx) => list_any (lackN (plS r) (wAllN h)) wx (lack_set (plS_set r)) (p.below hx).tab)
  have CH := Lib.hid (fun (n : Int) wx => has_any (wAllN h) n wx (wAll_set h))
  have CM := Lib.hid (fun wx => mreaches_any C hC wx)
  have HLT := Lib.hid hlt64
  have HLK : Hid (bits .andNot .u64 ((plS r : Nat) : Int) ((wAllN h : Nat) : Int) = ((lackN (plS r) (wAllN h) : Nat) : Int)) := Lib.hid (bits_andNot_u64_nat _ _ (plS_set r) (wAll_set h))
  have hb0 := box_below w (.cells #[.int .u64 0, .string ⟨#[]⟩] 38)
  have hky : ∀ wx, Below (w.heap.size + 1) (w.alloc (.cells #[.int .u64 0, .string ⟨#[]⟩] 38)) wx → KyAt wx w.heap.size 0 ⟨#[]⟩ := fun wx hx => by
    exact (KyAt.made w).block (hx.block w.heap.size (Nat.lt_succ_self _))
  have hs0 : (w.alloc (.cells #[.int .u64 0, .string ⟨#[]⟩] 38)).heap.size = w.heap.size + 1 := by simp
  have HKY := Lib.hid hky
  clear p hlt64 hky
  go_enter Tryd.func9, Tryd.ntmps9
  go_upto_region 1 with fail
  generalize w.alloc (.cells #[.int .u64 0, .string ⟨#[]⟩] 38) = w0 at *
  go_wp2_with fail
  refine (CP.out _ hb0).mono ?_
  rintro e wq ⟨rfl, rfl⟩
  go_wp2_with fail
  refine (CW.out _ hb0).mono ?_
  rintro e w1 ⟨rfl, hb1⟩
  have hk1 : Below (w.heap.size + 1) w0 w1 := by rw [← hs0]; exact hb1
  have hb1 := below_then hb0 hb1
  clear hb0 CP CW
  go_upto_region 4 with fail
  have z2 := zero_bytes w1
  have hb2 := hb1.alloc hb1.size (.cells #[.int .u8 0, .int .u8 0, .int .u8 0, .int .u8 0, .int .u8 0, .int .u8 0, .int .u8 0, .int .u8 0, .int .u8 0, .int .u8 0, .int .u8 0, .int .u8 0, .int .u8 0, .int .u8 0, .int .u8 0, .int .u8 0, .int .u8 0, .int .u8 0, .int .u8 0, .int .u8 0, .int .u8 0, .int .u8 0, .int .u8 0, .int .u8 0, .int .u8 0, .int .u8 0, .int .u8 0, .int .u8 0, .int .u8 0, .int .u8 0, .int .u8 0, .int .u8 0, .int .u8 0, .int .u8 0, .int .u8 0, .int .u8 0, .int .u8 0, .int .u8 0, .int .u8 0, .int .u8 0, .int .u8 0, .int .u8 0, .int .u8 0, .int .u8 0, .int .u8 0, .int .u8 0, .int .u8 0, .int .u8 0, .int .u8 0, .int .u8 0, .int .u8 0, .int .u8 0, .int .u8 0, .int .u8 0, .int .u8 0, .int .u8 0, .int .u8 0, .int .u8 0, .int .u8 0, .int .u8 0, .int .u8 0, .int .u8 0, .int .u8 0, .int .u8 0] 62)
  have hk2 := hk1.alloc (by rw [← hs0]; exact hk1.size) (.cells #[.int .u8 0, .int .u8 0, .int .u8 0, .int .u8 0, .int .u8 0, .int .u8 0, .int .u8 0, .int .u8 0, .int .u8 0, .int .u8 0, .int .u8 0, .int .u8 0, .int .u8 0, .int .u8 0, .int .u8 0, .int .u8 0, .int .u8 0, .int .u8 0, .int .u8 0, .int .u8 0, .int .u8 0, .int .u8 0, .int .u8 0, .int .u8 0, .int .u8 0, .int .u8 0, .int .u8 0, .int .u8 0, .int .u8 0, .int .u8 0, .int .u8 0, .int .u8 0, .int .u8 0, .int .u8 0, .int .u8 0, .int .u8 0, .int .u8 0, .int .u8 0, .int .u8 0, .int .u8 0, .int .u8 0, .int .u8 0, .int .u8 0, .int .u8 0, .int .u8 0, .int .u8 0, .int .u8 0, .int .u8 0, .int .u8 0, .int .u8 0, .int .u8 0, .int .u8 0, .int .u8 0, .int .u8 0, .int .u8 0, .int .u8 0, .int .u8 0, .int .u8 0, .int .u8 0, .int .u8 0, .int .u8 0, .int .u8 0, .int .u8 0, .int .u8 0] 62)
  have hs2 : (w1.alloc (.cells #[.int .u8 0, .int .u8 0, .int .u8 0, .int .u8 0, .int .u8 0, .int .u8 0, .int .u8 0, .int .u8 0, .int .u8 0, .int .u8 0, .int .u8 0, .int .u8 0, .int .u8 0, .int .u8 0, .int .u8 0, .int .u8 0, .int .u8 0, .int .u8 0, .int .u8 0, .int .u8 0, .int .u8 0, .int .u8 0, .int .u8 0, .int .u8 0, .int .u8 0, .int .u8 0, .int .u8 0, .int .u8 0, .int .u8 0, .int .u8 0, .int .u8 0, .int .u8 0, .int .u8 0, .int .u8 0, .int .u8 0, .int .u8 0, .int .u8 0, .int .u8 0, .int .u8 0, .int .u8 0, .int .u8 0, .int .u8 0, .int .u8 0, .int .u8 0, .int .u8 0, .int .u8 0, .int .u8 0, .int .u8 0, .int .u8 0, .int .u8 0, .int .u8 0, .int .u8 0, .int .u8 0, .int .u8 0, .int .u8 0, .int .u8 0, .int .u8 0, .int .u8 0, .int .u8 0, .int .u8 0, .int .u8 0, .int .u8 0, .int .u8 0, .int .u8 0] 62)).heap.size = w1.heap.size + 1 := by simp
  have hA1 : w.heap.size + 1 ≤ w1.heap.size := by have := hk1.size; omega
  clear hb1 hk1 hs0
  generalize w1.alloc (.cells #[.int .u8 0, .int .u8 0, .int .u8 0, .int .u8 0, .int .u8 0, .int .u8 0, .int .u8 0, .int .u8 0, .int .u8 0, .int .u8 0, .int .u8 0, .int .u8 0, .int .u8 0, .int .u8 0, .int .u8 0, .int .u8 0, .int .u8 0, .int .u8 0, .int .u8 0, .int .u8 0, .int .u8 0, .int .u8 0, .int .u8 0, .int .u8 0, .int .u8 0, .int .u8 0, .int .u8 0, .int .u8 0, .int .u8 0, .int .u8 0, .int .u8 0, .int .u8 0, .int .u8 0, .int .u8 0, .int .u8 0, .int .u8 0, .int .u8 0, .int .u8 0, .int .u8 0, .int .u8 0, .int .u8 0, .int .u8 0, .int .u8 0, .int .u8 0, .int .u8 0, .int .u8 0, .int .u8 0, .int .u8 0, .int .u8 0, .int .u8 0, .int .u8 0, .int .u8 0, .int .u8 0, .int .u8 0, .int .u8 0, .int .u8 0, .int .u8 0, .int .u8 0, .int .u8 0, .int .u8 0, .int .u8 0, .int .u8 0, .int .u8 0, .int .u8 0] 62) = w2 at *
  generalize w1.heap.size = A at *
  go_wp2_with fail
  refine (CR.out _ hb2).mono ?_
  rintro e w4 ⟨v, rfl, rfl, hI, hb4⟩
  have z4 := z2.below hb4 z2.lt
  have hk4 : Below (w.heap.size + 1) w0 w4 := hk2.trans (hb4.mono (by omega))
  have hb4 := below_then hb2 hb4
  rw [hs2] at hI ⊢
  have hA : A < w4.heap.size := z4.lt
  have hAw : w.heap.size ≤ A := by omega
  have hw4 : w.heap.size + 1 ≤ w4.heap.size := by omega
  have HI := Lib.hid (fun wx (hg : w4.grownBy wx (some A)) => hI.grown hg (fun b e e2 => by
    simp only [Value.ownBlock, Option.some.injEq] at e e2
    omega))
  have HG := Lib.hid (fun wx (hg : w4.grownBy wx (some A)) => hb4.grown hg hb4.size (fun j e => by injection e with e; omega))
  have HKG := Lib.hid (fun wx (hg : w4.grownBy wx (some A)) => hk4.grown hg hw4 (fun j e => by injection e with e; omega))
  have q0 : OfB w4.heap.size A (.slice none 0 0) [] (fun _ => 0) w4 w4 := ⟨World.ownsRow_nil _ _ _ _, z4, World.grownBy.refl _ _, by simp⟩
  clear hs2 CR z2 z4 hb2 hk2 hk4 hb4 hI
  go_wp2_with fail
  go_loopw [7, 20] (fun rv iv wr => ∃ (k : Nat) (bs : List Nat) (F : Nat → Nat), k ≤ r.length ∧ iv = .int .i64 k ∧ bs.length ≤ k ∧ OfB w4.heap.size A rv bs F w4 wr ∧ Hid (bs = (wrOf h (lastK r k)).reverse ∧ F = aheadC h (lastK r k))) (fun _ iv _ => r.length - (intOf iv).toNat)
  case atStart => exact ⟨0, [], fun _ => 0, Nat.zero_le _, rfl, Nat.zero_le _, q0, Lib.hid ⟨rfl, rfl⟩⟩
  case round =>
    clear q0
    obtain ⟨k, bs, F, hk, rfl, hbk, q, HQ⟩ := hrel
    obtain ⟨ro, rc, rfl⟩ := own_form q.own
    by_cases hkl : k < r.length
    · have hki : (k : Int) < (r.length : Int) := by omega
      have hkL : k < r.reverse.length := by rw [List.length_reverse]; exact hkl
      obtain ⟨ga, oa, hao, e0⟩ := ints_at (HI.out _ q.gr) hkL
      cases hao
      rw [Nat.zero_add] at e0
      have hi64 : r.reverse[k] < 64 := HLT.out _ (List.mem_reverse.1 (List.getElem_mem hkL))
      have HL1 := Lib.hid (lastK_succ r k hkL)
      generalize r.reverse[k] = i at *
      have hi64i : (i : Int) < 64 := by omega
      have hb64 : bs.length < 256 := by omega
      have hwl := wrap_u8 hb64
      have hwi := wrap_u8 (show i < 256 by omega)
      obtain ⟨t0, t1⟩ := q.tab i hi64
      have HS := Lib.hid (q.set hA hi64 bs.length)
      have CHI := Lib.hid (fun wx => CH.out (i : Int) wx)
      rw [hasB_bit hi64] at CHI
      clear q
      go_upto_region 8 with fail
      have q := HS.out
      clear HS t0 t1 e0
      generalize wr.setCell ⟨A, i, none⟩ (.int .u8 (bs.length : Int)) = w5 at *
      go_wp2_with fail
      refine (CHI.out _).mono ?_
      rintro e wq ⟨rfl, rfl⟩
      clear CHI
      cases hw : (wAllN h).testBit i with
      | true =>
        have HR : Hid (bs ++ [i] = (wrOf h (lastK r (k + 1))).reverse ∧ updN F i bs.length = aheadC h (lastK r (k + 1))) := Lib.hid (by
          obtain ⟨a1, a2⟩ := HQ.out
          rw [HL1.out, wrOf_cons, if_pos hw, List.reverse_cons, ← a1, aheadC_upd, ← a2, a1, List.length_reverse]
          exact ⟨rfl, rfl⟩)
        have hown := q.own
        clear HQ HL1 hw
        go_wp2_with (at_builtin; refine wpList_append_own _ rfl _ _ 23 rfl w4.heap.size 5 i0 (.int .u8 0) 1 1 Tryd.underlying23 hi hz0 hz1 hz2 rfl (by decide) _ _ _ rfl (hown.alloc _) ⟨_, 0, none⟩ 1 1 [.int .u8 (i : Int)] rfl rfl ?c1 ?c2 ?c3 ?c4 ?c5 ?_)
        try case c1 => exact cell_one_new _ _ _
        case c2 => first | rfl | (intro u hu; simp at hu; subst hu; rfl)
        case c3 => unfold maxLen; omega
        case c4 => omega
        case c5 => have := q.gr.size; simp; omega
        intro v6 w6 hown6 hg6 _
        have q := q.app hA rfl (by omega) hown6 hg6
        clear hown hown6 hg6
        go_wp2_with fail
        go_roundw
        case rel => exact ⟨k + 1, bs ++ [i], _, by omega, by go_num, by simp; omega, q, HR⟩
        case measure => simp [intOf]; omega
      | false =>
        have HR : Hid (bs = (wrOf h (lastK r (k + 1))).reverse ∧ updN F i bs.length = aheadC h (lastK r (k + 1))) := Lib.hid (by
          obtain ⟨a1, a2⟩ := HQ.out
          rw [HL1.out, wrOf_cons, hw, aheadC_upd, ← a2, a1, List.length_reverse]
          exact ⟨rfl, rfl⟩)
        clear HQ HL1 hw
        go_wp2_with fail
        go_roundw
        case rel => exact ⟨k + 1, bs, _, by omega, by go_num, by omega, q, HR⟩
        case measure => simp [intOf]; omega
    · have hkn : k = r.length := by omega
      have HV : Hid (bs = (wrOf h r).reverse ∧ F = aheadC h r) := Lib.hid (by have := HQ.out; rwa [lastK_all r k hkn] at this)
      have hbl : bs.length ≤ 64 := by omega
      have CA1 := Lib.hid (CA.out _ (HG.out _ q.gr))
      clear HQ hkl hbk CA HI HLT
      subst hkn
      go_wp2_with fail
      refine CA1.out.mono ?_
      rintro e wq ⟨rfl, rfl⟩
      go_wp2_with fail
      refine (CM.out _).mono ?_
      rintro e wq ⟨rfl, rfl⟩
      clear CA1 CM
      cases hpf : reachB C with
      | false =>
        have HE : Hid (keyB h C r = byteB bs) := Lib.hid (by unfold keyB keyL; rw [hpf, HV.out.1]; simp)
        clear CL CH hpf
        have hcv := row_bytes q.own
        have KY := Lib.hid ((HKY.out _ (HKG.out _ q.gr)).set (plS r) (byteB bs))
        obtain ⟨y0, y1, y2, y3⟩ := HKY.out _ (HKG.out _ q.gr)
        have hZ := ((HG.out _ q.gr).setCell (p := ⟨w.heap.size, 0, none⟩) (Nat.le_refl _) (.int .u64 ((plS r : Nat) : Int))).setCell (p := ⟨w.heap.size, 1, none⟩) (Nat.le_refl _) (.string (byteB bs))
        have HZ := Lib.hid hZ
        clear hZ
        go_wp2_with fail
        obtain ⟨d0, d1, _, _⟩ := KY.out
        refine bodyPost_ret (v := .agg #[.int .u64 ((plS r : Nat) : Int), .string (byteB bs)]) ?_ rfl ⟨by rw [HE.out]; rfl, HZ.out⟩
        simp [results, Tryd.results9, go_sem, d0, d1]
      | true =>
        have CL1 := Lib.hid (CL.out _ (HG.out _ q.gr))
        have HE : Hid (keyB h C r = byteB (bs ++ (lst (lackN (plS r) (wAllN h))).map F)) := Lib.hid (by unfold keyB keyL; rw [hpf, HV.out.1, HV.out.2]; simp)
        have HLS : Hid (∀ n ∈ lst (lackN (plS r) (wAllN h)), n < 64) := Lib.hid (fun n hn => (mem_lst.1 hn).1)
        have hll : (lst (lackN (plS r) (wAllN h))).length ≤ 64 := by
          unfold lst lstTo
          exact Nat.le_trans (List.length_filter_le _ _) (by simp)
        have hlk := HLK.out
        clear CL CH hpf HV
        go_wp2_with fail
        clear hlk
        refine CL1.out.mono ?_
        rintro e w7 ⟨vl, rfl, hvl, hb7⟩
        have q := q.below hb7
        clear CL1 hb7
        generalize lst (lackN (plS r) (wAllN h)) = ls at *
        obtain ⟨lo, lc, rfl⟩ := own_form hvl
        generalize wr.heap.size = N7 at *
        go_wp2_with fail
        go_loopw [7, 46] (fun rv iv wx => ∃ (j : Nat) (cs : List Nat), j ≤ ls.length ∧ iv = .int .i64 j ∧ cs.length ≤ 64 + j ∧ OfB w4.heap.size A rv cs F w4 wx ∧ wx.ownsRow N7 3 1 (.slice lo ls.length lc) ls.length (ls.map fun i : Nat => Value.int .i64 (i : Int)) ∧ Hid (cs = bs ++ (ls.take j).map F)) (fun _ iv _ => ls.length - (intOf iv).toNat)
        case atStart => exact ⟨0, bs, Nat.zero_le _, rfl, by omega, q, hvl, Lib.hid (by simp)⟩
        case round =>
          clear q hvl
          obtain ⟨j, cs, hj, rfl, hcl, q, hvl, HC⟩ := hrel
          obtain ⟨ro, rc, rfl⟩ := own_form q.own
          by_cases hjl : j < ls.length
          · have hji : (j : Int) < (ls.length : Int) := by omega
            obtain ⟨ga, oa, hao, e0⟩ := ints_at (Ints.of_nats hvl) hjl
            cases hao
            have hn64 := HLS.out _ (List.getElem_mem hjl)
            have HR : Hid (cs ++ [F ls[j]] = bs ++ (ls.take (j + 1)).map F) := Lib.hid (by rw [HC.out, List.take_succ_eq_append_getElem hjl, List.map_append, List.append_assoc]; rfl)
            generalize ls[j] = n at *
            have hn64i : (n : Int) < 64 := by omega
            obtain ⟨t0, t1⟩ := q.tab n hn64
            generalize F n = x at *
            have hown := q.own
            clear HC t1
            go_wp2_with (at_builtin; refine wpList_append_own _ rfl _ _ 23 rfl w4.heap.size 5 i0 (.int .u8 0) 1 1 Tryd.underlying23 hi hz0 hz1 hz2 rfl (by decide) _ _ _ rfl (hown.alloc _) ⟨_, 0, none⟩ 1 1 [.int .u8 (x : Int)] rfl rfl ?c1 ?c2 ?c3 ?c4 ?c5 ?_)
            try case c1 => exact cell_one_new _ _ _
            case c2 => first | rfl | (intro u hu; simp at hu; subst hu; rfl)
            case c3 => unfold maxLen; omega
            case c4 => omega
            case c5 => have := q.gr.size; simp; omega
            intro v6 w6 hown6 hg6 _
            have hvl := (hvl.alloc (.cells #[.int .u8 (x : Int)] 5)).kept hg6 (owns_apart (hvl.alloc (.cells #[.int .u8 (x : Int)] 5)) (hown.alloc (.cells #[.int .u8 (x : Int)] 5)) (by decide))
            have q := q.app hA rfl (by omega) hown6 hg6
            clear hown hown6 hg6 e0 t0
            go_wp2_with fail
            go_roundw
            case rel => exact ⟨j + 1, cs ++ [x], by omega, by go_num, by simp; omega, q, hvl, HR⟩
            case measure => simp [intOf]; omega
          · have hjn : j = ls.length := by omega
            have HE : Hid (keyB h C r = byteB cs) := Lib.hid (by rw [HE.out, HC.out, List.take_of_length_le (by omega)])
            clear HC hvl hjl
            have hcv := row_bytes q.own
            have KY := Lib.hid ((HKY.out _ (HKG.out _ q.gr)).set (plS r) (byteB cs))
            obtain ⟨y0, y1, y2, y3⟩ := HKY.out _ (HKG.out _ q.gr)
            have hZ := ((HG.out _ q.gr).setCell (p := ⟨w.heap.size, 0, none⟩) (Nat.le_refl _) (.int .u64 ((plS r : Nat) : Int))).setCell (p := ⟨w.heap.size, 1, none⟩) (Nat.le_refl _) (.string (byteB cs))
            have HZ := Lib.hid hZ
            clear hZ
            go_wp2_with fail
            obtain ⟨d0, d1, _, _⟩ := KY.out
            refine bodyPost_ret (v := .agg #[.int .u64 ((plS r : Nat) : Int), .string (byteB cs)]) ?_ rfl ⟨by rw [HE.out]; rfl, HZ.out⟩
            simp [results, Tryd.results9, go_sem, d0, d1]
end
end Go.Proofs.YtecpeegbfeijaaaDoor

namespace Go.Proofs.YtecpeegbfeijaaaDoor
set_option maxRecDepth 100000
open Go.RowKit

/-- A state; what it hangs on lay there in w0. -/
def PlX (w0 : World) (N S B b : Nat) (h : List TxnV) (C : Nat) (r : List Nat) (vb vr : Value) (aF sF : Nat → Nat) (w : World) : Prop :=
  ∃ W, Below w0.heap.size w0 W ∧ W.heap.size = N ∧ PlIs W S B b h C r vb vr aF sF w
/-- From one world to a later one blocks of Q alone are changed. -/
structure ApartQ (Q : Nat → Prop) (w w' : World) : Prop where
  os : w'.os = w.os
  tape : w'.tape = w.tape
  output : w'.output = w.output
  size : w.heap.size ≤ w'.heap.size
  block : ∀ k, k < w.heap.size → ¬ Q k → w'.heap[k]? = w.heap[k]?
theorem ApartQ.of_grown {w w' : World} {T : Nat} (hg : w.grownBy w' (some T)) : ApartQ (fun k => k = T) w w' := ⟨hg.os, hg.tape, hg.output, hg.size, fun k hk hn => hg.block k hk fun e => hn (by injection e)⟩
theorem ApartQ.of_step {S : Nat} {vr vr' : Value} {w w' : World} (k : PlStep S vr vr' w w') : ApartQ (fun x => x = S ∨ vr.ownBlock = some x) w w' := ⟨k.os, k.tape, k.output, k.size, fun x hx hn => k.block x hx (fun e => hn (.inl e)) (fun e => hn (.inr e))⟩
theorem ApartQ.of_below {Q : Nat → Prop} {w w' : World} (hb : Below w.heap.size w w') : ApartQ Q w w' := ⟨hb.os, hb.tape, hb.output, hb.size, fun k hk _ => hb.block k hk⟩
theorem own_block {w w' : World} {base : Nat} {e : TypeId} {size n : Nat} {v : Value} {xs : List Value} (h : w.ownsRow base e size v n xs) (hg : ∀ g, v.ownBlock = some g → w'.heap[g]? = w.heap[g]?) : w'.ownsRow base e size v n xs := by
  refine ⟨h.1, ?_⟩
  rcases h.2 with hn | ⟨g, cap, cur, rfl, hb, hgg, rest⟩
  · exact .inl hn
  · exact .inr ⟨g, cap, cur, rfl, hb, (hg g rfl).trans hgg, rest⟩
section
variable {w0 W w w' : World} {N S B b T : Nat} {h : List TxnV} {C : Nat} {r : List Nat} {vb vr : Value} {aF sF : Nat → Nat}
theorem PlX.below (p : PlX w0 N S B b h C r vb vr aF sF w) (hb : Below w.heap.size w w') : PlX w0 N S B b h C r vb vr aF sF w' := by
  obtain ⟨W, h1, h2, q⟩ := p; exact ⟨W, h1, h2, q.below hb⟩
theorem PlX.lowS (p : PlX w0 N S B b h C r vb vr aF sF w) : N ≤ S ∧ S < w.heap.size ∧ w0.heap.size ≤ N := by
  obtain ⟨W, h1, h2, q⟩ := p; rw [← h2]; exact ⟨q.low, q.a.lt, h1.size⟩
theorem PlX.own (p : PlX w0 N S B b h C r vb vr aF sF w) : (∀ g, vb.ownBlock = some g → S < g ∧ g < w.heap.size) ∧ ∀ g, vr.ownBlock = some g → S < g ∧ g < w.heap.size := by
  obtain ⟨W, h1, h2, q⟩ := p
  exact ⟨fun g hg => q.ba.lt g hg, fun g hg => q.rw.lt g hg⟩
/-- Other blocks are changed. -/
theorem PlX.apart (p : PlX w0 N S B b h C r vb vr aF sF w) (hO : OrdIs w0 B b h) (ht : Tab w0) {Q : Nat → Prop} (hg : ApartQ Q w w') (h0 : ∀ k, Q k → w0.heap.size ≤ k) (hS : ¬ Q S) (hvb : ∀ g, vb.ownBlock = some g → ¬ Q g) (hvr : ∀ g, vr.ownBlock = some g → ¬ Q g) : PlX w0 N S B b h C r vb vr aF sF w' := by
  obtain ⟨W, h1, rfl, q⟩ := p
  have hSl := q.a.lt
  have hlow := q.low
  have hws := q.bel.size
  have hgs := hg.size
  have hsz : (w'.heap.extract 0 W.heap.size).size = W.heap.size := by simp; omega
  have hget : ∀ k, k < W.heap.size → (w'.heap.extract 0 W.heap.size)[k]? = w'.heap[k]? := fun k hk => by
    rw [Array.getElem?_extract]; simp; omega
  have hB : Below w0.heap.size w0 { W with heap := w'.heap.extract 0 W.heap.size } := by
    refine ⟨h1.os, h1.tape, h1.output, ?_, fun k hk => ?_⟩
    · show w0.heap.size ≤ (w'.heap.extract 0 W.heap.size).size
      rw [hsz]; exact h1.size
    · have hkW : k < W.heap.size := Nat.lt_of_lt_of_le hk h1.size
      show (w'.heap.extract 0 W.heap.size)[k]? = _
      rw [hget k hkW, hg.block k (by omega) (fun e => by have := h0 k e; omega), q.bel.block k hkW]
      exact h1.block k hk
  refine ⟨{ W with heap := w'.heap.extract 0 W.heap.size }, hB, hsz, hO.below hB, ht.below hB ht.pos, ?_, ?_, ?_, ?_, ?_, q.ne, q.set, q.eq, q.nd, q.lt, q.base⟩
  · refine ⟨hg.os.trans q.bel.os, hg.tape.trans q.bel.tape, hg.output.trans q.bel.output, ?_, fun k hk => ?_⟩
    · show (w'.heap.extract 0 W.heap.size).size ≤ _
      rw [hsz]; omega
    · have hk : k < W.heap.size := by rw [← hsz]; exact hk
      exact (hget k hk).symm
  · show (w'.heap.extract 0 W.heap.size).size ≤ S
    rw [hsz]; exact hlow
  · intro i hi
    obtain ⟨a1, a2⟩ := q.a i hi
    have hb := hg.block S hSl hS
    exact ⟨(World.cell?_of_block (a := ⟨S, i, none⟩) hb).trans a1, (World.frozen?_of_block (a := ⟨S, i, none⟩) hb).trans a2⟩
  · exact own_block q.ba fun g e => hg.block g (q.ba.lt g e).2 (hvb g e)
  · exact own_block q.rw fun g e => hg.block g (q.rw.lt g e).2 (hvr g e)
end
end Go.Proofs.YtecpeegbfeijaaaDoor

namespace Go.Proofs.YtecpeegbfeijaaaDoor
set_option maxRecDepth 100000
open Go.RowKit

theorem heap_set_far (w : World) (p : Addr) (u : Value) (k : Nat) (hk : k ≠ p.block) : (w.setCell p u).heap[k]? = w.heap[k]? := Below.heap_setCell w p u k (fun e => hk e)
theorem PlStep.setCell {S : Nat} {v1 v2 : Value} {w w' : World} (h : PlStep S v1 v2 w w') (o : Nat) (u : Value) : PlStep S v1 v2 w (w'.setCell ⟨S, o, none⟩ u) := by
  refine ⟨h.os, h.tape, h.output, by have := h.size; simpa using this, fun k hk hs hv => ?_, h.own⟩
  rw [heap_set_far w' ⟨S, o, none⟩ u k hs]
  exact h.block k hk hs hv
theorem PlStep.below {S : Nat} {v1 v2 : Value} {w w' w'' : World} (h : PlStep S v1 v2 w w') (hb : Below w'.heap.size w' w'') : PlStep S v1 v2 w w'' := h.trans (.of_below hb)
theorem PlStep.grown {S : Nat} {v1 v2 v3 : Value} {w w' w'' : World} (h : PlStep S v1 v2 w w') (hg : w'.grownBy w'' v2.ownBlock) (ho : ∀ g, v3.ownBlock = some g → v2.ownBlock = some g ∨ g = w'.heap.size) : PlStep S v1 v3 w w'' := by
  refine ⟨hg.os.trans h.os, hg.tape.trans h.tape, hg.output.trans h.output, Nat.le_trans h.size hg.size, fun k hk hs hv => ?_, fun g hgo => ?_⟩
  · refine (hg.block k (Nat.lt_of_lt_of_le hk h.size) (fun e => ?_)).trans (h.block k hk hs hv)
    rcases h.own k e.symm with q | q
    · exact hv q
    · omega
  · rcases ho g hgo with q | q
    · exact h.own g q
    · exact .inr (by have := h.size; omega)
theorem PlStep.as {S : Nat} {v1 v2 v3 : Value} {w w' : World} (h : PlStep S v1 v2 w w') (e : v3.ownBlock = v2.ownBlock) : PlStep S v1 v3 w w' := ⟨h.os, h.tape, h.output, h.size, h.block, fun g hg => h.own g (by rw [← e]; exact hg)⟩
theorem owns_less {w : World} {base n cap : Nat} {e : TypeId} {ao : Option Addr} {xs : List Value} {x : Value} (h : w.ownsRow base e 1 (.slice ao (n + 1) cap) (n + 1) (xs ++ [x])) : w.ownsRow base e 1 (.slice ao n cap) n xs := by
  obtain ⟨hl, h⟩ := h
  have hn : xs.length = n := by simp at hl; omega
  refine ⟨by omega, ?_⟩
  rcases h with ⟨hv, h0⟩ | ⟨g, cap', cur, hv, hb, hh, hc, hm, hs, ht⟩
  · omega
  · obtain ⟨e1, e2, e3⟩ : ao = some ⟨g, 0, none⟩ ∧ n + 1 = n + 1 ∧ cap = cap' := by simpa using hv
    subst e1 e3
    refine .inr ⟨g, cap, cur, rfl, hb, hh, by omega, hm, hs, ?_⟩
    have := congrArg (List.take (n * 1)) ht
    rw [List.take_take, Nat.min_eq_left (by omega)] at this
    rw [this, Nat.mul_one, ← hn, List.take_left]
theorem own_len (ao : Option Addr) (n m c d : Nat) : (Value.slice ao n c).ownBlock = (Value.slice ao m d).ownBlock := by cases ao <;> rfl
section
variable {W : World} {S B b : Nat} {h : List TxnV} {C : Nat} {r : List Nat} {vb vr : Value} {aF sF : Nat → Nat} {w : World}
theorem PlIs.undo {i : Nat} {ao : Option Addr} {cap : Nat} (p : PlIs W S B b h C (i :: r) vb (.slice ao (r.length + 1) cap) aF sF w) :
    PlIs W S B b h C r vb (.slice ao r.length cap) aF sF ((w.setCell ⟨S, 3, none⟩ (.slice ao r.length cap)).setCell ⟨S, 4, none⟩ (.int .u64 ((plS r : Nat) : Int))) ∧
    PlStep S (.slice ao (r.length + 1) cap) (.slice ao r.length cap) w ((w.setCell ⟨S, 3, none⟩ (.slice ao r.length cap)).setCell ⟨S, 4, none⟩ (.int .u64 ((plS r : Nat) : Int))) := by
  obtain ⟨hi, hnd⟩ := List.nodup_cons.1 p.nd
  have hrw := p.rw
  rw [List.reverse_cons, List.map_append, List.length_cons] at hrw
  have hne : ∀ k ∈ r, k ≠ i := fun k hk e => hi (by rw [← e]; exact hk)
  refine ⟨⟨p.o, p.t, (p.bel.setCell (p := ⟨S, 3, none⟩) p.low _).setCell (p := ⟨S, 4, none⟩) p.low _, p.low, (p.a.setR _).setP _, pl_far (pl_far p.ba (by simp) _) (by simp) _, pl_far (pl_far (owns_less hrw) (by simp) _) (by simp) _, fun g hg e => p.ne g hg (by rw [own_len ao (r.length + 1) r.length cap cap]; exact e), p.set, fun k hk => ?_, hnd, fun k hk => p.lt k (List.mem_cons_of_mem _ hk), (base_tail hi p.base).1⟩, ?_⟩
  · have := p.eq k (List.mem_cons_of_mem _ hk)
    rw [aheadL_tail (hne k hk), plSee_tail (hne k hk)] at this
    exact this
  · exact (((PlStep.refl S _ w).setCell 3 _).setCell 4 _).as (own_len _ _ _ _ _)
/-- A state while one is placed. -/
structure PlRaw (W : World) (S B C : Nat) (h : List TxnV) (r : List Nat) (vb vr : Value) (aF sF : Nat → Nat) (w0 w : World) : Prop where
  bel : Below W.heap.size W w
  low : W.heap.size ≤ S
  a : PlAt w S B C vb vr (plS r) aF sF
  ba : w.ownsRow (S + 1) 36 1 vb h.length ((List.range h.length).map fun i => .int .u64 ((baseN h C i : Nat) : Int))
  rw : w.ownsRow (S + 1) 3 1 vr r.length (r.reverse.map fun i : Nat => .int .i64 (i : Int))
  st : PlStep S vr vr w0 w
theorem PlIs.raw (p : PlIs W S B b h C r vb vr aF sF w) : PlRaw W S B C h r vb vr aF sF w w := ⟨p.bel, p.low, p.a, p.ba, p.rw, .refl _ _ _⟩
section
variable {w0 w' : World}
theorem PlRaw.below (p : PlRaw W S B C h r vb vr aF sF w0 w) (hb : Below w.heap.size w w') : PlRaw W S B C h r vb vr aF sF w0 w' :=
  ⟨p.bel.trans (hb.mono p.bel.size), p.low, p.a.below hb p.a.lt, owns_below p.ba hb, owns_below p.rw hb, p.st.below hb⟩
theorem PlRaw.setA (p : PlRaw W S B C h r vb vr aF sF w0 w) {k : Nat} (hk : k < 64) (s : Nat) : PlRaw W S B C h r vb vr (updN aF k s) sF w0 (w.setCell ⟨S, 5 + k, none⟩ (.int .u64 (s : Int))) :=
  ⟨p.bel.setCell (p := ⟨S, 5 + k, none⟩) p.low _, p.low, p.a.setA hk s, pl_far p.ba (by simp) _, pl_far p.rw (by simp) _, p.st.setCell _ _⟩
theorem PlRaw.setS (p : PlRaw W S B C h r vb vr aF sF w0 w) {k : Nat} (hk : k < 64) (s : Nat) : PlRaw W S B C h r vb vr aF (updN sF k s) w0 (w.setCell ⟨S, 69 + k, none⟩ (.int .u64 (s : Int))) :=
  ⟨p.bel.setCell (p := ⟨S, 69 + k, none⟩) p.low _, p.low, p.a.setS hk s, pl_far p.ba (by simp) _, pl_far p.rw (by simp) _, p.st.setCell _ _⟩
theorem updN_same (F : Nat → Nat) (i s : Nat) : updN F i s i = s := by unfold updN; rw [if_pos rfl]
theorem updN_other (F : Nat → Nat) {i k : Nat} (s : Nat) (hk : k ≠ i) : updN F i s k = F k := by unfold updN; rw [if_neg hk]
/-- One is placed: what lies there behind the append. -/
theorem PlRaw.app (p : PlRaw W S B C h r vb vr aF sF w0 w) (hne : ∀ g, vb.ownBlock = some g → vr.ownBlock ≠ some g) {w5 : World} {g cap n : Nat} {xs : List Value} (hown : w5.ownsRow (S + 1) 3 1 (.slice (some ⟨g, 0, none⟩) n cap) n xs) (hg : w.grownBy w5 vr.ownBlock) (hl : vr.ownBlock = some g ∨ g = w.heap.size) :
    Below W.heap.size W w5 ∧ PlAt w5 S B C vb vr (plS r) aF sF ∧ w5.ownsRow (S + 1) 36 1 vb h.length ((List.range h.length).map fun i => .int .u64 ((baseN h C i : Nat) : Int)) ∧ PlStep S vr (.slice (some ⟨g, 0, none⟩) n cap) w0 w5 ∧ ∀ k, vb.ownBlock = some k → k ≠ g := by
  have hS : vr.ownBlock ≠ some S := fun e => by have := (p.rw.lt _ e).1; omega
  refine ⟨p.bel.grown hg p.bel.size (fun k hk => ?_), p.a.grown hg (fun e => hS e.symm), p.ba.kept hg ?_, p.st.grown hg (fun k hk => ?_), fun k hk e => ?_⟩
  · have := (p.rw.lt _ hk).1
    have := p.low
    omega
  · cases hb : vb.ownBlock with
    | none => exact .inl rfl
    | some k => exact .inr (fun e => hne k hb e.symm)
  · have e : g = k := by injection hk
    rcases hl with q | q
    · exact .inl (by rw [← e]; exact q)
    · exact .inr (by omega)
  · subst e
    rcases hl with q | q
    · exact hne k hk q
    · have := (p.ba.lt _ hk).2
      omega
theorem PlIs.done (p : PlIs W S B b h C r vb vr aF sF w) {i s : Nat} (hi : i < h.length) (hin : i ∉ r) (hbs : ∀ j, (baseN h C i).testBit j = true → (plS r).testBit j = true) (h64 : h.length ≤ 64) (hs : s = nextN h C r i) {w4 w5 : World} (q : PlRaw W S B C h r vb vr (updN aF i (plS r)) (updN sF i s) w w4)
    {g cap : Nat} (hown : w5.ownsRow (S + 1) 3 1 (.slice (some ⟨g, 0, none⟩) (r.length + 1) cap) (r.length + 1) ((r.reverse.map fun i : Nat => .int .i64 (i : Int)) ++ [.int .i64 (i : Int)])) (hg : w4.grownBy w5 vr.ownBlock) (hl : vr.ownBlock = some g ∨ g = w4.heap.size) :
    PlIs W S B b h C (i :: r) vb (.slice (some ⟨g, 0, none⟩) (r.length + 1) cap) (updN aF i (plS r)) (updN sF i s) ((w5.setCell ⟨S, 3, none⟩ (.slice (some ⟨g, 0, none⟩) (r.length + 1) cap)).setCell ⟨S, 4, none⟩ (.int .u64 ((plS (i :: r) : Nat) : Int))) ∧
    PlStep S vr (.slice (some ⟨g, 0, none⟩) (r.length + 1) cap) w ((w5.setCell ⟨S, 3, none⟩ (.slice (some ⟨g, 0, none⟩) (r.length + 1) cap)).setCell ⟨S, 4, none⟩ (.int .u64 ((plS (i :: r) : Nat) : Int))) := by
  obtain ⟨b5, a5, v5, s5, n5⟩ := q.app p.ne hown hg hl
  have hi64 : i < 64 := by omega
  have hset : IsSet s := by rw [hs]; exact wld4_set (baseN_set h C i) (plS_set r) (rivN_set h i) (fun k _ => plSee_set h C r k) (fun k _ => aheadL_set r k)
  refine ⟨⟨p.o, p.t, (b5.setCell (p := ⟨S, 3, none⟩) p.low _).setCell (p := ⟨S, 4, none⟩) p.low _, p.low, (a5.setR _).setP _, pl_far (pl_far v5 (by simp) _) (by simp) _, ?_, fun k hk e => n5 k hk (by injection e with e; exact e.symm), fun k hk => ?_, fun k hk => ?_, List.nodup_cons.2 ⟨hin, p.nd⟩, fun k hk => ?_, fun k hk j hj => ?_⟩, (s5.setCell 3 _).setCell 4 _⟩
  · rw [List.reverse_cons, List.map_append, List.length_cons]
    exact pl_far (pl_far hown (by simp) _) (by simp) _
  · by_cases e : k = i
    · subst e; rw [updN_same, updN_same]; exact ⟨plS_set r, hset⟩
    · rw [updN_other _ _ e, updN_other _ _ e]; exact p.set k hk
  · by_cases e : k = i
    · subst e
      rw [updN_same, updN_same, aheadL, if_pos rfl, plSee, if_pos rfl, hs]
      exact ⟨rfl, rfl⟩
    · rw [updN_other _ _ e, updN_other _ _ e, aheadL_tail e, plSee_tail e]
      rcases List.mem_cons.1 hk with q | q
      · exact (e q).elim
      · exact p.eq k q
  · rcases List.mem_cons.1 hk with q | q
    · omega
    · exact p.lt k q
  · by_cases e : k = i
    · subst e
      rw [aheadL, if_pos rfl]
      exact hbs j hj
    · rw [aheadL_tail e]
      rcases List.mem_cons.1 hk with q | q
      · exact (e q).elim
      · exact p.base k q j hj
end
end
end Go.Proofs.YtecpeegbfeijaaaDoor

namespace Go.Proofs.YtecpeegbfeijaaaDoor
set_option maxRecDepth 100000
open Go.RowKit

section
variable {W : World} {S B b : Nat} {h : List TxnV} {C : Nat} {r : List Nat} {vb vr : Value} {aF sF : Nat → Nat} {w : World}
set_option maxRecDepth 100000 in
set_option maxHeartbeats 16000000 in
theorem pundo_cons {i : Nat} (p : PlIs W S B b h C (i :: r) vb vr aF sF w) (h64 : h.length ≤ 64) : Calls Tryd.prog 19 #[.pointer (some ⟨S, 0, none⟩)] w fun e w' => e = .returned (.bool true) ∧ ∃ vr', PlIs W S B b h C r vb vr' aF sF w' ∧ PlStep S vr vr' w w' := by
  obtain ⟨ao, cap, rfl⟩ := p.form
  have hlen := p.len
  simp only [List.length_cons] at p hlen ⊢
  have HU := Lib.hid (fun wx (hx : Below w.heap.size w wx) => (p.below hx).undo)
  have HX := Lib.hid (fun wx (hx : Below w.heap.size w wx) => PlStep.of_below (S := S) (vr := .slice ao (r.length + 1) cap) hx)
  have hrow := p.row
  have hl1 : ((i :: r).reverse.map Int.ofNat).length = r.length + 1 := by simp
  obtain ⟨g, o, hao, hcell⟩ := Ints.at (ao := ao) (n := r.length + 1) (cap := cap) hrow (k := r.length) (by rw [hl1]; omega)
  subst hao
  have hval : ((i :: r).reverse.map Int.ofNat)[r.length]'(by rw [hl1]; omega) = (i : Int) := by simp
  rw [hval] at hcell
  have HS := Lib.hid (fun wx (hx : Below w.heap.size w wx) => And.intro (p.below hx).a.cR (And.intro (p.below hx).a.cP (And.intro ((hx.cell (p := ⟨g, o + r.length, none⟩) (block_lt hcell)).trans hcell) (And.intro ((p.below hx).a.free (i := 3) (by omega)) ((p.below hx).a.free (i := 4) (by omega))))))
  have hpop := plS_pop (i := i) (r := r) (List.nodup_cons.1 p.nd).1 (fun a ha => by have := p.lt a ha; omega)
  have CW := Lib.hid (fun wx => wo_any (plS (i :: r)) (i : Int) wx (plS_set _))
  rw [hpop] at CW
  have hr64 : (r.length : Int) < 64 := by omega
  have hr1 : (r.length : Int) + 1 - 1 = (r.length : Int) := by omega
  have hr2 : (r.length : Int) < (r.length : Int) + 1 := by omega
  have hc1 : r.length ≤ cap := by
    have := p.rw.2
    rcases this with ⟨e, _⟩ | ⟨_, _, _, e, _, _, hh, _⟩
    · cases e
    · simp only [Value.slice.injEq] at e
      simp only [List.length_cons] at hh
      omega
  have hc2 : (r.length : Int) ≤ (cap : Int) := by omega
  have kd0 := Below.refl w.heap.size w
  obtain ⟨n3, n4, _, _, _⟩ := HS.out _ kd0
  clear p hrow hl1 hval hcell hpop hlen
  generalize plS (i :: r) = s1 at *
  generalize plS r = s0 at *
  generalize r.length = n at *
  go_enter Tryd.func19, Tryd.ntmps19
  go_upto_region 4 with fail
  have kd := kd0.drew
  clear n3 n4 kd0
  refine wp_region_held_drew (S := fun _ => True) (by kernel_rfl) trivial (fun hS0 => ?_)
  generalize w.drew = wd at *
  obtain ⟨n3, n4, n5, f3, f4⟩ := HS.out _ kd
  refine takeG (some 16) (i := 0) (v := ?vu0x1) rfl rfl (by kernel_rfl) (by kernel_rfl) (by kernel_rfl) (fun _ _ _ h => h) (Or.inl ⟨by rfl, ?hu0x1⟩) hS0 ?ru0x1
  case hu0x1 => (intro w _; go_simp; try (with_reducible rfl))
  try simp only [Act.put, List.setIfInBounds_toArray, List.set_cons_zero, List.set_cons_succ]
  refine takeG (some 17) (i := 1) (v := ?vu1x2) rfl rfl (by kernel_rfl) (by kernel_rfl) (by kernel_rfl) (fun _ _ _ h => h) (Or.inl ⟨by rfl, ?hu1x2⟩) hS0 ?ru1x2
  case hu1x2 => (intro w _; go_simp; try (with_reducible rfl))
  try simp only [Act.put, List.setIfInBounds_toArray, List.set_cons_zero, List.set_cons_succ]
  refine takeG (some 18) (i := 2) (v := ?vu2x3) rfl rfl (by kernel_rfl) (by kernel_rfl) (by kernel_rfl) (fun _ _ _ h => h) (Or.inl ⟨by rfl, ?hu2x3⟩) hS0 ?ru2x3
  case hu2x3 => (intro w _; go_simp; try (with_reducible rfl))
  try simp only [Act.put, List.setIfInBounds_toArray, List.set_cons_zero, List.set_cons_succ]
  refine takeG (some 19) (i := 3) (v := ?vu3x4) rfl rfl (by kernel_rfl) (by kernel_rfl) (by kernel_rfl) (fun _ _ _ h => h) (Or.inl ⟨by rfl, ?hu3x4⟩) hS0 ?ru3x4
  case hu3x4 => (intro w _; go_simp; try (with_reducible rfl))
  try simp only [Act.put, List.setIfInBounds_toArray, List.set_cons_zero, List.set_cons_succ]
  refine takeG (some 20) (i := 4) (v := ?vu4x5) rfl rfl (by kernel_rfl) (by kernel_rfl) (by kernel_rfl) (fun _ _ _ h => h) (Or.inl ⟨by rfl, ?hu4x5⟩) hS0 ?ru4x5
  case hu4x5 => (intro w _; go_simp; try (with_reducible rfl))
  try simp only [Act.put, List.setIfInBounds_toArray, List.set_cons_zero, List.set_cons_succ]
  refine takeG (some 22) (i := 6) (v := ?vu6x6) rfl rfl (by kernel_rfl) (by kernel_rfl) (by kernel_rfl) (fun _ _ _ h => h) (Or.inl ⟨by rfl, ?hu6x6⟩) hS0 ?ru6x6
  case hu6x6 => (intro w _; go_simp; try (with_reducible rfl))
  try simp only [Act.put, List.setIfInBounds_toArray, List.set_cons_zero, List.set_cons_succ]
  refine takeG (some 24) (i := 8) (v := ?vu8x7) rfl rfl (by kernel_rfl) (by kernel_rfl) (by kernel_rfl) (fun _ _ _ h => h) (Or.inl ⟨by rfl, ?hu8x7⟩) hS0 ?ru8x7
  case hu8x7 => (intro w _; go_simp; try (with_reducible rfl))
  try simp only [Act.put, List.setIfInBounds_toArray, List.set_cons_zero, List.set_cons_succ]
  refine takeG (some 25) (i := 9) (v := ?vu9x8) rfl rfl (by kernel_rfl) (by kernel_rfl) (by kernel_rfl) (fun _ _ _ h => h) (Or.inl ⟨by rfl, ?hu9x8⟩) hS0 ?ru9x8
  case hu9x8 => (intro w _; go_simp; try (with_reducible rfl))
  try simp only [Act.put, List.setIfInBounds_toArray, List.set_cons_zero, List.set_cons_succ]
  refine takeG (some 26) (i := 10) (v := ?vu10x9) rfl rfl (by kernel_rfl) (by kernel_rfl) (by kernel_rfl) (fun _ _ _ h => h) (Or.inl ⟨by rfl, ?hu10x9⟩) hS0 ?ru10x9
  case hu10x9 => (intro w _; go_simp; try (with_reducible rfl))
  try simp only [Act.put, List.setIfInBounds_toArray, List.set_cons_zero, List.set_cons_succ]
  refine takeG (some 28) (i := 12) (v := ?vu12x10) rfl rfl (by kernel_rfl) (by kernel_rfl) (by kernel_rfl) (fun _ _ _ h => h) (Or.inl ⟨by rfl, ?hu12x10⟩) hS0 ?ru12x10
  case hu12x10 => (intro w _; go_simp; try (with_reducible rfl))
  try simp only [Act.put, List.setIfInBounds_toArray, List.set_cons_zero, List.set_cons_succ]
  refine takeG (some 29) (i := 13) (v := ?vu13x11) rfl rfl (by kernel_rfl) (by kernel_rfl) (by kernel_rfl) (fun _ _ _ h => h) (Or.inl ⟨by rfl, ?hu13x11⟩) hS0 ?ru13x11
  case hu13x11 => (intro w _; go_simp; try (with_reducible rfl))
  try simp only [Act.put, List.setIfInBounds_toArray, List.set_cons_zero, List.set_cons_succ]
  refine takeG (some 30) (i := 14) (v := ?vu14x12) rfl rfl (by kernel_rfl) (by kernel_rfl) (by kernel_rfl) (fun _ _ _ h => h) (Or.inl ⟨by rfl, ?hu14x12⟩) hS0 ?ru14x12
  case hu14x12 => (intro w _; go_simp; try (with_reducible rfl))
  try simp only [Act.put, List.setIfInBounds_toArray, List.set_cons_zero, List.set_cons_succ]
  refine takeG (some 32) (i := 16) (v := ?vu16x13) rfl rfl (by kernel_rfl) (by kernel_rfl) (by kernel_rfl) (fun _ _ _ h => h) (Or.inl ⟨by rfl, ?hu16x13⟩) hS0 ?ru16x13
  case hu16x13 => (intro w _; go_simp; try (with_reducible rfl))
  try simp only [Act.put, List.setIfInBounds_toArray, List.set_cons_zero, List.set_cons_succ]
  refine wpAnyH_ready (rs := [5, 11, 15]) (by kernel_rfl) (by simp) ?_
  refine AllReadyH.cons rfl (fun K hK => ?_) (AllReadyH.cons rfl (fun K hK => ?_) (AllReadyH.cons rfl (fun K hK => ?_) AllReadyH.nil))
  ·
    go_simp
    refine hK.out _ _ trivial (fun _ => ?_)
    clear hK K
    refine takeG (some 23) (i := 7) (v := ?vu7x15) rfl rfl (by kernel_rfl) (by kernel_rfl) (by kernel_rfl) (fun _ _ _ h => h) (Or.inl ⟨by rfl, ?hu7x15⟩) hS0 ?ru7x15
    case hu7x15 => (intro w _; go_simp; try (with_reducible rfl))
    try simp only [Act.put, List.setIfInBounds_toArray, List.set_cons_zero, List.set_cons_succ]
    refine wpAnyH_ready (rs := [11, 15]) (by kernel_rfl) (by simp) ?_
    refine AllReadyH.cons rfl (fun K hK => ?_) (AllReadyH.cons rfl (fun K hK => ?_) AllReadyH.nil)
    ·
      go_simp
      refine hK.out _ _ trivial (fun _ => ?_)
      clear hK K
      refine wpAnyH_ready (rs := [15]) (by kernel_rfl) (by simp) ?_
      refine AllReadyH.cons rfl (fun K hK => ?_) AllReadyH.nil
      go_simp
      refine hK.out _ _ trivial (fun _ => ?_)
      clear hK K
      refine takeG (some 33) (i := 17) (v := ?vu17x18) rfl rfl (by kernel_rfl) (by kernel_rfl) (by kernel_rfl) (fun _ _ _ h => h) (Or.inl ⟨by rfl, ?hu17x18⟩) hS0 ?ru17x18
      case hu17x18 => (intro w _; go_simp; try (with_reducible rfl))
      try simp only [Act.put, List.setIfInBounds_toArray, List.set_cons_zero, List.set_cons_succ]
      refine wpAnyH_ready (rs := [18]) (by kernel_rfl) (by simp) ?_
      refine AllReadyH.cons rfl (fun K hK => ?_) AllReadyH.nil
      go_simp
      refine hK.out _ _ trivial (fun _ => ?_)
      clear hK K
      refine wpAnyH_ready (rs := [19]) (by kernel_rfl) (by simp) ?_
      refine AllReadyH.cons rfl (fun K hK => ?_) AllReadyH.nil
      go_simp
      refine (CW.out _).mono ?_
      rintro e y1 ⟨rfl, rfl⟩
      show K _ _
      refine hK.out _ _ trivial (fun _ => ?_)
      clear hK K
      refine takeG (some 36) (i := 20) (v := ?vu20x21) rfl rfl (by kernel_rfl) (by kernel_rfl) (by kernel_rfl) (fun _ _ _ h => h) (Or.inl ⟨by rfl, ?hu20x21⟩) hS0 ?ru20x21
      case hu20x21 => (intro w _; go_simp; try (with_reducible rfl))
      try simp only [Act.put, List.setIfInBounds_toArray, List.set_cons_zero, List.set_cons_succ]
      refine takeG (some 37) (i := 21) (v := ?vu21x22) rfl rfl (by kernel_rfl) (by kernel_rfl) (by kernel_rfl) (fun _ _ _ h => h) (Or.inl ⟨by rfl, ?hu21x22⟩) hS0 ?ru21x22
      case hu21x22 => (intro w _; go_simp; try (with_reducible rfl))
      try simp only [Act.put, List.setIfInBounds_toArray, List.set_cons_zero, List.set_cons_succ]
      refine wpAnyH_ready (rs := [22]) (by kernel_rfl) (by simp) ?_
      refine AllReadyH.cons rfl (fun K hK => ?_) AllReadyH.nil
      go_simp
      refine hK.out _ _ trivial (fun _ => ?_)
      clear hK K
      refine takeG (some 38) (i := 23) (v := ?vu23x24) rfl rfl (by kernel_rfl) (by kernel_rfl) (by kernel_rfl) (fun _ _ _ h => h) (Or.inl ⟨by rfl, ?hu23x24⟩) hS0 ?ru23x24
      case hu23x24 => (intro w _; go_simp; try (with_reducible rfl))
      try simp only [Act.put, List.setIfInBounds_toArray, List.set_cons_zero, List.set_cons_succ]
      refine takeG (some 39) (i := 24) (v := ?vu24x25) rfl rfl (by kernel_rfl) (by kernel_rfl) (by kernel_rfl) (fun _ _ _ h => h) (Or.inl ⟨by rfl, ?hu24x25⟩) hS0 ?ru24x25
      case hu24x25 => (intro w _; go_simp; try (with_reducible rfl))
      try simp only [Act.put, List.setIfInBounds_toArray, List.set_cons_zero, List.set_cons_succ]
      refine wpAnyH_ready (rs := [25]) (by kernel_rfl) (by simp) ?_
      refine AllReadyH.cons rfl (fun K hK => ?_) AllReadyH.nil
      have q4 : (World.setCell wd ⟨S, 3, none⟩ (.slice (some ⟨g, o, none⟩) n cap)).cell? ⟨S, 4, none⟩ = some (.int .u64 (s1 : Int)) := by rw [World.cell?_setCell_other _ _ _ _ (by simp)]; exact n4
      go_simp
      refine hK.out _ _ trivial (fun _ => ?_)
      clear hK K
      refine wpAnyH_done (by kernel_rfl) ?_ _
      have hu := HU.out _ kd
      have hx := HX.out _ kd
      go_wp2_with fail
      go_ret
      exact ⟨rfl, _, hu.1, hx.trans hu.2⟩
    ·
      go_simp
      refine hK.out _ _ trivial (fun _ => ?_)
      clear hK K
      refine takeG (some 33) (i := 17) (v := ?vu17x28) rfl rfl (by kernel_rfl) (by kernel_rfl) (by kernel_rfl) (fun _ _ _ h => h) (Or.inl ⟨by rfl, ?hu17x28⟩) hS0 ?ru17x28
      case hu17x28 => (intro w _; go_simp; try (with_reducible rfl))
      try simp only [Act.put, List.setIfInBounds_toArray, List.set_cons_zero, List.set_cons_succ]
      refine wpAnyH_ready (rs := [11, 18]) (by kernel_rfl) (by simp) ?_
      refine AllReadyH.cons rfl (fun K hK => ?_) (AllReadyH.cons rfl (fun K hK => ?_) AllReadyH.nil)
      ·
        go_simp
        refine hK.out _ _ trivial (fun _ => ?_)
        clear hK K
        refine wpAnyH_ready (rs := [18]) (by kernel_rfl) (by simp) ?_
        refine AllReadyH.cons rfl (fun K hK => ?_) AllReadyH.nil
        go_simp
        refine hK.out _ _ trivial (fun _ => ?_)
        clear hK K
        refine wpAnyH_ready (rs := [19]) (by kernel_rfl) (by simp) ?_
        refine AllReadyH.cons rfl (fun K hK => ?_) AllReadyH.nil
        go_simp
        refine (CW.out _).mono ?_
        rintro e y1 ⟨rfl, rfl⟩
        show K _ _
        refine hK.out _ _ trivial (fun _ => ?_)
        clear hK K
        refine takeG (some 36) (i := 20) (v := ?vu20x32) rfl rfl (by kernel_rfl) (by kernel_rfl) (by kernel_rfl) (fun _ _ _ h => h) (Or.inl ⟨by rfl, ?hu20x32⟩) hS0 ?ru20x32
        case hu20x32 => (intro w _; go_simp; try (with_reducible rfl))
        try simp only [Act.put, List.setIfInBounds_toArray, List.set_cons_zero, List.set_cons_succ]
        refine takeG (some 37) (i := 21) (v := ?vu21x33) rfl rfl (by kernel_rfl) (by kernel_rfl) (by kernel_rfl) (fun _ _ _ h => h) (Or.inl ⟨by rfl, ?hu21x33⟩) hS0 ?ru21x33
        case hu21x33 => (intro w _; go_simp; try (with_reducible rfl))
        try simp only [Act.put, List.setIfInBounds_toArray, List.set_cons_zero, List.set_cons_succ]
        refine wpAnyH_ready (rs := [22]) (by kernel_rfl) (by simp) ?_
        refine AllReadyH.cons rfl (fun K hK => ?_) AllReadyH.nil
        go_simp
        refine hK.out _ _ trivial (fun _ => ?_)
        clear hK K
        refine takeG (some 38) (i := 23) (v := ?vu23x35) rfl rfl (by kernel_rfl) (by kernel_rfl) (by kernel_rfl) (fun _ _ _ h => h) (Or.inl ⟨by rfl, ?hu23x35⟩) hS0 ?ru23x35
        case hu23x35 => (intro w _; go_simp; try (with_reducible rfl))
        try simp only [Act.put, List.setIfInBounds_toArray, List.set_cons_zero, List.set_cons_succ]
        refine takeG (some 39) (i := 24) (v := ?vu24x36) rfl rfl (by kernel_rfl) (by kernel_rfl) (by kernel_rfl) (fun _ _ _ h => h) (Or.inl ⟨by rfl, ?hu24x36⟩) hS0 ?ru24x36
        case hu24x36 => (intro w _; go_simp; try (with_reducible rfl))
        try simp only [Act.put, List.setIfInBounds_toArray, List.set_cons_zero, List.set_cons_succ]
        refine wpAnyH_ready (rs := [25]) (by kernel_rfl) (by simp) ?_
        refine AllReadyH.cons rfl (fun K hK => ?_) AllReadyH.nil
        have q4 : (World.setCell wd ⟨S, 3, none⟩ (.slice (some ⟨g, o, none⟩) n cap)).cell? ⟨S, 4, none⟩ = some (.int .u64 (s1 : Int)) := by rw [World.cell?_setCell_other _ _ _ _ (by simp)]; exact n4
        go_simp
        refine hK.out _ _ trivial (fun _ => ?_)
        clear hK K
        refine wpAnyH_done (by kernel_rfl) ?_ _
        have hu := HU.out _ kd
        have hx := HX.out _ kd
        go_wp2_with fail
        go_ret
        exact ⟨rfl, _, hu.1, hx.trans hu.2⟩
      ·
        go_simp
        refine hK.out _ _ trivial (fun _ => ?_)
        clear hK K
        refine wpAnyH_ready (rs := [11]) (by kernel_rfl) (by simp) ?_
        refine AllReadyH.cons rfl (fun K hK => ?_) AllReadyH.nil
        go_simp
        refine hK.out _ _ trivial (fun _ => ?_)
        clear hK K
        refine wpAnyH_ready (rs := [19]) (by kernel_rfl) (by simp) ?_
        refine AllReadyH.cons rfl (fun K hK => ?_) AllReadyH.nil
        go_simp
        refine (CW.out _).mono ?_
        rintro e y1 ⟨rfl, rfl⟩
        show K _ _
        refine hK.out _ _ trivial (fun _ => ?_)
        clear hK K
        refine takeG (some 36) (i := 20) (v := ?vu20x41) rfl rfl (by kernel_rfl) (by kernel_rfl) (by kernel_rfl) (fun _ _ _ h => h) (Or.inl ⟨by rfl, ?hu20x41⟩) hS0 ?ru20x41
        case hu20x41 => (intro w _; go_simp; try (with_reducible rfl))
        try simp only [Act.put, List.setIfInBounds_toArray, List.set_cons_zero, List.set_cons_succ]
        refine takeG (some 37) (i := 21) (v := ?vu21x42) rfl rfl (by kernel_rfl) (by kernel_rfl) (by kernel_rfl) (fun _ _ _ h => h) (Or.inl ⟨by rfl, ?hu21x42⟩) hS0 ?ru21x42
        case hu21x42 => (intro w _; go_simp; try (with_reducible rfl))
        try simp only [Act.put, List.setIfInBounds_toArray, List.set_cons_zero, List.set_cons_succ]
        refine wpAnyH_ready (rs := [22]) (by kernel_rfl) (by simp) ?_
        refine AllReadyH.cons rfl (fun K hK => ?_) AllReadyH.nil
        go_simp
        refine hK.out _ _ trivial (fun _ => ?_)
        clear hK K
        refine takeG (some 38) (i := 23) (v := ?vu23x44) rfl rfl (by kernel_rfl) (by kernel_rfl) (by kernel_rfl) (fun _ _ _ h => h) (Or.inl ⟨by rfl, ?hu23x44⟩) hS0 ?ru23x44
        case hu23x44 => (intro w _; go_simp; try (with_reducible rfl))
        try simp only [Act.put, List.setIfInBounds_toArray, List.set_cons_zero, List.set_cons_succ]
        refine takeG (some 39) (i := 24) (v := ?vu24x45) rfl rfl (by kernel_rfl) (by kernel_rfl) (by kernel_rfl) (fun _ _ _ h => h) (Or.inl ⟨by rfl, ?hu24x45⟩) hS0 ?ru24x45
        case hu24x45 => (intro w _; go_simp; try (with_reducible rfl))
        try simp only [Act.put, List.setIfInBounds_toArray, List.set_cons_zero, List.set_cons_succ]
        refine wpAnyH_ready (rs := [25]) (by kernel_rfl) (by simp) ?_
        refine AllReadyH.cons rfl (fun K hK => ?_) AllReadyH.nil
        have q4 : (World.setCell wd ⟨S, 3, none⟩ (.slice (some ⟨g, o, none⟩) n cap)).cell? ⟨S, 4, none⟩ = some (.int .u64 (s1 : Int)) := by rw [World.cell?_setCell_other _ _ _ _ (by simp)]; exact n4
        go_simp
        refine hK.out _ _ trivial (fun _ => ?_)
        clear hK K
        refine wpAnyH_done (by kernel_rfl) ?_ _
        have hu := HU.out _ kd
        have hx := HX.out _ kd
        go_wp2_with fail
        go_ret
        exact ⟨rfl, _, hu.1, hx.trans hu.2⟩
  ·
    go_simp
    refine hK.out _ _ trivial (fun _ => ?_)
    clear hK K
    refine wpAnyH_ready (rs := [5, 15]) (by kernel_rfl) (by simp) ?_
    refine AllReadyH.cons rfl (fun K hK => ?_) (AllReadyH.cons rfl (fun K hK => ?_) AllReadyH.nil)
    ·
      go_simp
      refine hK.out _ _ trivial (fun _ => ?_)
      clear hK K
      refine takeG (some 23) (i := 7) (v := ?vu7x49) rfl rfl (by kernel_rfl) (by kernel_rfl) (by kernel_rfl) (fun _ _ _ h => h) (Or.inl ⟨by rfl, ?hu7x49⟩) hS0 ?ru7x49
      case hu7x49 => (intro w _; go_simp; try (with_reducible rfl))
      try simp only [Act.put, List.setIfInBounds_toArray, List.set_cons_zero, List.set_cons_succ]
      refine wpAnyH_ready (rs := [15]) (by kernel_rfl) (by simp) ?_
      refine AllReadyH.cons rfl (fun K hK => ?_) AllReadyH.nil
      go_simp
      refine hK.out _ _ trivial (fun _ => ?_)
      clear hK K
      refine takeG (some 33) (i := 17) (v := ?vu17x51) rfl rfl (by kernel_rfl) (by kernel_rfl) (by kernel_rfl) (fun _ _ _ h => h) (Or.inl ⟨by rfl, ?hu17x51⟩) hS0 ?ru17x51
      case hu17x51 => (intro w _; go_simp; try (with_reducible rfl))
      try simp only [Act.put, List.setIfInBounds_toArray, List.set_cons_zero, List.set_cons_succ]
      refine wpAnyH_ready (rs := [18]) (by kernel_rfl) (by simp) ?_
      refine AllReadyH.cons rfl (fun K hK => ?_) AllReadyH.nil
      go_simp
      refine hK.out _ _ trivial (fun _ => ?_)
      clear hK K
      refine wpAnyH_ready (rs := [19]) (by kernel_rfl) (by simp) ?_
      refine AllReadyH.cons rfl (fun K hK => ?_) AllReadyH.nil
      go_simp
      refine (CW.out _).mono ?_
      rintro e y1 ⟨rfl, rfl⟩
      show K _ _
      refine hK.out _ _ trivial (fun _ => ?_)
      clear hK K
      refine takeG (some 36) (i := 20) (v := ?vu20x54) rfl rfl (by kernel_rfl) (by kernel_rfl) (by kernel_rfl) (fun _ _ _ h => h) (Or.inl ⟨by rfl, ?hu20x54⟩) hS0 ?ru20x54
      case hu20x54 => (intro w _; go_simp; try (with_reducible rfl))
      try simp only [Act.put, List.setIfInBounds_toArray, List.set_cons_zero, List.set_cons_succ]
      refine takeG (some 37) (i := 21) (v := ?vu21x55) rfl rfl (by kernel_rfl) (by kernel_rfl) (by kernel_rfl) (fun _ _ _ h => h) (Or.inl ⟨by rfl, ?hu21x55⟩) hS0 ?ru21x55
      case hu21x55 => (intro w _; go_simp; try (with_reducible rfl))
      try simp only [Act.put, List.setIfInBounds_toArray, List.set_cons_zero, List.set_cons_succ]
      refine wpAnyH_ready (rs := [22]) (by kernel_rfl) (by simp) ?_
      refine AllReadyH.cons rfl (fun K hK => ?_) AllReadyH.nil
      go_simp
      refine hK.out _ _ trivial (fun _ => ?_)
      clear hK K
      refine takeG (some 38) (i := 23) (v := ?vu23x57) rfl rfl (by kernel_rfl) (by kernel_rfl) (by kernel_rfl) (fun _ _ _ h => h) (Or.inl ⟨by rfl, ?hu23x57⟩) hS0 ?ru23x57
      case hu23x57 => (intro w _; go_simp; try (with_reducible rfl))
      try simp only [Act.put, List.setIfInBounds_toArray, List.set_cons_zero, List.set_cons_succ]
      refine takeG (some 39) (i := 24) (v := ?vu24x58) rfl rfl (by kernel_rfl) (by kernel_rfl) (by kernel_rfl) (fun _ _ _ h => h) (Or.inl ⟨by rfl, ?hu24x58⟩) hS0 ?ru24x58
      case hu24x58 => (intro w _; go_simp; try (with_reducible rfl))
      try simp only [Act.put, List.setIfInBounds_toArray, List.set_cons_zero, List.set_cons_succ]
      refine wpAnyH_ready (rs := [25]) (by kernel_rfl) (by simp) ?_
      refine AllReadyH.cons rfl (fun K hK => ?_) AllReadyH.nil
      have q4 : (World.setCell wd ⟨S, 3, none⟩ (.slice (some ⟨g, o, none⟩) n cap)).cell? ⟨S, 4, none⟩ = some (.int .u64 (s1 : Int)) := by rw [World.cell?_setCell_other _ _ _ _ (by simp)]; exact n4
      go_simp
      refine hK.out _ _ trivial (fun _ => ?_)
      clear hK K
      refine wpAnyH_done (by kernel_rfl) ?_ _
      have hu := HU.out _ kd
      have hx := HX.out _ kd
      go_wp2_with fail
      go_ret
      exact ⟨rfl, _, hu.1, hx.trans hu.2⟩
    ·
      go_simp
      refine hK.out _ _ trivial (fun _ => ?_)
      clear hK K
      refine takeG (some 33) (i := 17) (v := ?vu17x61) rfl rfl (by kernel_rfl) (by kernel_rfl) (by kernel_rfl) (fun _ _ _ h => h) (Or.inl ⟨by rfl, ?hu17x61⟩) hS0 ?ru17x61
      case hu17x61 => (intro w _; go_simp; try (with_reducible rfl))
      try simp only [Act.put, List.setIfInBounds_toArray, List.set_cons_zero, List.set_cons_succ]
      refine wpAnyH_ready (rs := [5, 18]) (by kernel_rfl) (by simp) ?_
      refine AllReadyH.cons rfl (fun K hK => ?_) (AllReadyH.cons rfl (fun K hK => ?_) AllReadyH.nil)
      ·
        go_simp
        refine hK.out _ _ trivial (fun _ => ?_)
        clear hK K
        refine takeG (some 23) (i := 7) (v := ?vu7x63) rfl rfl (by kernel_rfl) (by kernel_rfl) (by kernel_rfl) (fun _ _ _ h => h) (Or.inl ⟨by rfl, ?hu7x63⟩) hS0 ?ru7x63
        case hu7x63 => (intro w _; go_simp; try (with_reducible rfl))
        try simp only [Act.put, List.setIfInBounds_toArray, List.set_cons_zero, List.set_cons_succ]
        refine wpAnyH_ready (rs := [18]) (by kernel_rfl) (by simp) ?_
        refine AllReadyH.cons rfl (fun K hK => ?_) AllReadyH.nil
        go_simp
        refine hK.out _ _ trivial (fun _ => ?_)
        clear hK K
        refine wpAnyH_ready (rs := [19]) (by kernel_rfl) (by simp) ?_
        refine AllReadyH.cons rfl (fun K hK => ?_) AllReadyH.nil
        go_simp
        refine (CW.out _).mono ?_
        rintro e y1 ⟨rfl, rfl⟩
        show K _ _
        refine hK.out _ _ trivial (fun _ => ?_)
        clear hK K
        refine takeG (some 36) (i := 20) (v := ?vu20x66) rfl rfl (by kernel_rfl) (by kernel_rfl) (by kernel_rfl) (fun _ _ _ h => h) (Or.inl ⟨by rfl, ?hu20x66⟩) hS0 ?ru20x66
        case hu20x66 => (intro w _; go_simp; try (with_reducible rfl))
        try simp only [Act.put, List.setIfInBounds_toArray, List.set_cons_zero, List.set_cons_succ]
        refine takeG (some 37) (i := 21) (v := ?vu21x67) rfl rfl (by kernel_rfl) (by kernel_rfl) (by kernel_rfl) (fun _ _ _ h => h) (Or.inl ⟨by rfl, ?hu21x67⟩) hS0 ?ru21x67
        case hu21x67 => (intro w _; go_simp; try (with_reducible rfl))
        try simp only [Act.put, List.setIfInBounds_toArray, List.set_cons_zero, List.set_cons_succ]
        refine wpAnyH_ready (rs := [22]) (by kernel_rfl) (by simp) ?_
        refine AllReadyH.cons rfl (fun K hK => ?_) AllReadyH.nil
        go_simp
        refine hK.out _ _ trivial (fun _ => ?_)
        clear hK K
        refine takeG (some 38) (i := 23) (v := ?vu23x69) rfl rfl (by kernel_rfl) (by kernel_rfl) (by kernel_rfl) (fun _ _ _ h => h) (Or.inl ⟨by rfl, ?hu23x69⟩) hS0 ?ru23x69
        case hu23x69 => (intro w _; go_simp; try (with_reducible rfl))
        try simp only [Act.put, List.setIfInBounds_toArray, List.set_cons_zero, List.set_cons_succ]
        refine takeG (some 39) (i := 24) (v := ?vu24x70) rfl rfl (by kernel_rfl) (by kernel_rfl) (by kernel_rfl) (fun _ _ _ h => h) (Or.inl ⟨by rfl, ?hu24x70⟩) hS0 ?ru24x70
        case hu24x70 => (intro w _; go_simp; try (with_reducible rfl))
        try simp only [Act.put, List.setIfInBounds_toArray, List.set_cons_zero, List.set_cons_succ]
        refine wpAnyH_ready (rs := [25]) (by kernel_rfl) (by simp) ?_
        refine AllReadyH.cons rfl (fun K hK => ?_) AllReadyH.nil
        have q4 : (World.setCell wd ⟨S, 3, none⟩ (.slice (some ⟨g, o, none⟩) n cap)).cell? ⟨S, 4, none⟩ = some (.int .u64 (s1 : Int)) := by rw [World.cell?_setCell_other _ _ _ _ (by simp)]; exact n4
        go_simp
        refine hK.out _ _ trivial (fun _ => ?_)
        clear hK K
        refine wpAnyH_done (by kernel_rfl) ?_ _
        have hu := HU.out _ kd
        have hx := HX.out _ kd
        go_wp2_with fail
        go_ret
        exact ⟨rfl, _, hu.1, hx.trans hu.2⟩
      ·
        go_simp
        refine hK.out _ _ trivial (fun _ => ?_)
        clear hK K
        refine wpAnyH_ready (rs := [5, 19]) (by kernel_rfl) (by simp) ?_
        refine AllReadyH.cons rfl (fun K hK => ?_) (AllReadyH.cons rfl (fun K hK => ?_) AllReadyH.nil)
        ·
          go_simp
          refine hK.out _ _ trivial (fun _ => ?_)
          clear hK K
          refine takeG (some 23) (i := 7) (v := ?vu7x74) rfl rfl (by kernel_rfl) (by kernel_rfl) (by kernel_rfl) (fun _ _ _ h => h) (Or.inl ⟨by rfl, ?hu7x74⟩) hS0 ?ru7x74
          case hu7x74 => (intro w _; go_simp; try (with_reducible rfl))
          try simp only [Act.put, List.setIfInBounds_toArray, List.set_cons_zero, List.set_cons_succ]
          refine wpAnyH_ready (rs := [19]) (by kernel_rfl) (by simp) ?_
          refine AllReadyH.cons rfl (fun K hK => ?_) AllReadyH.nil
          go_simp
          refine (CW.out _).mono ?_
          rintro e y1 ⟨rfl, rfl⟩
          show K _ _
          refine hK.out _ _ trivial (fun _ => ?_)
          clear hK K
          refine takeG (some 36) (i := 20) (v := ?vu20x76) rfl rfl (by kernel_rfl) (by kernel_rfl) (by kernel_rfl) (fun _ _ _ h => h) (Or.inl ⟨by rfl, ?hu20x76⟩) hS0 ?ru20x76
          case hu20x76 => (intro w _; go_simp; try (with_reducible rfl))
          try simp only [Act.put, List.setIfInBounds_toArray, List.set_cons_zero, List.set_cons_succ]
          refine takeG (some 37) (i := 21) (v := ?vu21x77) rfl rfl (by kernel_rfl) (by kernel_rfl) (by kernel_rfl) (fun _ _ _ h => h) (Or.inl ⟨by rfl, ?hu21x77⟩) hS0 ?ru21x77
          case hu21x77 => (intro w _; go_simp; try (with_reducible rfl))
          try simp only [Act.put, List.setIfInBounds_toArray, List.set_cons_zero, List.set_cons_succ]
          refine wpAnyH_ready (rs := [22]) (by kernel_rfl) (by simp) ?_
          refine AllReadyH.cons rfl (fun K hK => ?_) AllReadyH.nil
          go_simp
          refine hK.out _ _ trivial (fun _ => ?_)
          clear hK K
          refine takeG (some 38) (i := 23) (v := ?vu23x79) rfl rfl (by kernel_rfl) (by kernel_rfl) (by kernel_rfl) (fun _ _ _ h => h) (Or.inl ⟨by rfl, ?hu23x79⟩) hS0 ?ru23x79
          case hu23x79 => (intro w _; go_simp; try (with_reducible rfl))
          try simp only [Act.put, List.setIfInBounds_toArray, List.set_cons_zero, List.set_cons_succ]
          refine takeG (some 39) (i := 24) (v := ?vu24x80) rfl rfl (by kernel_rfl) (by kernel_rfl) (by kernel_rfl) (fun _ _ _ h => h) (Or.inl ⟨by rfl, ?hu24x80⟩) hS0 ?ru24x80
          case hu24x80 => (intro w _; go_simp; try (with_reducible rfl))
          try simp only [Act.put, List.setIfInBounds_toArray, List.set_cons_zero, List.set_cons_succ]
          refine wpAnyH_ready (rs := [25]) (by kernel_rfl) (by simp) ?_
          refine AllReadyH.cons rfl (fun K hK => ?_) AllReadyH.nil
          have q4 : (World.setCell wd ⟨S, 3, none⟩ (.slice (some ⟨g, o, none⟩) n cap)).cell? ⟨S, 4, none⟩ = some (.int .u64 (s1 : Int)) := by rw [World.cell?_setCell_other _ _ _ _ (by simp)]; exact n4
          go_simp
          refine hK.out _ _ trivial (fun _ => ?_)
          clear hK K
          refine wpAnyH_done (by kernel_rfl) ?_ _
          have hu := HU.out _ kd
          have hx := HX.out _ kd
          go_wp2_with fail
          go_ret
          exact ⟨rfl, _, hu.1, hx.trans hu.2⟩
        ·
          go_simp
          refine (CW.out _).mono ?_
          rintro e y1 ⟨rfl, rfl⟩
          show K _ _
          refine hK.out _ _ trivial (fun _ => ?_)
          clear hK K
          refine wpAnyH_ready (rs := [5]) (by kernel_rfl) (by simp) ?_
          refine AllReadyH.cons rfl (fun K hK => ?_) AllReadyH.nil
          go_simp
          refine hK.out _ _ trivial (fun _ => ?_)
          clear hK K
          refine takeG (some 23) (i := 7) (v := ?vu7x84) rfl rfl (by kernel_rfl) (by kernel_rfl) (by kernel_rfl) (fun _ _ _ h => h) (Or.inl ⟨by rfl, ?hu7x84⟩) hS0 ?ru7x84
          case hu7x84 => (intro w _; go_simp; try (with_reducible rfl))
          try simp only [Act.put, List.setIfInBounds_toArray, List.set_cons_zero, List.set_cons_succ]
          refine takeG (some 36) (i := 20) (v := ?vu20x85) rfl rfl (by kernel_rfl) (by kernel_rfl) (by kernel_rfl) (fun _ _ _ h => h) (Or.inl ⟨by rfl, ?hu20x85⟩) hS0 ?ru20x85
          case hu20x85 => (intro w _; go_simp; try (with_reducible rfl))
          try simp only [Act.put, List.setIfInBounds_toArray, List.set_cons_zero, List.set_cons_succ]
          refine takeG (some 37) (i := 21) (v := ?vu21x86) rfl rfl (by kernel_rfl) (by kernel_rfl) (by kernel_rfl) (fun _ _ _ h => h) (Or.inl ⟨by rfl, ?hu21x86⟩) hS0 ?ru21x86
          case hu21x86 => (intro w _; go_simp; try (with_reducible rfl))
          try simp only [Act.put, List.setIfInBounds_toArray, List.set_cons_zero, List.set_cons_succ]
          refine wpAnyH_ready (rs := [22]) (by kernel_rfl) (by simp) ?_
          refine AllReadyH.cons rfl (fun K hK => ?_) AllReadyH.nil
          go_simp
          refine hK.out _ _ trivial (fun _ => ?_)
          clear hK K
          refine takeG (some 38) (i := 23) (v := ?vu23x88) rfl rfl (by kernel_rfl) (by kernel_rfl) (by kernel_rfl) (fun _ _ _ h => h) (Or.inl ⟨by rfl, ?hu23x88⟩) hS0 ?ru23x88
          case hu23x88 => (intro w _; go_simp; try (with_reducible rfl))
          try simp only [Act.put, List.setIfInBounds_toArray, List.set_cons_zero, List.set_cons_succ]
          refine takeG (some 39) (i := 24) (v := ?vu24x89) rfl rfl (by kernel_rfl) (by kernel_rfl) (by kernel_rfl) (fun _ _ _ h => h) (Or.inl ⟨by rfl, ?hu24x89⟩) hS0 ?ru24x89
          case hu24x89 => (intro w _; go_simp; try (with_reducible rfl))
          try simp only [Act.put, List.setIfInBounds_toArray, List.set_cons_zero, List.set_cons_succ]
          refine wpAnyH_ready (rs := [25]) (by kernel_rfl) (by simp) ?_
          refine AllReadyH.cons rfl (fun K hK => ?_) AllReadyH.nil
          have q4 : (World.setCell wd ⟨S, 3, none⟩ (.slice (some ⟨g, o, none⟩) n cap)).cell? ⟨S, 4, none⟩ = some (.int .u64 (s1 : Int)) := by rw [World.cell?_setCell_other _ _ _ _ (by simp)]; exact n4
          go_simp
          refine hK.out _ _ trivial (fun _ => ?_)
          clear hK K
          refine wpAnyH_done (by kernel_rfl) ?_ _
          have hu := HU.out _ kd
          have hx := HX.out _ kd
          go_wp2_with fail
          go_ret
          exact ⟨rfl, _, hu.1, hx.trans hu.2⟩
  ·
    go_simp
    refine hK.out _ _ trivial (fun _ => ?_)
    clear hK K
    refine takeG (some 33) (i := 17) (v := ?vu17x92) rfl rfl (by kernel_rfl) (by kernel_rfl) (by kernel_rfl) (fun _ _ _ h => h) (Or.inl ⟨by rfl, ?hu17x92⟩) hS0 ?ru17x92
    case hu17x92 => (intro w _; go_simp; try (with_reducible rfl))
    try simp only [Act.put, List.setIfInBounds_toArray, List.set_cons_zero, List.set_cons_succ]
    refine wpAnyH_ready (rs := [5, 11, 18]) (by kernel_rfl) (by simp) ?_
    refine AllReadyH.cons rfl (fun K hK => ?_) (AllReadyH.cons rfl (fun K hK => ?_) (AllReadyH.cons rfl (fun K hK => ?_) AllReadyH.nil))
    ·
      go_simp
      refine hK.out _ _ trivial (fun _ => ?_)
      clear hK K
      refine takeG (some 23) (i := 7) (v := ?vu7x94) rfl rfl (by kernel_rfl) (by kernel_rfl) (by kernel_rfl) (fun _ _ _ h => h) (Or.inl ⟨by rfl, ?hu7x94⟩) hS0 ?ru7x94
      case hu7x94 => (intro w _; go_simp; try (with_reducible rfl))
      try simp only [Act.put, List.setIfInBounds_toArray, List.set_cons_zero, List.set_cons_succ]
      refine wpAnyH_ready (rs := [11, 18]) (by kernel_rfl) (by simp) ?_
      refine AllReadyH.cons rfl (fun K hK => ?_) (AllReadyH.cons rfl (fun K hK => ?_) AllReadyH.nil)
      ·
        go_simp
        refine hK.out _ _ trivial (fun _ => ?_)
        clear hK K
        refine wpAnyH_ready (rs := [18]) (by kernel_rfl) (by simp) ?_
        refine AllReadyH.cons rfl (fun K hK => ?_) AllReadyH.nil
        go_simp
        refine hK.out _ _ trivial (fun _ => ?_)
        clear hK K
        refine wpAnyH_ready (rs := [19]) (by kernel_rfl) (by simp) ?_
        refine AllReadyH.cons rfl (fun K hK => ?_) AllReadyH.nil
        go_simp
        refine (CW.out _).mono ?_
        rintro e y1 ⟨rfl, rfl⟩
        show K _ _
        refine hK.out _ _ trivial (fun _ => ?_)
        clear hK K
        refine takeG (some 36) (i := 20) (v := ?vu20x98) rfl rfl (by kernel_rfl) (by kernel_rfl) (by kernel_rfl) (fun _ _ _ h => h) (Or.inl ⟨by rfl, ?hu20x98⟩) hS0 ?ru20x98
        case hu20x98 => (intro w _; go_simp; try (with_reducible rfl))
        try simp only [Act.put, List.setIfInBounds_toArray, List.set_cons_zero, List.set_cons_succ]
        refine takeG (some 37) (i := 21) (v := ?vu21x99) rfl rfl (by kernel_rfl) (by kernel_rfl) (by kernel_rfl) (fun _ _ _ h => h) (Or.inl ⟨by rfl, ?hu21x99⟩) hS0 ?ru21x99
        case hu21x99 => (intro w _; go_simp; try (with_reducible rfl))
        try simp only [Act.put, List.setIfInBounds_toArray, List.set_cons_zero, List.set_cons_succ]
        refine wpAnyH_ready (rs := [22]) (by kernel_rfl) (by simp) ?_
        refine AllReadyH.cons rfl (fun K hK => ?_) AllReadyH.nil
        go_simp
        refine hK.out _ _ trivial (fun _ => ?_)
        clear hK K
        refine takeG (some 38) (i := 23) (v := ?vu23x101) rfl rfl (by kernel_rfl) (by kernel_rfl) (by kernel_rfl) (fun _ _ _ h => h) (Or.inl ⟨by rfl, ?hu23x101⟩) hS0 ?ru23x101
        case hu23x101 => (intro w _; go_simp; try (with_reducible rfl))
        try simp only [Act.put, List.setIfInBounds_toArray, List.set_cons_zero, List.set_cons_succ]
        refine takeG (some 39) (i := 24) (v := ?vu24x102) rfl rfl (by kernel_rfl) (by kernel_rfl) (by kernel_rfl) (fun _ _ _ h => h) (Or.inl ⟨by rfl, ?hu24x102⟩) hS0 ?ru24x102
        case hu24x102 => (intro w _; go_simp; try (with_reducible rfl))
        try simp only [Act.put, List.setIfInBounds_toArray, List.set_cons_zero, List.set_cons_succ]
        refine wpAnyH_ready (rs := [25]) (by kernel_rfl) (by simp) ?_
        refine AllReadyH.cons rfl (fun K hK => ?_) AllReadyH.nil
        have q4 : (World.setCell wd ⟨S, 3, none⟩ (.slice (some ⟨g, o, none⟩) n cap)).cell? ⟨S, 4, none⟩ = some (.int .u64 (s1 : Int)) := by rw [World.cell?_setCell_other _ _ _ _ (by simp)]; exact n4
        go_simp
        refine hK.out _ _ trivial (fun _ => ?_)
        clear hK K
        refine wpAnyH_done (by kernel_rfl) ?_ _
        have hu := HU.out _ kd
        have hx := HX.out _ kd
        go_wp2_with fail
        go_ret
        exact ⟨rfl, _, hu.1, hx.trans hu.2⟩
      ·
        go_simp
        refine hK.out _ _ trivial (fun _ => ?_)
        clear hK K
        refine wpAnyH_ready (rs := [11]) (by kernel_rfl) (by simp) ?_
        refine AllReadyH.cons rfl (fun K hK => ?_) AllReadyH.nil
        go_simp
        refine hK.out _ _ trivial (fun _ => ?_)
        clear hK K
        refine wpAnyH_ready (rs := [19]) (by kernel_rfl) (by simp) ?_
        refine AllReadyH.cons rfl (fun K hK => ?_) AllReadyH.nil
        go_simp
        refine (CW.out _).mono ?_
        rintro e y1 ⟨rfl, rfl⟩
        show K _ _
        refine hK.out _ _ trivial (fun _ => ?_)
        clear hK K
        refine takeG (some 36) (i := 20) (v := ?vu20x107) rfl rfl (by kernel_rfl) (by kernel_rfl) (by kernel_rfl) (fun _ _ _ h => h) (Or.inl ⟨by rfl, ?hu20x107⟩) hS0 ?ru20x107
        case hu20x107 => (intro w _; go_simp; try (with_reducible rfl))
        try simp only [Act.put, List.setIfInBounds_toArray, List.set_cons_zero, List.set_cons_succ]
        refine takeG (some 37) (i := 21) (v := ?vu21x108) rfl rfl (by kernel_rfl) (by kernel_rfl) (by kernel_rfl) (fun _ _ _ h => h) (Or.inl ⟨by rfl, ?hu21x108⟩) hS0 ?ru21x108
        case hu21x108 => (intro w _; go_simp; try (with_reducible rfl))
        try simp only [Act.put, List.setIfInBounds_toArray, List.set_cons_zero, List.set_cons_succ]
        refine wpAnyH_ready (rs := [22]) (by kernel_rfl) (by simp) ?_
        refine AllReadyH.cons rfl (fun K hK => ?_) AllReadyH.nil
        go_simp
        refine hK.out _ _ trivial (fun _ => ?_)
        clear hK K
        refine takeG (some 38) (i := 23) (v := ?vu23x110) rfl rfl (by kernel_rfl) (by kernel_rfl) (by kernel_rfl) (fun _ _ _ h => h) (Or.inl ⟨by rfl, ?hu23x110⟩) hS0 ?ru23x110
        case hu23x110 => (intro w _; go_simp; try (with_reducible rfl))
        try simp only [Act.put, List.setIfInBounds_toArray, List.set_cons_zero, List.set_cons_succ]
        refine takeG (some 39) (i := 24) (v := ?vu24x111) rfl rfl (by kernel_rfl) (by kernel_rfl) (by kernel_rfl) (fun _ _ _ h => h) (Or.inl ⟨by rfl, ?hu24x111⟩) hS0 ?ru24x111
        case hu24x111 => (intro w _; go_simp; try (with_reducible rfl))
        try simp only [Act.put, List.setIfInBounds_toArray, List.set_cons_zero, List.set_cons_succ]
        refine wpAnyH_ready (rs := [25]) (by kernel_rfl) (by simp) ?_
        refine AllReadyH.cons rfl (fun K hK => ?_) AllReadyH.nil
        have q4 : (World.setCell wd ⟨S, 3, none⟩ (.slice (some ⟨g, o, none⟩) n cap)).cell? ⟨S, 4, none⟩ = some (.int .u64 (s1 : Int)) := by rw [World.cell?_setCell_other _ _ _ _ (by simp)]; exact n4
        go_simp
        refine hK.out _ _ trivial (fun _ => ?_)
        clear hK K
        refine wpAnyH_done (by kernel_rfl) ?_ _
        have hu := HU.out _ kd
        have hx := HX.out _ kd
        go_wp2_with fail
        go_ret
        exact ⟨rfl, _, hu.1, hx.trans hu.2⟩
    ·
      go_simp
      refine hK.out _ _ trivial (fun _ => ?_)
      clear hK K
      refine wpAnyH_ready (rs := [5, 18]) (by kernel_rfl) (by simp) ?_
      refine AllReadyH.cons rfl (fun K hK => ?_) (AllReadyH.cons rfl (fun K hK => ?_) AllReadyH.nil)
      ·
        go_simp
        refine hK.out _ _ trivial (fun _ => ?_)
        clear hK K
        refine takeG (some 23) (i := 7) (v := ?vu7x115) rfl rfl (by kernel_rfl) (by kernel_rfl) (by kernel_rfl) (fun _ _ _ h => h) (Or.inl ⟨by rfl, ?hu7x115⟩) hS0 ?ru7x115
        case hu7x115 => (intro w _; go_simp; try (with_reducible rfl))
        try simp only [Act.put, List.setIfInBounds_toArray, List.set_cons_zero, List.set_cons_succ]
        refine wpAnyH_ready (rs := [18]) (by kernel_rfl) (by simp) ?_
        refine AllReadyH.cons rfl (fun K hK => ?_) AllReadyH.nil
        go_simp
        refine hK.out _ _ trivial (fun _ => ?_)
        clear hK K
        refine wpAnyH_ready (rs := [19]) (by kernel_rfl) (by simp) ?_
        refine AllReadyH.cons rfl (fun K hK => ?_) AllReadyH.nil
        go_simp
        refine (CW.out _).mono ?_
        rintro e y1 ⟨rfl, rfl⟩
        show K _ _
        refine hK.out _ _ trivial (fun _ => ?_)
        clear hK K
        refine takeG (some 36) (i := 20) (v := ?vu20x118) rfl rfl (by kernel_rfl) (by kernel_rfl) (by kernel_rfl) (fun _ _ _ h => h) (Or.inl ⟨by rfl, ?hu20x118⟩) hS0 ?ru20x118
        case hu20x118 => (intro w _; go_simp; try (with_reducible rfl))
        try simp only [Act.put, List.setIfInBounds_toArray, List.set_cons_zero, List.set_cons_succ]
        refine takeG (some 37) (i := 21) (v := ?vu21x119) rfl rfl (by kernel_rfl) (by kernel_rfl) (by kernel_rfl) (fun _ _ _ h => h) (Or.inl ⟨by rfl, ?hu21x119⟩) hS0 ?ru21x119
        case hu21x119 => (intro w _; go_simp; try (with_reducible rfl))
        try simp only [Act.put, List.setIfInBounds_toArray, List.set_cons_zero, List.set_cons_succ]
        refine wpAnyH_ready (rs := [22]) (by kernel_rfl) (by simp) ?_
        refine AllReadyH.cons rfl (fun K hK => ?_) AllReadyH.nil
        go_simp
        refine hK.out _ _ trivial (fun _ => ?_)
        clear hK K
        refine takeG (some 38) (i := 23) (v := ?vu23x121) rfl rfl (by kernel_rfl) (by kernel_rfl) (by kernel_rfl) (fun _ _ _ h => h) (Or.inl ⟨by rfl, ?hu23x121⟩) hS0 ?ru23x121
        case hu23x121 => (intro w _; go_simp; try (with_reducible rfl))
        try simp only [Act.put, List.setIfInBounds_toArray, List.set_cons_zero, List.set_cons_succ]
        refine takeG (some 39) (i := 24) (v := ?vu24x122) rfl rfl (by kernel_rfl) (by kernel_rfl) (by kernel_rfl) (fun _ _ _ h => h) (Or.inl ⟨by rfl, ?hu24x122⟩) hS0 ?ru24x122
        case hu24x122 => (intro w _; go_simp; try (with_reducible rfl))
        try simp only [Act.put, List.setIfInBounds_toArray, List.set_cons_zero, List.set_cons_succ]
        refine wpAnyH_ready (rs := [25]) (by kernel_rfl) (by simp) ?_
        refine AllReadyH.cons rfl (fun K hK => ?_) AllReadyH.nil
        have q4 : (World.setCell wd ⟨S, 3, none⟩ (.slice (some ⟨g, o, none⟩) n cap)).cell? ⟨S, 4, none⟩ = some (.int .u64 (s1 : Int)) := by rw [World.cell?_setCell_other _ _ _ _ (by simp)]; exact n4
        go_simp
        refine hK.out _ _ trivial (fun _ => ?_)
        clear hK K
        refine wpAnyH_done (by kernel_rfl) ?_ _
        have hu := HU.out _ kd
        have hx := HX.out _ kd
        go_wp2_with fail
        go_ret
        exact ⟨rfl, _, hu.1, hx.trans hu.2⟩
      ·
        go_simp
        refine hK.out _ _ trivial (fun _ => ?_)
        clear hK K
        refine wpAnyH_ready (rs := [5, 19]) (by kernel_rfl) (by simp) ?_
        refine AllReadyH.cons rfl (fun K hK => ?_) (AllReadyH.cons rfl (fun K hK => ?_) AllReadyH.nil)
        ·
          go_simp
          refine hK.out _ _ trivial (fun _ => ?_)
          clear hK K
          refine takeG (some 23) (i := 7) (v := ?vu7x126) rfl rfl (by kernel_rfl) (by kernel_rfl) (by kernel_rfl) (fun _ _ _ h => h) (Or.inl ⟨by rfl, ?hu7x126⟩) hS0 ?ru7x126
          case hu7x126 => (intro w _; go_simp; try (with_reducible rfl))
          try simp only [Act.put, List.setIfInBounds_toArray, List.set_cons_zero, List.set_cons_succ]
          refine wpAnyH_ready (rs := [19]) (by kernel_rfl) (by simp) ?_
          refine AllReadyH.cons rfl (fun K hK => ?_) AllReadyH.nil
          go_simp
          refine (CW.out _).mono ?_
          rintro e y1 ⟨rfl, rfl⟩
          show K _ _
          refine hK.out _ _ trivial (fun _ => ?_)
          clear hK K
          refine takeG (some 36) (i := 20) (v := ?vu20x128) rfl rfl (by kernel_rfl) (by kernel_rfl) (by kernel_rfl) (fun _ _ _ h => h) (Or.inl ⟨by rfl, ?hu20x128⟩) hS0 ?ru20x128
          case hu20x128 => (intro w _; go_simp; try (with_reducible rfl))
          try simp only [Act.put, List.setIfInBounds_toArray, List.set_cons_zero, List.set_cons_succ]
          refine takeG (some 37) (i := 21) (v := ?vu21x129) rfl rfl (by kernel_rfl) (by kernel_rfl) (by kernel_rfl) (fun _ _ _ h => h) (Or.inl ⟨by rfl, ?hu21x129⟩) hS0 ?ru21x129
          case hu21x129 => (intro w _; go_simp; try (with_reducible rfl))
          try simp only [Act.put, List.setIfInBounds_toArray, List.set_cons_zero, List.set_cons_succ]
          refine wpAnyH_ready (rs := [22]) (by kernel_rfl) (by simp) ?_
          refine AllReadyH.cons rfl (fun K hK => ?_) AllReadyH.nil
          go_simp
          refine hK.out _ _ trivial (fun _ => ?_)
          clear hK K
          refine takeG (some 38) (i := 23) (v := ?vu23x131) rfl rfl (by kernel_rfl) (by kernel_rfl) (by kernel_rfl) (fun _ _ _ h => h) (Or.inl ⟨by rfl, ?hu23x131⟩) hS0 ?ru23x131
          case hu23x131 => (intro w _; go_simp; try (with_reducible rfl))
          try simp only [Act.put, List.setIfInBounds_toArray, List.set_cons_zero, List.set_cons_succ]
          refine takeG (some 39) (i := 24) (v := ?vu24x132) rfl rfl (by kernel_rfl) (by kernel_rfl) (by kernel_rfl) (fun _ _ _ h => h) (Or.inl ⟨by rfl, ?hu24x132⟩) hS0 ?ru24x132
          case hu24x132 => (intro w _; go_simp; try (with_reducible rfl))
          try simp only [Act.put, List.setIfInBounds_toArray, List.set_cons_zero, List.set_cons_succ]
          refine wpAnyH_ready (rs := [25]) (by kernel_rfl) (by simp) ?_
          refine AllReadyH.cons rfl (fun K hK => ?_) AllReadyH.nil
          have q4 : (World.setCell wd ⟨S, 3, none⟩ (.slice (some ⟨g, o, none⟩) n cap)).cell? ⟨S, 4, none⟩ = some (.int .u64 (s1 : Int)) := by rw [World.cell?_setCell_other _ _ _ _ (by simp)]; exact n4
          go_simp
          refine hK.out _ _ trivial (fun _ => ?_)
          clear hK K
          refine wpAnyH_done (by kernel_rfl) ?_ _
          have hu := HU.out _ kd
          have hx := HX.out _ kd
          go_wp2_with fail
          go_ret
          exact ⟨rfl, _, hu.1, hx.trans hu.2⟩
        ·
          go_simp
          refine (CW.out _).mono ?_
          rintro e y1 ⟨rfl, rfl⟩
          show K _ _
          refine hK.out _ _ trivial (fun _ => ?_)
          clear hK K
          refine wpAnyH_ready (rs := [5]) (by kernel_rfl) (by simp) ?_
          refine AllReadyH.cons rfl (fun K hK => ?_) AllReadyH.nil
          go_simp
          refine hK.out _ _ trivial (fun _ => ?_)
          clear hK K
          refine takeG (some 23) (i := 7) (v := ?vu7x136) rfl rfl (by kernel_rfl) (by kernel_rfl) (by kernel_rfl) (fun _ _ _ h => h) (Or.inl ⟨by rfl, ?hu7x136⟩) hS0 ?ru7x136
          case hu7x136 => (intro w _; go_simp; try (with_reducible rfl))
          try simp only [Act.put, List.setIfInBounds_toArray, List.set_cons_zero, List.set_cons_succ]
          refine takeG (some 36) (i := 20) (v := ?vu20x137) rfl rfl (by kernel_rfl) (by kernel_rfl) (by kernel_rfl) (fun _ _ _ h => h) (Or.inl ⟨by rfl, ?hu20x137⟩) hS0 ?ru20x137
          case hu20x137 => (intro w _; go_simp; try (with_reducible rfl))
          try simp only [Act.put, List.setIfInBounds_toArray, List.set_cons_zero, List.set_cons_succ]
          refine takeG (some 37) (i := 21) (v := ?vu21x138) rfl rfl (by kernel_rfl) (by kernel_rfl) (by kernel_rfl) (fun _ _ _ h => h) (Or.inl ⟨by rfl, ?hu21x138⟩) hS0 ?ru21x138
          case hu21x138 => (intro w _; go_simp; try (with_reducible rfl))
          try simp only [Act.put, List.setIfInBounds_toArray, List.set_cons_zero, List.set_cons_succ]
          refine wpAnyH_ready (rs := [22]) (by kernel_rfl) (by simp) ?_
          refine AllReadyH.cons rfl (fun K hK => ?_) AllReadyH.nil
          go_simp
          refine hK.out _ _ trivial (fun _ => ?_)
          clear hK K
          refine takeG (some 38) (i := 23) (v := ?vu23x140) rfl rfl (by kernel_rfl) (by kernel_rfl) (by kernel_rfl) (fun _ _ _ h => h) (Or.inl ⟨by rfl, ?hu23x140⟩) hS0 ?ru23x140
          case hu23x140 => (intro w _; go_simp; try (with_reducible rfl))
          try simp only [Act.put, List.setIfInBounds_toArray, List.set_cons_zero, List.set_cons_succ]
          refine takeG (some 39) (i := 24) (v := ?vu24x141) rfl rfl (by kernel_rfl) (by kernel_rfl) (by kernel_rfl) (fun _ _ _ h => h) (Or.inl ⟨by rfl, ?hu24x141⟩) hS0 ?ru24x141
          case hu24x141 => (intro w _; go_simp; try (with_reducible rfl))
          try simp only [Act.put, List.setIfInBounds_toArray, List.set_cons_zero, List.set_cons_succ]
          refine wpAnyH_ready (rs := [25]) (by kernel_rfl) (by simp) ?_
          refine AllReadyH.cons rfl (fun K hK => ?_) AllReadyH.nil
          have q4 : (World.setCell wd ⟨S, 3, none⟩ (.slice (some ⟨g, o, none⟩) n cap)).cell? ⟨S, 4, none⟩ = some (.int .u64 (s1 : Int)) := by rw [World.cell?_setCell_other _ _ _ _ (by simp)]; exact n4
          go_simp
          refine hK.out _ _ trivial (fun _ => ?_)
          clear hK K
          refine wpAnyH_done (by kernel_rfl) ?_ _
          have hu := HU.out _ kd
          have hx := HX.out _ kd
          go_wp2_with fail
          go_ret
          exact ⟨rfl, _, hu.1, hx.trans hu.2⟩
    ·
      go_simp
      refine hK.out _ _ trivial (fun _ => ?_)
      clear hK K
      refine wpAnyH_ready (rs := [5, 11]) (by kernel_rfl) (by simp) ?_
      refine AllReadyH.cons rfl (fun K hK => ?_) (AllReadyH.cons rfl (fun K hK => ?_) AllReadyH.nil)
      ·
        go_simp
        refine hK.out _ _ trivial (fun _ => ?_)
        clear hK K
        refine takeG (some 23) (i := 7) (v := ?vu7x145) rfl rfl (by kernel_rfl) (by kernel_rfl) (by kernel_rfl) (fun _ _ _ h => h) (Or.inl ⟨by rfl, ?hu7x145⟩) hS0 ?ru7x145
        case hu7x145 => (intro w _; go_simp; try (with_reducible rfl))
        try simp only [Act.put, List.setIfInBounds_toArray, List.set_cons_zero, List.set_cons_succ]
        refine wpAnyH_ready (rs := [11]) (by kernel_rfl) (by simp) ?_
        refine AllReadyH.cons rfl (fun K hK => ?_) AllReadyH.nil
        go_simp
        refine hK.out _ _ trivial (fun _ => ?_)
        clear hK K
        refine wpAnyH_ready (rs := [19]) (by kernel_rfl) (by simp) ?_
        refine AllReadyH.cons rfl (fun K hK => ?_) AllReadyH.nil
        go_simp
        refine (CW.out _).mono ?_
        rintro e y1 ⟨rfl, rfl⟩
        show K _ _
        refine hK.out _ _ trivial (fun _ => ?_)
        clear hK K
        refine takeG (some 36) (i := 20) (v := ?vu20x148) rfl rfl (by kernel_rfl) (by kernel_rfl) (by kernel_rfl) (fun _ _ _ h => h) (Or.inl ⟨by rfl, ?hu20x148⟩) hS0 ?ru20x148
        case hu20x148 => (intro w _; go_simp; try (with_reducible rfl))
        try simp only [Act.put, List.setIfInBounds_toArray, List.set_cons_zero, List.set_cons_succ]
        refine takeG (some 37) (i := 21) (v := ?vu21x149) rfl rfl (by kernel_rfl) (by kernel_rfl) (by kernel_rfl) (fun _ _ _ h => h) (Or.inl ⟨by rfl, ?hu21x149⟩) hS0 ?ru21x149
        case hu21x149 => (intro w _; go_simp; try (with_reducible rfl))
        try simp only [Act.put, List.setIfInBounds_toArray, List.set_cons_zero, List.set_cons_succ]
        refine wpAnyH_ready (rs := [22]) (by kernel_rfl) (by simp) ?_
        refine AllReadyH.cons rfl (fun K hK => ?_) AllReadyH.nil
        go_simp
        refine hK.out _ _ trivial (fun _ => ?_)
        clear hK K
        refine takeG (some 38) (i := 23) (v := ?vu23x151) rfl rfl (by kernel_rfl) (by kernel_rfl) (by kernel_rfl) (fun _ _ _ h => h) (Or.inl ⟨by rfl, ?hu23x151⟩) hS0 ?ru23x151
        case hu23x151 => (intro w _; go_simp; try (with_reducible rfl))
        try simp only [Act.put, List.setIfInBounds_toArray, List.set_cons_zero, List.set_cons_succ]
        refine takeG (some 39) (i := 24) (v := ?vu24x152) rfl rfl (by kernel_rfl) (by kernel_rfl) (by kernel_rfl) (fun _ _ _ h => h) (Or.inl ⟨by rfl, ?hu24x152⟩) hS0 ?ru24x152
        case hu24x152 => (intro w _; go_simp; try (with_reducible rfl))
        try simp only [Act.put, List.setIfInBounds_toArray, List.set_cons_zero, List.set_cons_succ]
        refine wpAnyH_ready (rs := [25]) (by kernel_rfl) (by simp) ?_
        refine AllReadyH.cons rfl (fun K hK => ?_) AllReadyH.nil
        have q4 : (World.setCell wd ⟨S, 3, none⟩ (.slice (some ⟨g, o, none⟩) n cap)).cell? ⟨S, 4, none⟩ = some (.int .u64 (s1 : Int)) := by rw [World.cell?_setCell_other _ _ _ _ (by simp)]; exact n4
        go_simp
        refine hK.out _ _ trivial (fun _ => ?_)
        clear hK K
        refine wpAnyH_done (by kernel_rfl) ?_ _
        have hu := HU.out _ kd
        have hx := HX.out _ kd
        go_wp2_with fail
        go_ret
        exact ⟨rfl, _, hu.1, hx.trans hu.2⟩
      ·
        go_simp
        refine hK.out _ _ trivial (fun _ => ?_)
        clear hK K
        refine wpAnyH_ready (rs := [5, 19]) (by kernel_rfl) (by simp) ?_
        refine AllReadyH.cons rfl (fun K hK => ?_) (AllReadyH.cons rfl (fun K hK => ?_) AllReadyH.nil)
        ·
          go_simp
          refine hK.out _ _ trivial (fun _ => ?_)
          clear hK K
          refine takeG (some 23) (i := 7) (v := ?vu7x156) rfl rfl (by kernel_rfl) (by kernel_rfl) (by kernel_rfl) (fun _ _ _ h => h) (Or.inl ⟨by rfl, ?hu7x156⟩) hS0 ?ru7x156
          case hu7x156 => (intro w _; go_simp; try (with_reducible rfl))
          try simp only [Act.put, List.setIfInBounds_toArray, List.set_cons_zero, List.set_cons_succ]
          refine wpAnyH_ready (rs := [19]) (by kernel_rfl) (by simp) ?_
          refine AllReadyH.cons rfl (fun K hK => ?_) AllReadyH.nil
          go_simp
          refine (CW.out _).mono ?_
          rintro e y1 ⟨rfl, rfl⟩
          show K _ _
          refine hK.out _ _ trivial (fun _ => ?_)
          clear hK K
          refine takeG (some 36) (i := 20) (v := ?vu20x158) rfl rfl (by kernel_rfl) (by kernel_rfl) (by kernel_rfl) (fun _ _ _ h => h) (Or.inl ⟨by rfl, ?hu20x158⟩) hS0 ?ru20x158
          case hu20x158 => (intro w _; go_simp; try (with_reducible rfl))
          try simp only [Act.put, List.setIfInBounds_toArray, List.set_cons_zero, List.set_cons_succ]
          refine takeG (some 37) (i := 21) (v := ?vu21x159) rfl rfl (by kernel_rfl) (by kernel_rfl) (by kernel_rfl) (fun _ _ _ h => h) (Or.inl ⟨by rfl, ?hu21x159⟩) hS0 ?ru21x159
          case hu21x159 => (intro w _; go_simp; try (with_reducible rfl))
          try simp only [Act.put, List.setIfInBounds_toArray, List.set_cons_zero, List.set_cons_succ]
          refine wpAnyH_ready (rs := [22]) (by kernel_rfl) (by simp) ?_
          refine AllReadyH.cons rfl (fun K hK => ?_) AllReadyH.nil
          go_simp
          refine hK.out _ _ trivial (fun _ => ?_)
          clear hK K
          refine takeG (some 38) (i := 23) (v := ?vu23x161) rfl rfl (by kernel_rfl) (by kernel_rfl) (by kernel_rfl) (fun _ _ _ h => h) (Or.inl ⟨by rfl, ?hu23x161⟩) hS0 ?ru23x161
          case hu23x161 => (intro w _; go_simp; try (with_reducible rfl))
          try simp only [Act.put, List.setIfInBounds_toArray, List.set_cons_zero, List.set_cons_succ]
          refine takeG (some 39) (i := 24) (v := ?vu24x162) rfl rfl (by kernel_rfl) (by kernel_rfl) (by kernel_rfl) (fun _ _ _ h => h) (Or.inl ⟨by rfl, ?hu24x162⟩) hS0 ?ru24x162
          case hu24x162 => (intro w _; go_simp; try (with_reducible rfl))
          try simp only [Act.put, List.setIfInBounds_toArray, List.set_cons_zero, List.set_cons_succ]
          refine wpAnyH_ready (rs := [25]) (by kernel_rfl) (by simp) ?_
          refine AllReadyH.cons rfl (fun K hK => ?_) AllReadyH.nil
          have q4 : (World.setCell wd ⟨S, 3, none⟩ (.slice (some ⟨g, o, none⟩) n cap)).cell? ⟨S, 4, none⟩ = some (.int .u64 (s1 : Int)) := by rw [World.cell?_setCell_other _ _ _ _ (by simp)]; exact n4
          go_simp
          refine hK.out _ _ trivial (fun _ => ?_)
          clear hK K
          refine wpAnyH_done (by kernel_rfl) ?_ _
          have hu := HU.out _ kd
          have hx := HX.out _ kd
          go_wp2_with fail
          go_ret
          exact ⟨rfl, _, hu.1, hx.trans hu.2⟩
        ·
          go_simp
          refine (CW.out _).mono ?_
          rintro e y1 ⟨rfl, rfl⟩
          show K _ _
          refine hK.out _ _ trivial (fun _ => ?_)
          clear hK K
          refine wpAnyH_ready (rs := [5]) (by kernel_rfl) (by simp) ?_
          refine AllReadyH.cons rfl (fun K hK => ?_) AllReadyH.nil
          go_simp
          refine hK.out _ _ trivial (fun _ => ?_)
          clear hK K
          refine takeG (some 23) (i := 7) (v := ?vu7x166) rfl rfl (by kernel_rfl) (by kernel_rfl) (by kernel_rfl) (fun _ _ _ h => h) (Or.inl ⟨by rfl, ?hu7x166⟩) hS0 ?ru7x166
          case hu7x166 => (intro w _; go_simp; try (with_reducible rfl))
          try simp only [Act.put, List.setIfInBounds_toArray, List.set_cons_zero, List.set_cons_succ]
          refine takeG (some 36) (i := 20) (v := ?vu20x167) rfl rfl (by kernel_rfl) (by kernel_rfl) (by kernel_rfl) (fun _ _ _ h => h) (Or.inl ⟨by rfl, ?hu20x167⟩) hS0 ?ru20x167
          case hu20x167 => (intro w _; go_simp; try (with_reducible rfl))
          try simp only [Act.put, List.setIfInBounds_toArray, List.set_cons_zero, List.set_cons_succ]
          refine takeG (some 37) (i := 21) (v := ?vu21x168) rfl rfl (by kernel_rfl) (by kernel_rfl) (by kernel_rfl) (fun _ _ _ h => h) (Or.inl ⟨by rfl, ?hu21x168⟩) hS0 ?ru21x168
          case hu21x168 => (intro w _; go_simp; try (with_reducible rfl))
          try simp only [Act.put, List.setIfInBounds_toArray, List.set_cons_zero, List.set_cons_succ]
          refine wpAnyH_ready (rs := [22]) (by kernel_rfl) (by simp) ?_
          refine AllReadyH.cons rfl (fun K hK => ?_) AllReadyH.nil
          go_simp
          refine hK.out _ _ trivial (fun _ => ?_)
          clear hK K
          refine takeG (some 38) (i := 23) (v := ?vu23x170) rfl rfl (by kernel_rfl) (by kernel_rfl) (by kernel_rfl) (fun _ _ _ h => h) (Or.inl ⟨by rfl, ?hu23x170⟩) hS0 ?ru23x170
          case hu23x170 => (intro w _; go_simp; try (with_reducible rfl))
          try simp only [Act.put, List.setIfInBounds_toArray, List.set_cons_zero, List.set_cons_succ]
          refine takeG (some 39) (i := 24) (v := ?vu24x171) rfl rfl (by kernel_rfl) (by kernel_rfl) (by kernel_rfl) (fun _ _ _ h => h) (Or.inl ⟨by rfl, ?hu24x171⟩) hS0 ?ru24x171
          case hu24x171 => (intro w _; go_simp; try (with_reducible rfl))
          try simp only [Act.put, List.setIfInBounds_toArray, List.set_cons_zero, List.set_cons_succ]
          refine wpAnyH_ready (rs := [25]) (by kernel_rfl) (by simp) ?_
          refine AllReadyH.cons rfl (fun K hK => ?_) AllReadyH.nil
          have q4 : (World.setCell wd ⟨S, 3, none⟩ (.slice (some ⟨g, o, none⟩) n cap)).cell? ⟨S, 4, none⟩ = some (.int .u64 (s1 : Int)) := by rw [World.cell?_setCell_other _ _ _ _ (by simp)]; exact n4
          go_simp
          refine hK.out _ _ trivial (fun _ => ?_)
          clear hK K
          refine wpAnyH_done (by kernel_rfl) ?_ _
          have hu := HU.out _ kd
          have hx := HX.out _ kd
          go_wp2_with fail
          go_ret
          exact ⟨rfl, _, hu.1, hx.trans hu.2⟩
end
end Go.Proofs.YtecpeegbfeijaaaDoor

namespace Go.Proofs.YtecpeegbfeijaaaDoor
set_option maxRecDepth 100000
open Go.RowKit

/-- Where what is read lies, and who writes to each key. -/
theorem ordis_rd {w : World} {B b : Nat} {h : List TxnV} (hO : OrdIs w B b h) (hc : checkI h = 0) {i : Nat} (hi : i < h.length) : ∃ bm g o rcap ao cap, w.cell? ⟨B, 193, none⟩ = some (.map (some bm)) ∧ w.cell? ⟨B, 195, none⟩ = some (.slice (some ⟨g, o, none⟩) h.length rcap) ∧
    w.cell? ⟨g, o + i, none⟩ = some (.slice ao (readsOf h i).length cap) ∧ Frs w (.slice ao (readsOf h i).length cap) (readsOf h i) ∧ bm < w.heap.size ∧
    ∀ wx, Below w.heap.size w wx → ∀ y, InI y → Sem.run Tryd.prog (Instr.lookup 69 (.map (some bm)) (.int .i64 y) false) wx = .ok (.int .u64 ((wrtN h y : Nat) : Int)) wx := by
  obtain ⟨bm, m, c, vk, vr, K, R, h1, h2, h3, h4, h5, h6⟩ := hO
  have hl : R.length = h.length := by have := congrArg List.length h6; simpa [readsTo] using this
  have hF := h4.frws
  obtain ⟨⟨hlen, ro, rcap, rfl, hm, hno, hcc⟩, hE⟩ := hF
  obtain ⟨g, o, rfl, hcell⟩ := hcc (by omega)
  have hiR : i < R.length := by omega
  have he : R[i].2 = readsOf h i := by
    have := congrArg (·[i]?) h6
    simp only [List.getElem?_map, List.getElem?_eq_getElem hiR, readsTo, List.getElem?_range hi, Option.map_some] at this
    exact Option.some.inj this
  have hfr := hE _ (List.getElem_mem hiR)
  rw [he] at hfr
  obtain ⟨ao, cap, e, _⟩ := hfr.form
  have hcR := h1.cR
  rw [hl] at hcR
  refine ⟨bm, g, o, rcap, ao, cap, h1.cM, hcR, ?_, by rw [← e]; exact hfr, h2.lt, fun wx hx y hy => ?_⟩
  · rw [hcell i (by omega), List.getElem?_map, List.getElem?_eq_getElem hiR, ← e]; rfl
  · have hK := lookI_run (t := 69) (el := 36) (w := wx) false keyI mapIS 0 (zeroS _) (h2.below hx) hy
    rw [wrt_eq hc h5 h3 y] at hK
    simpa only [Bool.false_eq_true, if_false, eS] using hK
theorem all_take {α : Type} {l : List α} {f : α → Bool} {k : Nat} (hk : k < l.length) (hp : (l.take k).all f = true) (hy : f l[k] = true) : (l.take (k + 1)).all f = true := by
  rw [List.take_succ_eq_append_getElem hk, List.all_append, hp]; simp [hy]
theorem all_no {α : Type} {l : List α} {f : α → Bool} {k : Nat} (hk : k < l.length) (hn : f l[k] = false) : l.all f = false := by
  rw [List.all_eq_false]
  exact ⟨_, List.getElem_mem hk, by rw [hn]; simp⟩
set_option maxRecDepth 100000 in
set_option maxHeartbeats 16000000 in
theorem preads_any {W : World} {S B b : Nat} {h : List TxnV} {C : Nat} {r : List Nat} {vb vr : Value} {aF sF : Nat → Nat} {w : World} (p : PlIs W S B b h C r vb vr aF sF w) (hc : checkI h = 0) (i : Nat) (hi : i < h.length) (s : Nat) (hs : IsSet s) :
    Calls Tryd.prog 29 #[.pointer (some ⟨S, 0, none⟩), .int .i64 i, .int .u64 (s : Int)] w fun e w' => e = .returned (.bool (readsP h aF s i)) ∧ Below w.heap.size w w' := by
  have HR : Hid (readsP h aF s i = (readsOf h i).all (readP h aF s)) := Lib.hid rfl
  have h64 := (check_zero hc).1
  have hii : (i : Int) < (h.length : Int) := by omega
  obtain ⟨bm, g, o, rcap, ao, cap, n1, n2, n3, hfr, _, hlook⟩ := ordis_rd p.ord hc hi
  have n0 := p.a.cO
  have HF := Lib.hid (fun wx (hx : Below w.heap.size w wx) => hfr.below hx)
  have HP := Lib.hid (fun wx (hx : Below w.heap.size w wx) => And.intro (p.below hx).a.cO ((hx.cell (p := ⟨B, 193, none⟩) (block_lt n1)).trans n1))
  have HLK := Lib.hid hlook
  have HA := Lib.hid (fun wx (hx : Below w.heap.size w wx) k (hk : k < 64) => (p.below hx).a.cA hk)
  have HAS := Lib.hid (fun k (hk : k < 64) => (p.set k hk).1)
  have HKEY := Lib.hid (fun r (hr : r ∈ readsOf h i) => reads_key hc hi hr)
  have HFR : Hid (∀ r ∈ readsOf h i, r.2 < 64) := Lib.hid (fun r hr => by
    rcases read_from hc hi hr with e | ⟨n, hn, e, _⟩
    · omega
    · omega)
  have HW := Lib.hid (fun y => wrtN_set h y)
  have hb0 := Below.refl w.heap.size w
  obtain ⟨_, _, _, hri⟩ := hfr.form
  clear p hfr hlook hc n1 hi h64
  go_enter Tryd.func29, Tryd.ntmps29
  go_wp2_with fail
  clear n0 n2 n3
  go_loopw [21] (fun j wx => ∃ k : Nat, k ≤ (readsOf h i).length ∧ j = .int .i64 k ∧ Hid (((readsOf h i).take k).all (readP h aF s) = true) ∧ Below w.heap.size w wx) (fun j _ => (readsOf h i).length - (intOf j).toNat)
  case atStart => exact ⟨0, by omega, rfl, Lib.hid rfl, hb0⟩
  case round =>
    clear hb0
    obtain ⟨k, hk, rfl, HRO, hbk⟩ := hrel
    by_cases hlk : k < (readsOf h i).length
    · have hkk : (k : Int) < ((readsOf h i).length : Int) := by omega
      obtain ⟨gk, ok, hao, e0, e1⟩ := (HF.out _ hbk).at hlk
      cases hao
      have hkey := HKEY.out _ (List.getElem_mem hlk)
      have hrf := HFR.out _ (List.getElem_mem hlk)
      have HYE := Lib.hid (fun hy => all_take (f := readP h aF s) hlk HRO.out hy)
      have HNO := Lib.hid (fun hn => all_no (f := readP h aF s) hlk hn)
      have HRD : Hid (readP h aF s (readsOf h i)[k] = decide (readW h aF s (readsOf h i)[k] = 0)) := Lib.hid rfl
      generalize readP h aF s (readsOf h i)[k] = rb at *
      generalize (readsOf h i)[k] = rr at *
      obtain ⟨rk, rf⟩ := rr
      simp only at e0 e1 hkey HRD hrf
      have hkI : InI rk := inI_of (by unfold IntOk; omega)
      have hset := HW.out rk
      have HWE : Hid (readW h aF s (rk, rf) = if 0 ≤ rf then lackN (s &&& wrtN h rk) (withS (aF rf.toNat) rf) else s &&& wrtN h rk) := Lib.hid rfl
      have HLK2 := Lib.hid (fun wx (hx : Below w.heap.size w wx) => HLK.out wx hx rk hkI)
      generalize readW h aF s (rk, rf) = z at *
      generalize wrtN h rk = x at *
      have hand := Go.bits_and_u64_nat _ _ hs hset
      have hsx : IsSet (s &&& x) := isSet_and hs
      generalize s &&& x = sx at *
      have hbq := hbk.alloc hbk.size (.cells #[.int .i64 rk, .int .i64 rf] 93)
      obtain ⟨d0, d1⟩ : (wr.alloc (.cells #[.int .i64 rk, .int .i64 rf] 93)).cell? ⟨wr.heap.size, 0, none⟩ = some (.int .i64 rk) ∧ (wr.alloc (.cells #[.int .i64 rk, .int .i64 rf] 93)).cell? ⟨wr.heap.size, 1, none⟩ = some (.int .i64 rf) := by
        constructor <;> (rw [cell_of_row _ _ _ _ _ _ (heap_alloc_new wr _)]; rfl)
      go_upto_region 4 with fail
      clear e0 e1 hbk hkI hset
      generalize wr.alloc (.cells #[.int .i64 rk, .int .i64 rf] 93) = w5 at *
      generalize wr.heap.size = q at *
      have HBQ := Lib.hid (fun wx (hx : Below w5.heap.size w5 wx) => hbq.trans (hx.mono hbq.size))
      have HS := Lib.hid (fun wx (hx : Below w5.heap.size w5 wx) => And.intro (HP.out wx (hbq.trans (hx.mono hbq.size))) (And.intro ((hx.cell (p := ⟨q, 0, none⟩) (block_lt d0)).trans d0) (And.intro ((hx.cell (p := ⟨q, 1, none⟩) (block_lt d1)).trans d1) (HLK2.out wx (hbq.trans (hx.mono hbq.size))))))
      have kd := (Below.refl w5.heap.size w5).drew
      clear d0 d1 hbq
      refine wp_region_held_drew (S := Below w5.heap.size w5) (by kernel_rfl) kd (fun hS0 => ?_)
      refine takeG (some 25) (i := 0) (v := ?vra0) rfl rfl (by kernel_rfl) (by kernel_rfl) (by kernel_rfl) (fun _ _ _ h => h) (Or.inl ⟨by rfl, ?hra0⟩) hS0 ?rra0
      case hra0 => (intro w hw; obtain ⟨⟨m0, m1⟩, m2, m3, m4⟩ := HS.out _ hw; go_simp; try (with_reducible rfl))
      try simp only [Act.put, List.setIfInBounds_toArray, List.set_cons_zero, List.set_cons_succ]
      refine takeG (some 26) (i := 1) (v := ?vra1) rfl rfl (by kernel_rfl) (by kernel_rfl) (by kernel_rfl) (fun _ _ _ h => h) (Or.inl ⟨by rfl, ?hra1⟩) hS0 ?rra1
      case hra1 => (intro w hw; obtain ⟨⟨m0, m1⟩, m2, m3, m4⟩ := HS.out _ hw; go_simp; try (with_reducible rfl))
      try simp only [Act.put, List.setIfInBounds_toArray, List.set_cons_zero, List.set_cons_succ]
      refine takeG (some 27) (i := 2) (v := ?vra2) rfl rfl (by kernel_rfl) (by kernel_rfl) (by kernel_rfl) (fun _ _ _ h => h) (Or.inl ⟨by rfl, ?hra2⟩) hS0 ?rra2
      case hra2 => (intro w hw; obtain ⟨⟨m0, m1⟩, m2, m3, m4⟩ := HS.out _ hw; go_simp; try (with_reducible rfl))
      try simp only [Act.put, List.setIfInBounds_toArray, List.set_cons_zero, List.set_cons_succ]
      refine takeG (some 28) (i := 3) (v := ?vra3) rfl rfl (by kernel_rfl) (by kernel_rfl) (by kernel_rfl) (fun _ _ _ h => h) (Or.inl ⟨by rfl, ?hra3⟩) hS0 ?rra3
      case hra3 => (intro w hw; obtain ⟨⟨m0, m1⟩, m2, m3, m4⟩ := HS.out _ hw; go_simp; try (with_reducible rfl))
      try simp only [Act.put, List.setIfInBounds_toArray, List.set_cons_zero, List.set_cons_succ]
      refine takeG (some 29) (i := 4) (v := ?vra4) rfl rfl (by kernel_rfl) (by kernel_rfl) (by kernel_rfl) (fun _ _ _ h => h) (Or.inl ⟨by rfl, ?hra4⟩) hS0 ?rra4
      case hra4 => (intro w hw; obtain ⟨⟨m0, m1⟩, m2, m3, m4⟩ := HS.out _ hw; go_simp; try (with_reducible rfl))
      try simp only [Act.put, List.setIfInBounds_toArray, List.set_cons_zero, List.set_cons_succ]
      refine takeG (some 30) (i := 5) (v := ?vra5) rfl rfl (by kernel_rfl) (by kernel_rfl) (by kernel_rfl) (fun _ _ _ h => h) (Or.inl ⟨by rfl, ?hra5⟩) hS0 ?rra5
      case hra5 => (intro w hw; obtain ⟨⟨m0, m1⟩, m2, m3, m4⟩ := HS.out _ hw; go_simp; try (with_reducible rfl))
      try simp only [Act.put, List.setIfInBounds_toArray, List.set_cons_zero, List.set_cons_succ]
      refine takeG (some 31) (i := 6) (v := ?vra6) rfl rfl (by kernel_rfl) (by kernel_rfl) (by kernel_rfl) (fun _ _ _ h => h) (Or.inl ⟨by rfl, ?hra6⟩) hS0 ?rra6
      case hra6 => (intro w hw; obtain ⟨⟨m0, m1⟩, m2, m3, m4⟩ := HS.out _ hw; go_simp; try (with_reducible rfl))
      try simp only [Act.put, List.setIfInBounds_toArray, List.set_cons_zero, List.set_cons_succ]
      refine takeG (some 32) (i := 7) (v := ?vra7) rfl rfl (by kernel_rfl) (by kernel_rfl) (by kernel_rfl) (fun _ _ _ h => h) (Or.inl ⟨by rfl, ?hra7⟩) hS0 ?rra7
      case hra7 => (intro w hw; obtain ⟨⟨m0, m1⟩, m2, m3, m4⟩ := HS.out _ hw; go_simp; try (with_reducible rfl))
      try simp only [Act.put, List.setIfInBounds_toArray, List.set_cons_zero, List.set_cons_succ]
      refine takeG (some 33) (i := 8) (v := ?vra8) rfl rfl (by kernel_rfl) (by kernel_rfl) (by kernel_rfl) (fun _ _ _ h => h) (Or.inl ⟨by rfl, ?hra8⟩) hS0 ?rra8
      case hra8 => (intro w hw; obtain ⟨⟨m0, m1⟩, m2, m3, m4⟩ := HS.out _ hw; go_simp; try (with_reducible rfl))
      try simp only [Act.put, List.setIfInBounds_toArray, List.set_cons_zero, List.set_cons_succ]
      refine takeG (some 34) (i := 9) (v := ?vra9) rfl rfl (by kernel_rfl) (by kernel_rfl) (by kernel_rfl) (fun _ _ _ h => h) (Or.inl ⟨by rfl, ?hra9⟩) hS0 ?rra9
      case hra9 => (intro w hw; obtain ⟨⟨m0, m1⟩, m2, m3, m4⟩ := HS.out _ hw; go_simp; try (with_reducible rfl))
      try simp only [Act.put, List.setIfInBounds_toArray, List.set_cons_zero, List.set_cons_succ]
      refine takeG (some 35) (i := 10) (v := ?vra10) rfl rfl (by kernel_rfl) (by kernel_rfl) (by kernel_rfl) (fun _ _ _ h => h) (Or.inl ⟨by rfl, ?hra10⟩) hS0 ?rra10
      case hra10 => (intro w hw; obtain ⟨⟨m0, m1⟩, m2, m3, m4⟩ := HS.out _ hw; go_simp; try (with_reducible rfl))
      try simp only [Act.put, List.setIfInBounds_toArray, List.set_cons_zero, List.set_cons_succ]
      refine takeG (some 36) (i := 11) (v := ?vra11) rfl rfl (by kernel_rfl) (by kernel_rfl) (by kernel_rfl) (fun _ _ _ h => h) (Or.inl ⟨by rfl, ?hra11⟩) hS0 ?rra11
      case hra11 => (intro w hw; obtain ⟨⟨m0, m1⟩, m2, m3, m4⟩ := HS.out _ hw; go_simp; try (with_reducible rfl))
      try simp only [Act.put, List.setIfInBounds_toArray, List.set_cons_zero, List.set_cons_succ]
      refine takeG (some 9) (i := 12) (v := ?vra12) rfl rfl (by kernel_rfl) (by kernel_rfl) (by kernel_rfl) (fun _ _ _ h => h) (Or.inl ⟨by rfl, ?hra12⟩) hS0 ?rra12
      case hra12 => (intro w hw; obtain ⟨⟨m0, m1⟩, m2, m3, m4⟩ := HS.out _ hw; go_simp; try (with_reducible rfl))
      try simp only [Act.put, List.setIfInBounds_toArray, List.set_cons_zero, List.set_cons_succ]
      refine wpAnyH_done (by kernel_rfl) ?_ _
      clear hand
      obtain ⟨⟨m0, m1⟩, m2, m3, m4⟩ := HS.out _ kd
      clear m4 m1
      go_upto_if 39 with fail
      go_cut [9] from 37 to 51 (fun v wx => v = .int .u64 (z : Int) ∧ Below w5.heap.size w5 wx)
      case first =>
        by_cases h0 : 0 ≤ rf
        · obtain ⟨n, rfl⟩ := Int.eq_ofNat_of_zero_le h0
          have hn64 : n < 64 := by omega
          have hni : (n : Int) < 64 := by omega
          have hAn := HAS.out n hn64
          have CW := Lib.hid (fun wx => with_any (aF n) (n : Int) wx hAn)
          have HE : Hid (bits .andNot .u64 (sx : Int) ((withS (aF n) (n : Int) : Nat) : Int) = (z : Int)) := Lib.hid (by
            rw [bits_andNot_u64_nat _ _ hsx (isSet_withS hAn), HWE.out, if_pos h0, Int.toNat_natCast]; rfl)
          have HS3 := Lib.hid (fun wx (hx : Below w5.heap.size w5 wx) => And.intro (HS.out wx hx) (HA.out wx (HBQ.out wx hx) n hn64))
          generalize withS (aF n) (n : Int) = y at *
          generalize aF n = an at *
          clear m0 m2 hAn HWE HRD HYE HNO HS HA HAS
          go_upto_region 6 with fail
          refine wp_region_held_drew (S := Below w5.heap.size w5) (by kernel_rfl) kd.drew (fun hS0 => ?_)
          refine takeG (some 40) (i := 0) (v := ?vrb0) rfl rfl (by kernel_rfl) (by kernel_rfl) (by kernel_rfl) (fun _ _ _ h => h) (Or.inl ⟨by rfl, ?hrb0⟩) hS0 ?rrb0
          case hrb0 => (intro w hw; obtain ⟨⟨⟨m0, m1⟩, m2, m3, _⟩, m5⟩ := HS3.out _ hw; go_simp; try (with_reducible rfl))
          try simp only [Act.put, List.setIfInBounds_toArray, List.set_cons_zero, List.set_cons_succ]
          refine takeG (some 41) (i := 1) (v := ?vrb1) rfl rfl (by kernel_rfl) (by kernel_rfl) (by kernel_rfl) (fun _ _ _ h => h) (Or.inl ⟨by rfl, ?hrb1⟩) hS0 ?rrb1
          case hrb1 => (intro w hw; obtain ⟨⟨⟨m0, m1⟩, m2, m3, _⟩, m5⟩ := HS3.out _ hw; go_simp; try (with_reducible rfl))
          try simp only [Act.put, List.setIfInBounds_toArray, List.set_cons_zero, List.set_cons_succ]
          refine takeG (some 42) (i := 2) (v := ?vrb2) rfl rfl (by kernel_rfl) (by kernel_rfl) (by kernel_rfl) (fun _ _ _ h => h) (Or.inl ⟨by rfl, ?hrb2⟩) hS0 ?rrb2
          case hrb2 => (intro w hw; obtain ⟨⟨⟨m0, m1⟩, m2, m3, _⟩, m5⟩ := HS3.out _ hw; go_simp; try (with_reducible rfl))
          try simp only [Act.put, List.setIfInBounds_toArray, List.set_cons_zero, List.set_cons_succ]
          refine takeG (some 43) (i := 3) (v := ?vrb3) rfl rfl (by kernel_rfl) (by kernel_rfl) (by kernel_rfl) (fun _ _ _ h => h) (Or.inl ⟨by rfl, ?hrb3⟩) hS0 ?rrb3
          case hrb3 => (intro w hw; obtain ⟨⟨⟨m0, m1⟩, m2, m3, _⟩, m5⟩ := HS3.out _ hw; go_simp; try (with_reducible rfl))
          try simp only [Act.put, List.setIfInBounds_toArray, List.set_cons_zero, List.set_cons_succ]
          refine takeG (some 44) (i := 4) (v := ?vrb4) rfl rfl (by kernel_rfl) (by kernel_rfl) (by kernel_rfl) (fun _ _ _ h => h) (Or.inl ⟨by rfl, ?hrb4⟩) hS0 ?rrb4
          case hrb4 => (intro w hw; obtain ⟨⟨⟨m0, m1⟩, m2, m3, _⟩, m5⟩ := HS3.out _ hw; go_simp; try (with_reducible rfl))
          try simp only [Act.put, List.setIfInBounds_toArray, List.set_cons_zero, List.set_cons_succ]
          refine takeG (some 45) (i := 5) (v := ?vrb5) rfl rfl (by kernel_rfl) (by kernel_rfl) (by kernel_rfl) (fun _ _ _ h => h) (Or.inl ⟨by rfl, ?hrb5⟩) hS0 ?rrb5
          case hrb5 => (intro w hw; obtain ⟨⟨⟨m0, m1⟩, m2, m3, _⟩, m5⟩ := HS3.out _ hw; go_simp; try (with_reducible rfl))
          try simp only [Act.put, List.setIfInBounds_toArray, List.set_cons_zero, List.set_cons_succ]
          refine takeG (some 46) (i := 6) (v := ?vrb6) rfl rfl (by kernel_rfl) (by kernel_rfl) (by kernel_rfl) (fun _ _ _ h => h) (Or.inl ⟨by rfl, ?hrb6⟩) hS0 ?rrb6
          case hrb6 => (intro w hw; obtain ⟨⟨⟨m0, m1⟩, m2, m3, _⟩, m5⟩ := HS3.out _ hw; go_simp; try (with_reducible rfl))
          try simp only [Act.put, List.setIfInBounds_toArray, List.set_cons_zero, List.set_cons_succ]
          refine takeG (some 47) (i := 7) (v := ?vrb7) rfl rfl (by kernel_rfl) (by kernel_rfl) (by kernel_rfl) (fun _ _ _ h => h) (Or.inl ⟨by rfl, ?hrb7⟩) hS0 ?rrb7
          case hrb7 => (intro w hw; obtain ⟨⟨⟨m0, m1⟩, m2, m3, _⟩, m5⟩ := HS3.out _ hw; go_simp; try (with_reducible rfl))
          try simp only [Act.put, List.setIfInBounds_toArray, List.set_cons_zero, List.set_cons_succ]
          refine takeG (some 48) (i := 8) (v := ?vrb8) rfl rfl (by kernel_rfl) (by kernel_rfl) (by kernel_rfl) (fun _ _ _ h => h) (Or.inl ⟨by rfl, ?hrb8⟩) hS0 ?rrb8
          case hrb8 => (intro w hw; obtain ⟨⟨⟨m0, m1⟩, m2, m3, _⟩, m5⟩ := HS3.out _ hw; go_simp; try (with_reducible rfl))
          try simp only [Act.put, List.setIfInBounds_toArray, List.set_cons_zero, List.set_cons_succ]
          refine takeG (some 49) (i := 9) (v := ?vrb9) rfl rfl (by kernel_rfl) (by kernel_rfl) (by kernel_rfl) (fun _ _ _ h => h) (Or.inl ⟨by rfl, ?hrb9⟩) hS0 ?rrb9
          case hrb9 => (intro w hw; obtain ⟨⟨⟨m0, m1⟩, m2, m3, _⟩, m5⟩ := HS3.out _ hw; go_simp; try (with_reducible rfl))
          try simp only [Act.put, List.setIfInBounds_toArray, List.set_cons_zero, List.set_cons_succ]
          refine wpAnyH_ready (rs := [10]) (by kernel_rfl) (by simp) ?_
          refine AllReadyH.cons rfl (fun K hK => ?_) AllReadyH.nil
          go_simp
          refine (CW.out _).mono ?_
          rintro e y1 ⟨rfl, rfl⟩
          show K _ _
          refine hK.out _ _ hS0 (fun _ => ?_)
          clear hK K
          refine takeG (some 51) (i := 11) (v := ?vrb11) rfl rfl (by kernel_rfl) (by kernel_rfl) (by kernel_rfl) (fun _ _ _ h => h) (Or.inl ⟨by rfl, ?hrb11⟩) hS0 ?rrb11
          case hrb11 => (intro w hw; obtain ⟨⟨⟨m0, m1⟩, m2, m3, _⟩, m5⟩ := HS3.out _ hw; go_simp; try (with_reducible rfl))
          try simp only [Act.put, List.setIfInBounds_toArray, List.set_cons_zero, List.set_cons_succ]
          refine takeG (some 9) (i := 12) (v := ?vrb12) rfl rfl (by kernel_rfl) (by kernel_rfl) (by kernel_rfl) (fun _ _ _ h => h) (Or.inl ⟨by rfl, ?hrb12⟩) hS0 ?rrb12
          case hrb12 => (intro w hw; obtain ⟨⟨⟨m0, m1⟩, m2, m3, _⟩, m5⟩ := HS3.out _ hw; go_simp; try (with_reducible rfl))
          try simp only [Act.put, List.setIfInBounds_toArray, List.set_cons_zero, List.set_cons_succ]
          refine wpAnyH_done (by kernel_rfl) ?_ _
          rw [HE.out]
          go_wp2_with fail
          go_meet
          exact ⟨rfl, hS0⟩
        · have HE : Hid (sx = z) := Lib.hid (by rw [HWE.out, if_neg h0])
          have h0 : ¬ (0 : Int) ≤ rf := h0
          go_wp2_with fail
          go_meet
          exact ⟨by rw [HE.out], kd⟩
      obtain ⟨rfl, hb6⟩ := hcut
      generalize wc = w6 at *
      have hbz := HBQ.out _ hb6
      clear m0 m2 m3 HS HBQ kd HWE HLK2
      by_cases hz : z = 0
      · have HY := Lib.hid (HYE.out (by rw [HRD.out, decide_eq_true hz]))
        have hzi : (z : Int) = 0 := by omega
        clear HYE HNO HRD hz
        go_wp2_with fail
        go_roundw
        case rel => exact ⟨k + 1, by omega, by go_num, HY, hbz⟩
        case measure => simp [intOf]; omega
      · have HY : Hid (false = readsP h aF s i) := Lib.hid (by rw [HR.out, HNO.out (by rw [HRD.out, decide_eq_false hz])])
        have hzi : ¬ (z : Int) = 0 := by omega
        clear HYE HNO HRD hz
        go_wp2_with fail
        go_ret
        exact ⟨ret_b HY.out, hbz⟩
    · have hk2 : k = (readsOf h i).length := by omega
      subst hk2
      have HY : Hid (true = readsP h aF s i) := Lib.hid (by rw [HR.out]; have := HRO.out; rw [List.take_length] at this; exact this.symm)
      go_wp2_with fail
      go_ret
      exact ⟨ret_b HY.out, hbk⟩
end Go.Proofs.YtecpeegbfeijaaaDoor
