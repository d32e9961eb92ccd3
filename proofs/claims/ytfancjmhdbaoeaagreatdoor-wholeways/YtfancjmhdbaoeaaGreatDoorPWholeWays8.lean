/- Walks and plain facts that the proof of the statement WholeWays uses, joined: BruF OrdL LeaI LeaJ TopA PlaH PlaF. Conditions: each theorem's own. -/
import Derived.Deep.RegionHeld
import Derived.Deep.CutRange
import Derived.Deep.MidRow
import Derived.Deep.AppendLies
import Derived.Test.YtfancjmhdbaoeaaGreatDoorPWholeWays3
import Derived.Test.YtfancjmhdbaoeaaGreatDoorPWholeWays5
import Derived.Test.YtfancjmhdbaoeaaGreatDoorPWholeWays7
namespace Go.Proofs.YtfancjmhdbaoeaaGreatDoor
set_option maxRecDepth 100000
open Go.RowKit Go.Shelf
attribute [local go_sem] Oper.semAt_some

/-- As many orders as keep a level; -1 of too many transactions. -/
def countI (h : List TxnV) (lv : Int) : Int := if h.length ≤ 8 then (((ordersN h.length).countP (keptL h lv) : Nat) : Int) else -1
/-- One order: whether a level is kept by it. -/
theorem bin_kept (lv : Int) (va : Value) (r : List Nat) (h : List TxnV) (B b : Nat) (w : World) (hO : OrdIs w B b h) (hc : checkI h = 0) (ht : Tab w) (hK : Kinds w) (hl : Ints w va (r.map Int.ofNat)) (hr : r ∈ ordersN h.length) :
    Calls Tryz.prog 13 #[.pointer (some ⟨B, 0, none⟩), .int .i64 lv, va] w fun e w' => (∃ X, (keptL h lv r = true → LeastIs h (askN lv) (r.map Int.ofNat) X) ∧ e = .returned (.tuple #[.agg (rowsA X), .bool (keptL h lv r)])) ∧ Below w.heap.size w w' := by
  refine (bin_any lv va (r.map Int.ofNat) h B b w hO hc ht hK hl).mono ?_
  rintro e w' ⟨⟨R, hR, rfl⟩, hb⟩
  have e1 := kept_holds hc lv (orders_perm hr) hR
  refine ⟨⟨inR h lv (r.map Int.ofNat) R, fun hk => ?_, by rw [e1]⟩, hb⟩
  unfold inR
  rw [if_pos (by rw [e1]; exact hk)]
  exact hR
/-- What stands in the loop's own cells. -/
structure CntI (s B : Nat) (lv : Int) (c : Nat) (w W : World) : Prop where
  c0 : W.cell? ⟨s, 0, none⟩ = some (.pointer (some ⟨B, 0, none⟩))
  c1 : W.cell? ⟨s + 1, 0, none⟩ = some (.int .i64 lv)
  c2 : W.cell? ⟨s + 1 + 1, 0, none⟩ = some (.int .i64 (c : Int))
  f2 : W.frozen? ⟨s + 1 + 1, 0, none⟩ = false
  bel : Below s w W
theorem CntI.below {s B : Nat} {lv : Int} {c D : Nat} {w W W' : World} (q : CntI s B lv c w W) (hb : Below D W W') (hD : s + 4 ≤ D) : CntI s B lv c w W' :=
  ⟨(hb.cell (p := ⟨s, 0, none⟩) (by show s < D; omega)).trans q.c0, (hb.cell (p := ⟨s + 1, 0, none⟩) (by show s + 1 < D; omega)).trans q.c1, (hb.cell (p := ⟨s + 1 + 1, 0, none⟩) (by show s + 1 + 1 < D; omega)).trans q.c2, (hb.frozen (p := ⟨s + 1 + 1, 0, none⟩) (by show s + 1 + 1 < D; omega)).trans q.f2, q.bel.trans (hb.mono (by omega))⟩
theorem CntI.more {s B : Nat} {lv : Int} {c : Nat} {w W : World} (q : CntI s B lv c w W) (c' : Nat) : CntI s B lv c' w (W.setCell ⟨s + 1 + 1, 0, none⟩ (.int .i64 (c' : Int))) := by
  refine ⟨?_, ?_, World.cell?_setCell_same _ _ _ q.c2, by rw [World.frozen?_setCell]; exact q.f2, q.bel.setCell (p := ⟨s + 1 + 1, 0, none⟩) (by show s ≤ s + 1 + 1; omega) _⟩
  · rw [World.cell?_setCell_other _ _ _ _ (by simp)]; exact q.c0
  · rw [World.cell?_setCell_other _ _ _ _ (by simp)]; exact q.c1
theorem exts_len (many : Nat) : ∀ (k : Nat) (r : List Nat), (exts many k r).length ≤ many ^ k
  | 0, r => by simp [exts]
  | k + 1, r => by
    have key : ∀ j, (extsTo many k r j).length ≤ j * many ^ k := by
      intro j
      induction j with
      | zero => rw [extsTo_zero]; simp
      | succ j ih =>
        rw [extsTo_succ, List.length_append, Nat.succ_mul]
        refine Nat.add_le_add ih ?_
        split
        · simp
        · exact exts_len many k _
    rw [exts_all, Nat.pow_succ, Nat.mul_comm]
    exact key many
theorem pre_len {n : Nat} (h8 : n ≤ 8) {pre : List (List Nat)} {r : List Nat} (hp : (pre ++ [r]) <+: ordersN n) (p : List Nat → Bool) : pre.countP p ≤ 16777216 := by
  have h1 := hp.length_le
  have h2 := exts_len n n []
  have h3 : n ^ n ≤ 8 ^ 8 := Nat.le_trans (Nat.pow_le_pow_left h8 n) (Nat.pow_le_pow_right (by omega) h8)
  have h4 := List.countP_le_length (p := p) (l := pre)
  have h5 : (ordersN n).length ≤ 8 ^ 8 := Nat.le_trans h2 h3
  rw [List.length_append] at h1
  have h6 : (8 : Nat) ^ 8 = 16777216 := by decide
  omega
theorem countP_snoc (p : List Nat → Bool) (pre : List (List Nat)) (r : List Nat) : (pre ++ [r]).countP p = pre.countP p + if p r = true then 1 else 0 := by
  rw [List.countP_append, List.countP_singleton]
theorem four_boxes (w : World) (B : Nat) (lv n : Int) (c : Nat) (t1 t2 t3 t4 : TypeId) :
    CntI w.heap.size B lv c w ((((w.alloc (.cells #[.pointer (some ⟨B, 0, none⟩)] t1)).alloc (.cells #[.int .i64 lv] t2)).alloc (.cells #[.int .i64 (c : Int)] t3)).alloc (.cells #[.int .i64 n] t4)) ∧
    ((((w.alloc (.cells #[.pointer (some ⟨B, 0, none⟩)] t1)).alloc (.cells #[.int .i64 lv] t2)).alloc (.cells #[.int .i64 (c : Int)] t3)).alloc (.cells #[.int .i64 n] t4)).cell? ⟨w.heap.size + 3, 0, none⟩ = some (.int .i64 n) ∧
    ((((w.alloc (.cells #[.pointer (some ⟨B, 0, none⟩)] t1)).alloc (.cells #[.int .i64 lv] t2)).alloc (.cells #[.int .i64 (c : Int)] t3)).alloc (.cells #[.int .i64 n] t4)).heap.size = w.heap.size + 4 := by
  obtain ⟨w1, e1⟩ : ∃ x, x = w.alloc (.cells #[.pointer (some ⟨B, 0, none⟩)] t1) := ⟨_, rfl⟩
  obtain ⟨w2, e2⟩ : ∃ x, x = w1.alloc (.cells #[.int .i64 lv] t2) := ⟨_, rfl⟩
  obtain ⟨w3, e3⟩ : ∃ x, x = w2.alloc (.cells #[.int .i64 (c : Int)] t3) := ⟨_, rfl⟩
  obtain ⟨w4, e4⟩ : ∃ x, x = w3.alloc (.cells #[.int .i64 n] t4) := ⟨_, rfl⟩
  rw [← e1, ← e2, ← e3, ← e4]
  have s1 : w1.heap.size = w.heap.size + 1 := by rw [e1]; simp
  have s2 : w2.heap.size = w.heap.size + 2 := by rw [e2]; simp [s1]
  have s3 : w3.heap.size = w.heap.size + 3 := by rw [e3]; simp [s2]
  have s4 : w4.heap.size = w.heap.size + 4 := by rw [e4]; simp [s3]
  have b1 : Below w.heap.size w w1 := by rw [e1]; exact (Below.refl _ _).alloc (Nat.le_refl _) _
  have b2 : Below w1.heap.size w1 w2 := by rw [e2]; exact (Below.refl _ _).alloc (Nat.le_refl _) _
  have b3 : Below w2.heap.size w2 w3 := by rw [e3]; exact (Below.refl _ _).alloc (Nat.le_refl _) _
  have b4 : Below w3.heap.size w3 w4 := by rw [e4]; exact (Below.refl _ _).alloc (Nat.le_refl _) _
  have c1 : w1.cell? ⟨w.heap.size, 0, none⟩ = some (.pointer (some ⟨B, 0, none⟩)) := by rw [e1, cell_of_row _ _ _ _ _ _ (heap_alloc_new w _)]; rfl
  have c2 : w2.cell? ⟨w1.heap.size, 0, none⟩ = some (.int .i64 lv) := by rw [e2, cell_of_row _ _ _ _ _ _ (heap_alloc_new w1 _)]; rfl
  have c3 : w3.cell? ⟨w2.heap.size, 0, none⟩ = some (.int .i64 (c : Int)) := by rw [e3, cell_of_row _ _ _ _ _ _ (heap_alloc_new w2 _)]; rfl
  have f3 : w3.frozen? ⟨w2.heap.size, 0, none⟩ = false := by rw [e3]; exact frozen_of_row _ _ _ _ _ (heap_alloc_new w2 _)
  have c4 : w4.cell? ⟨w3.heap.size, 0, none⟩ = some (.int .i64 n) := by rw [e4, cell_of_row _ _ _ _ _ _ (heap_alloc_new w3 _)]; rfl
  have b24 : Below w2.heap.size w2 w4 := b3.trans (b4.mono b3.size)
  have b14 : Below w1.heap.size w1 w4 := b2.trans (b24.mono b2.size)
  have b34 := b4.cell (p := ⟨w2.heap.size, 0, none⟩) (by show w2.heap.size < w3.heap.size; omega)
  have g34 := b4.frozen (p := ⟨w2.heap.size, 0, none⟩) (by show w2.heap.size < w3.heap.size; omega)
  have c1' := (b14.cell (p := ⟨w.heap.size, 0, none⟩) (by show w.heap.size < w1.heap.size; omega)).trans c1
  have c2' := (b24.cell (p := ⟨w1.heap.size, 0, none⟩) (by show w1.heap.size < w2.heap.size; omega)).trans c2
  have c3' := b34.trans c3
  have f3' := g34.trans f3
  rw [s1] at c2'
  rw [s2] at c3' f3'
  rw [s3] at c4
  exact ⟨⟨c1', c2', c3', f3', b1.trans (b14.mono b1.size)⟩, c4, s4⟩
set_option maxRecDepth 100000 in
set_option maxHeartbeats 8000000 in
theorem bcount_any (lv : Int) (h : List TxnV) (B b : Nat) (w : World) (hO : OrdIs w B b h) (hc : checkI h = 0) (ht : Tab w) (hK : Kinds w) :
    Calls Tryz.prog 21 #[.pointer (some ⟨B, 0, none⟩), .int .i64 lv] w fun e w' => e = .returned (.int .i64 (countI h lv)) ∧ Below w.heap.size w w' := by
  have h64 := (check_zero hc).1
  have hg := ht.pos
  have n0 := hO.blk.cN
  have HC := Lib.hid hc
  have HB : Hid (∀ wx, Below w.heap.size w wx → (OrdIs wx B b h ∧ Tab wx ∧ Kinds wx) ∧ wx.cell? ⟨B, 0, none⟩ = w.cell? ⟨B, 0, none⟩) := Lib.hid (fun wx hb => ⟨⟨hO.below hb, ht.below hb hg, hK.below hb⟩, hb.cell (p := ⟨B, 0, none⟩) (block_lt n0)⟩)
  clear hO hc ht hK hg
  have hb1 : Below w.heap.size w ((w.alloc (.cells #[.pointer (some ⟨B, 0, none⟩)] 28)).alloc (.cells #[.int .i64 lv] 40)) := ((Below.refl _ w).alloc (Nat.le_refl _) _).alloc (by simp) _
  have n1 := (HB.out _ hb1).2.trans n0
  by_cases h8 : h.length ≤ 8
  · have HV : Hid ((((ordersN h.length).countP (keptL h lv) : Nat) : Int) = countI h lv) := Lib.hid (by unfold countI; rw [if_pos h8])
    refine (callsIn_wide (n := 3)).1 ?_
    refine callsIn_of_wp_marks Tryz.func21 rfl trivial ?_ rfl
    simp only [Tryz.ntmps21, List.size_toArray, List.length_cons, List.length_nil, Nat.reduceAdd, Nat.reduceSub, Array.replicate_succ, Array.replicate_zero, List.push_toArray, List.append_toArray, List.nil_append, List.cons_append]
    have h8i : ¬ (8 : Int) < (h.length : Int) := by omega
    have hb2 : Below w.heap.size w (((w.alloc (.cells #[.pointer (some ⟨B, 0, none⟩)] 28)).alloc (.cells #[.int .i64 lv] 40)).alloc (.cells #[.int .i64 0] 3)) := hb1.alloc hb1.size _
    have n2 := (HB.out _ hb2).2.trans n0
    have HQ : Hid (CntI w.heap.size B lv 0 w ((((w.alloc (.cells #[.pointer (some ⟨B, 0, none⟩)] 28)).alloc (.cells #[.int .i64 lv] 40)).alloc (.cells #[.int .i64 0] 3)).alloc (.cells #[.int .i64 (h.length : Int)] 3)) ∧ ((((w.alloc (.cells #[.pointer (some ⟨B, 0, none⟩)] 28)).alloc (.cells #[.int .i64 lv] 40)).alloc (.cells #[.int .i64 0] 3)).alloc (.cells #[.int .i64 (h.length : Int)] 3)).cell? ⟨w.heap.size + 3, 0, none⟩ = some (.int .i64 (h.length : Int)) ∧ ((((w.alloc (.cells #[.pointer (some ⟨B, 0, none⟩)] 28)).alloc (.cells #[.int .i64 lv] 40)).alloc (.cells #[.int .i64 0] 3)).alloc (.cells #[.int .i64 (h.length : Int)] 3)).heap.size = w.heap.size + 4) := Lib.hid (four_boxes w _ _ _ _ _ _ _ _)
    have hs3 : (((w.alloc (.cells #[.pointer (some ⟨B, 0, none⟩)] 28)).alloc (.cells #[.int .i64 lv] 40)).alloc (.cells #[.int .i64 0] 3)).heap.size = w.heap.size + 3 := by simp
    have HM := Lib.hid (orders_any (h.length : Int) (((w.alloc (.cells #[.pointer (some ⟨B, 0, none⟩)] 28)).alloc (.cells #[.int .i64 lv] 40)).alloc (.cells #[.int .i64 0] 3)))
    rw [hs3] at HM
    clear hb1 hb2 hs3
    gi_wp2_with (refine ⟨trivial, ?_⟩; gi_at_call 73; refine ((callsIn_wide (n := _)).2 HM.out).mono ?_; rintro e w' ⟨rfl, rfl⟩)
    clear HM n1 n2
    generalize ((((w.alloc (.cells #[.pointer (some ⟨B, 0, none⟩)] 28)).alloc (.cells #[.int .i64 lv] 40)).alloc (.cells #[.int .i64 0] 3)).alloc (.cells #[.int .i64 (h.length : Int)] 3)) = W4 at *
    obtain ⟨q4, c4, s4⟩ := HQ.out
    have hs : w.heap.size + 4 ≤ W4.heap.size := by omega
    refine range_rows (gf := 137) (lb := #[.pointer (some ⟨w.heap.size + 3, 0, none⟩)]) (L := ordersN h.length) rfl (by omega) rfl trivial (fun args w => by kernel_rfl)
      (orders_seq _ h.length (w.heap.size + 3) W4 (by omega) (by omega) c4) (Below.refl _ _) rfl
      (fun pre W => CntI w.heap.size B lv (pre.countP (keptL h lv)) w W) (fun _ _ => False)
      (fun pre A B q hb => q.below hb hs) (fun _ _ _ _ q _ => q) q4
      (fun v => { tmps := #[.pointer (some ⟨B, 0, none⟩), .int .i64 lv, .pointer (some ⟨w.heap.size, 0, none⟩), .pointer (some ⟨w.heap.size + 1, 0, none⟩), .int .i64 0, .pointer (some ⟨w.heap.size + 1 + 1, 0, none⟩), v, undef, undef, .pointer (some ⟨B, 0, none⟩), .pointer (some ⟨B, 0, none⟩), .pointer (some ⟨B, 0, none⟩), .int .i64 (h.length : Int), .bool false, .pointer (some ⟨B, 0, none⟩), .pointer (some ⟨B, 0, none⟩), .pointer (some ⟨B, 0, none⟩), .int .i64 (h.length : Int),
        .func (.func 137) #[] #[.pointer (some ⟨w.heap.size + 3, 0, none⟩)], v, undef, undef, undef, undef, undef, undef, undef, undef, undef, undef, undef], defers := [] }) ?assign ?body ?done ?stop
    case assign =>
      intro l v W K hK
      gi_wp2
      exact hK
    case body =>
      intro l pre v r W q hr hpre hsz
      have hle := pre_len h8 hpre (keptL h lv)
      have HP := Lib.hid (countP_snoc (keptL h lv) pre r)
      have q0 := q.c0
      have q1 := q.c1
      obtain ⟨⟨hO, ht, hK⟩, _⟩ := HB.out W q.bel
      have CI := Lib.hid (bin_kept lv v r h B b W hO HC.out ht hK hr.1 (mem_of_prefix hpre))
      have HQ := Lib.hid q
      generalize hx : pre.countP (keptL h lv) = x at *
      clear q hr hpre hO ht hK hx
      gi_wp2_with fail
      refine ⟨trivial, ?_⟩
      refine (CallsIn.inRound l ((callsIn_wide (n := _)).2 CI.out)).mono ?_
      rintro e w5 ⟨⟨X, _, rfl⟩, hb5⟩
      have z5 := zero_block w5
      have hb6 : Below W.heap.size W ((w5.alloc (.cells #[.int .u64 0, .int .u64 0, .int .u64 0, .int .u64 0, .int .u64 0, .int .u64 0, .int .u64 0, .int .u64 0, .int .u64 0, .int .u64 0, .int .u64 0, .int .u64 0, .int .u64 0, .int .u64 0, .int .u64 0, .int .u64 0, .int .u64 0, .int .u64 0, .int .u64 0, .int .u64 0, .int .u64 0, .int .u64 0, .int .u64 0, .int .u64 0, .int .u64 0, .int .u64 0, .int .u64 0, .int .u64 0, .int .u64 0, .int .u64 0, .int .u64 0, .int .u64 0, .int .u64 0, .int .u64 0, .int .u64 0, .int .u64 0, .int .u64 0, .int .u64 0, .int .u64 0, .int .u64 0, .int .u64 0, .int .u64 0, .int .u64 0, .int .u64 0, .int .u64 0, .int .u64 0, .int .u64 0, .int .u64 0, .int .u64 0, .int .u64 0, .int .u64 0, .int .u64 0, .int .u64 0, .int .u64 0, .int .u64 0, .int .u64 0, .int .u64 0, .int .u64 0, .int .u64 0, .int .u64 0, .int .u64 0, .int .u64 0, .int .u64 0, .int .u64 0] 37)).setRow w5.heap.size (rowsA X)) := below_setRow (below_then hb5 (box_below w5 (.cells #[.int .u64 0, .int .u64 0, .int .u64 0, .int .u64 0, .int .u64 0, .int .u64 0, .int .u64 0, .int .u64 0, .int .u64 0, .int .u64 0, .int .u64 0, .int .u64 0, .int .u64 0, .int .u64 0, .int .u64 0, .int .u64 0, .int .u64 0, .int .u64 0, .int .u64 0, .int .u64 0, .int .u64 0, .int .u64 0, .int .u64 0, .int .u64 0, .int .u64 0, .int .u64 0, .int .u64 0, .int .u64 0, .int .u64 0, .int .u64 0, .int .u64 0, .int .u64 0, .int .u64 0, .int .u64 0, .int .u64 0, .int .u64 0, .int .u64 0, .int .u64 0, .int .u64 0, .int .u64 0, .int .u64 0, .int .u64 0, .int .u64 0, .int .u64 0, .int .u64 0, .int .u64 0, .int .u64 0, .int .u64 0, .int .u64 0, .int .u64 0, .int .u64 0, .int .u64 0, .int .u64 0, .int .u64 0, .int .u64 0, .int .u64 0, .int .u64 0, .int .u64 0, .int .u64 0, .int .u64 0, .int .u64 0, .int .u64 0, .int .u64 0, .int .u64 0] 37))) hb5.size (rowsA X)
      have HQ6 := Lib.hid (HQ.out.below hb6 (Nat.le_trans hs (by omega)))
      have c2 := HQ6.out.c2
      have f2 := HQ6.out.f2
      have HK6 : Hid (KeepsHi W4.heap.size W ((w5.alloc (.cells #[.int .u64 0, .int .u64 0, .int .u64 0, .int .u64 0, .int .u64 0, .int .u64 0, .int .u64 0, .int .u64 0, .int .u64 0, .int .u64 0, .int .u64 0, .int .u64 0, .int .u64 0, .int .u64 0, .int .u64 0, .int .u64 0, .int .u64 0, .int .u64 0, .int .u64 0, .int .u64 0, .int .u64 0, .int .u64 0, .int .u64 0, .int .u64 0, .int .u64 0, .int .u64 0, .int .u64 0, .int .u64 0, .int .u64 0, .int .u64 0, .int .u64 0, .int .u64 0, .int .u64 0, .int .u64 0, .int .u64 0, .int .u64 0, .int .u64 0, .int .u64 0, .int .u64 0, .int .u64 0, .int .u64 0, .int .u64 0, .int .u64 0, .int .u64 0, .int .u64 0, .int .u64 0, .int .u64 0, .int .u64 0, .int .u64 0, .int .u64 0, .int .u64 0, .int .u64 0, .int .u64 0, .int .u64 0, .int .u64 0, .int .u64 0, .int .u64 0, .int .u64 0, .int .u64 0, .int .u64 0, .int .u64 0, .int .u64 0, .int .u64 0, .int .u64 0] 37)).setRow w5.heap.size (rowsA X))) := Lib.hid (KeepsHi.of_below hb6)
      clear hb5 hb6 CI
      cases hk : keptL h lv r with
      | false =>
        rw [hk] at HP
        gi_wp2_with (with_reducible refine wpListIn_store_rel z5 X rfl _ _ rfl rfl rfl ?_)
        exact ⟨HK6.out, by show CntI _ _ _ ((pre ++ [r]).countP (keptL h lv)) _ _; rw [HP.out]; exact HQ6.out⟩
      | true =>
        rw [hk] at HP
        have HS := Lib.hid (HQ6.out.more (x + 1))
        have HT := Lib.hid (KeepsHi.setCell (D := W4.heap.size) ((w5.alloc (.cells #[.int .u64 0, .int .u64 0, .int .u64 0, .int .u64 0, .int .u64 0, .int .u64 0, .int .u64 0, .int .u64 0, .int .u64 0, .int .u64 0, .int .u64 0, .int .u64 0, .int .u64 0, .int .u64 0, .int .u64 0, .int .u64 0, .int .u64 0, .int .u64 0, .int .u64 0, .int .u64 0, .int .u64 0, .int .u64 0, .int .u64 0, .int .u64 0, .int .u64 0, .int .u64 0, .int .u64 0, .int .u64 0, .int .u64 0, .int .u64 0, .int .u64 0, .int .u64 0, .int .u64 0, .int .u64 0, .int .u64 0, .int .u64 0, .int .u64 0, .int .u64 0, .int .u64 0, .int .u64 0, .int .u64 0, .int .u64 0, .int .u64 0, .int .u64 0, .int .u64 0, .int .u64 0, .int .u64 0, .int .u64 0, .int .u64 0, .int .u64 0, .int .u64 0, .int .u64 0, .int .u64 0, .int .u64 0, .int .u64 0, .int .u64 0, .int .u64 0, .int .u64 0, .int .u64 0, .int .u64 0, .int .u64 0, .int .u64 0, .int .u64 0, .int .u64 0] 37)).setRow w5.heap.size (rowsA X)) ⟨w.heap.size + 1 + 1, 0, none⟩ (.int .i64 ((x + 1 : Nat) : Int)) (by show w.heap.size + 1 + 1 < W4.heap.size; omega))
        gi_wp2_with (with_reducible refine wpListIn_store_rel z5 X rfl _ _ rfl rfl rfl ?_)
        exact ⟨HK6.out.trans HT.out, by show CntI _ _ _ ((pre ++ [r]).countP (keptL h lv)) _ _; rw [HP.out]; exact HS.out⟩
    case done =>
      intro W q hK
      have c2 := q.c2
      have HQ := Lib.hid q
      clear q
      gi_wp2
      refine ⟨by simp, .inl ⟨_, _, rfl, run_takeDeferred hK, ?_⟩⟩
      exact ⟨_, results_tmp rfl _ _ _, by rw [← HV.out]; rfl, HQ.out.bel.trans (belowK_b (w := w) (Nat.le_refl _) W W4.heap.size _ _ (by omega) hK rfl rfl)⟩
    case stop => exact fun pre W _ h _ => h.elim
  · have HV : Hid ((-1 : Int) = countI h lv) := Lib.hid (by unfold countI; rw [if_neg h8])
    have h8i : (8 : Int) < (h.length : Int) := by omega
    clear h8
    go_enter Tryz.func21, Tryz.ntmps21
    go_wp2_with fail
    go_ret
    exact ⟨ret_i HV.out, hb1⟩
end Go.Proofs.YtfancjmhdbaoeaaGreatDoor

namespace Go.Proofs.YtfancjmhdbaoeaaGreatDoor
set_option maxRecDepth 100000
open Go.RowKit

theorem takeQ {P : Program} {ops : Array Oper} {Q : Exit → Act → World → Prop} {md : Region.Mode} {S : World → Prop} (d : Option Tmp) {i : Nat} {oi : Oper} {v : Value} {fuel : Nat} {listed : Array Bool} {a : Act} {w : World} (hi : ops[i]? = some oi) (hd : oi.dst = d)
    (hs : Region.noSelect ops = true) (hf : Region.free md ops listed i = true) (hr : (Region.ready md ops listed).contains i = true)
    (hQ : ∀ c a w, Q (.panic c) (a.put oi.dst v) w → Q (.panic c) a w) (hy : YieldsIf P ops S oi v a) (hS : S w)
    (h : wpAnyH P md ops Q S fuel (listed.setIfInBounds i true) (a.put d v) w) : wpAnyH P md ops Q S (fuel + 1) listed a w := by
  subst hd; exact wpAnyH_take hi hs hf hr hQ hy hS h
set_option maxHeartbeats 16000000 in
theorem of_done (va : Value) (h : List TxnV) (w : World) (hT : Txns w va h) (hok : ∀ t ∈ h, t.ok) (hsh : Short h) (hc : checkI h = 0) :
    Calls Tryz.prog 11 #[va] w fun e w' => (∃ B, e = .returned (.tuple #[.pointer (some ⟨B, 0, none⟩), .int .i64 0]) ∧ w.heap.size ≤ B ∧ OrdIs w' B (B + 2) h) ∧ Below w.heap.size w w' := by
  obtain ⟨ao, cap, rfl, hal⟩ := hT.form
  obtain ⟨hlen, hops, hW, hks⟩ := check_zero hc
  have hb0 := box_below w (.cells #[.slice ao h.length cap] 22)
  have CH := Lib.hid (hcheck_any _ h _ (hT.below hb0) hok hsh)
  rw [hc] at CH
  have CW := Lib.hid (fun wx (hx : Below w.heap.size w wx) => hwrites_any _ h wx (hT.below hx) hok hks (by omega) (by omega))
  have HT := Lib.hid (fun wx (hx : Below w.heap.size w wx) => hT.below hx)
  have HOK := Lib.hid hok
  have HKS := Lib.hid hks
  have HW := Lib.hid hW
  have HOPS := Lib.hid hops
  obtain ⟨i1, hi1, hza1, hzb1, hzc1⟩ := info_parts infoLI
  obtain ⟨i2, hi2, hza2, hzb2, hzc2⟩ := info_parts infoLR
  have hA0 : (w.alloc (.cells #[.slice ao h.length cap] 22)).cell? ⟨w.heap.size, 0, none⟩ = some (.slice ao h.length cap) := by rw [cell_of_row _ _ _ _ _ _ (heap_alloc_new w _)]; rfl
  clear hT hok hsh hks hW hc hops
  go_enter Tryz.func11, Tryz.ntmps11
  go_wp2_with fail
  refine (CH.out).mono ?_
  rintro e w1 ⟨rfl, hb1⟩
  have hA1 := (hb1.cell (p := ⟨w.heap.size, 0, none⟩) (block_lt hA0)).trans hA0
  have hb2 := below_then hb0 hb1
  clear CH hb1 hb0 hA0
  go_wp2_with fail
  refine (CW.out _ hb2).mono ?_
  rintro e w2 ⟨hb3, ⟨hno, _⟩ | ⟨_, bm, m, rfl, hbm, hM⟩⟩
  · exact absurd hno (by rw [HW.out]; simp)
  have hA2 := (hb3.cell (p := ⟨w.heap.size, 0, none⟩) (block_lt hA1)).trans hA1
  have hb4 := below_then hb2 hb3
  clear CW hb3 hb2 hA1
  have hlt := block_lt hA2
  simp only at hlt
  have hO3 := (OrdAt.made w2 (h.length : Int) 76 rfl rfl).alloc (.cells #[.pointer (some ⟨w2.heap.size, 0, none⟩)] 28)
  have hb3 := ((Below.refl w2.heap.size w2).alloc (Nat.le_refl _) (.cells ((Tryz.zeroCells76.setIfInBounds 0 (.int .i64 h.length)).setIfInBounds 196 (.bool true)) 76)).alloc (by simp) (.cells #[.pointer (some ⟨w2.heap.size, 0, none⟩)] 28)
  have hA3 := (hb3.cell (p := ⟨w.heap.size, 0, none⟩) hlt).trans hA2
  have hC3 : ((w2.alloc (.cells ((Tryz.zeroCells76.setIfInBounds 0 (.int .i64 h.length)).setIfInBounds 196 (.bool true)) 76)).alloc (.cells #[.pointer (some ⟨w2.heap.size, 0, none⟩)] 28)).cell? ⟨w2.heap.size + 1, 0, none⟩ = some (.pointer (some ⟨w2.heap.size, 0, none⟩)) := by
    rw [cell_of_row _ _ _ _ _ _ (heap_alloc2_new w2 _ _)]; rfl
  have hs3 : w2.heap.size + 2 ≤ ((w2.alloc (.cells ((Tryz.zeroCells76.setIfInBounds 0 (.int .i64 h.length)).setIfInBounds 196 (.bool true)) 76)).alloc (.cells #[.pointer (some ⟨w2.heap.size, 0, none⟩)] 28)).heap.size := by simp
  go_wp2_with fail
  generalize ((w2.alloc (.cells ((Tryz.zeroCells76.setIfInBounds 0 (.int .i64 h.length)).setIfInBounds 196 (.bool true)) 76)).alloc (.cells #[.pointer (some ⟨w2.heap.size, 0, none⟩)] 28)) = w3 at *
  generalize (Tryz.zeroCells76.setIfInBounds 0 (.int .i64 h.length)).setIfInBounds 196 (.bool true) = Z at *
  go_loopw [26] (fun i wr => ∃ (k : Nat) (vk vr : Value) (sd : Bool) (K : List KRow) (R : List RRow), k ≤ h.length ∧ i = .int .i64 k ∧ K.map (·.2) = keysTo h k ∧ R.map (·.2) = readsTo h k ∧ sd = soundTo h k ∧ OrdAt wr w2.heap.size h.length noR noR noR (.map none) vk vr sd ∧
      wr.cell? ⟨w2.heap.size + 1, 0, none⟩ = some (.pointer (some ⟨w2.heap.size, 0, none⟩)) ∧ OfR (w2.heap.size + 2) wr vk vr K R ∧ Below w2.heap.size w2 wr ∧ w2.heap.size + 2 ≤ wr.heap.size) (fun i _ => h.length - (intOf i).toNat)
  case atStart => exact ⟨0, _, _, _, [], [], by omega, rfl, rfl, rfl, rfl, hO3, hC3, OfR.nil _ _, hb3, hs3⟩
  case round =>
    clear hO3 hC3 hb3 hs3 hA3
    obtain ⟨k, vk, vr, sd, K, R, hk, rfl, hK, hR, hsd, hO, hC, hF, hb, hsz⟩ := hrel
    have HK := Lib.hid (And.intro hK (And.intro hR hsd))
    clear hK hR hsd
    by_cases hlk : k < h.length
    · have hki : (k : Int) < (h.length : Int) := by omega
      have hbw := below_then hb4 hb
      obtain ⟨g, o, hao, c0, c1, c2, c3⟩ := (HT.out _ hbw).at hlk
      cases hao
      have hOps := (HT.out _ hbw).ops hlk
      have HOPF := Lib.hid (fun wx (hx : Below w2.heap.size w2 wx) => (HT.out wx (below_then hb4 hx)).ops hlk)
      generalize h[k].s = ts at *
      generalize h[k].b = tb at *
      generalize h[k].c = tc at *
      have HLK : Hid (opsAt h k = h[k].l) := Lib.hid (opsAt_eq hlk)
      have hll : h[k].l.length ≤ 1024 := by
        have h1 := opsN_take h k hlk
        have h2 := opsN_le h (k + 1)
        have h3 := HOPS.out
        omega
      have HOL := Lib.hid (HOK.out _ (List.getElem_mem hlk)).2
      have HKL := Lib.hid (HKS.out _ (List.getElem_mem hlk))
      generalize h[k].v = tv at *
      generalize h[k].l = l at *
      obtain ⟨a2, cap2, rfl, hl2⟩ := hOps.form
      obtain ⟨b0, b1, b2, b3⟩ := txnBlock wr (.int .i64 ts) (.int .i64 tb) (.int .i64 tc) (.slice a2 l.length cap2) 91
      have hbx := (Below.refl wr.heap.size wr).alloc (Nat.le_refl _) (.cells #[.int .i64 ts, .int .i64 tb, .int .i64 tc, .slice a2 l.length cap2] 91)
      have hOps1 := hOps.below hbx
      have hO1 := hO.below hbx hO.lt
      have hC1 := (hbx.cell (p := ⟨w2.heap.size + 1, 0, none⟩) (block_lt hC)).trans hC
      have hF1 := hF.below hbx
      have hb1 := hb.trans (hbx.mono hb.size)
      have hs1 : w2.heap.size + 2 ≤ (wr.alloc (.cells #[.int .i64 ts, .int .i64 tb, .int .i64 tc, .slice a2 l.length cap2] 91)).heap.size := by simp; omega
      have hgx : w2.heap.size + 2 ≤ wr.heap.size := hsz
      have hX1 := heap_alloc_new wr (.cells #[.int .i64 ts, .int .i64 tb, .int .i64 tc, .slice a2 l.length cap2] 91)
      have hX : OfS w2 wr.heap.size ts tb tc (.slice a2 l.length cap2) h.length vk vr sd K R (wr.alloc (.cells #[.int .i64 ts, .int .i64 tb, .int .i64 tc, .slice a2 l.length cap2] 91)) := ⟨hO1, ⟨hC1, b0, b1, b2, b3⟩, hF1, hb1, hs1, ⟨_, hX1⟩, hgx⟩
      have hTf := fun wx (hx : Below w2.heap.size w2 wx) => HT.out wx (below_then hb4 hx)
      go_upto_region 9 with fail
      clear hOps hO hC hF hb hbx hbw hsz c0 c1 c2 c3 hO1 hC1 hF1 hb1 hs1 hX1 b0 b1 b2 b3
      generalize wr.alloc (.cells #[.int .i64 ts, .int .i64 tb, .int .i64 tc, .slice a2 l.length cap2] 91) = w4 at *
      generalize wr.heap.size = gx at *
      clear wr
      have hKl : K.length ≤ 64 := by have := congrArg List.length HK.out.1; simp [keysTo] at this; omega
      have hRl : R.length ≤ 64 := by have := congrArg List.length HK.out.2.1; simp [readsTo] at this; omega
      obtain ⟨aK, cK, rfl⟩ := owns_form hX.r.kr
      obtain ⟨aR, cR, rfl⟩ := owns_form hX.r.rr
      go_cut [41] from 31 to 41 (fun u wx => ∃ (v5 : Value) (vx : Value), u = .pointer (some ⟨w2.heap.size, 194, none⟩) ∧ OfS w2 gx ts tb tc (.slice a2 l.length cap2) h.length v5 (.slice aR R.length cR) sd (K ++ [(vx, keysOf l)]) R wx)
      case first =>
        have kd := (Below.refl w4.heap.size w4).drew
        have CK : Hid (∀ wx, Below w4.heap.size w4 wx → Calls Tryz.prog 46 #[.agg #[.int .i64 ts, .int .i64 tb, .int .i64 tc, .slice a2 l.length cap2]] wx fun e w' => ∃ v, e = .returned v ∧ w'.ownsRow (w2.heap.size + 2) 3 1 v (keysOf l).length ((keysOf l).map (Value.int .i64)) ∧ Below wx.heap.size wx w') := Lib.hid (fun wx hx => (okeys_any ts tb tc _ l wx (hOps1.below hx) HOL.out (by omega)).mono (fun e w' ⟨v, out, he, ho, hr, _, hbb⟩ => by
          obtain rfl := hr.eq (refWrites_rise HKL.out)
          refine ⟨v, he, own_base' ?_ (show w2.heap.size + 2 ≤ wx.heap.size by have h1 := hx.size; have h2 := hX.z; omega), hbb⟩
          unfold keysOf
          rw [List.length_map, List.map_map]
          exact ho))
        have HS : Hid (∀ wx, Below w4.heap.size w4 wx → SB (w2.heap.size + 1) w2.heap.size gx ts tb tc (.slice a2 l.length cap2) wx) := Lib.hid (fun wx hx => hX.s.below hx)
        have hc0 := hX.o.cK
        have HCL : Hid (∀ wx, Below w4.heap.size w4 wx → wx.cell? ⟨w2.heap.size, 194, none⟩ = some (.slice aK K.length cK)) := Lib.hid (fun wx hx => (hx.cell (p := ⟨w2.heap.size, 194, none⟩) (block_lt hc0)).trans hc0)
        have HCA : Hid (∀ wx, Below w4.heap.size w4 wx → ∀ o, (wx.alloc o).cell? ⟨w2.heap.size, 194, none⟩ = some (.slice aK K.length cK)) := Lib.hid (fun wx hx o => HCL.out _ (hx.alloc hx.size o))
        have HRO : Hid (∀ wx, Below w4.heap.size w4 wx → wx.ownsRow (w2.heap.size + 2) 32 1 (.slice aK K.length cK) K.length (K.map (·.1))) := Lib.hid (fun wx hx => owns_below hX.r.kr hx)
        have HSZ : Hid (∀ wx (o : Obj), Below w4.heap.size w4 wx → w2.heap.size + 2 ≤ (wx.alloc o).heap.size) := Lib.hid (fun wx o hx => by have h1 := hx.size; have h2 := hX.z; simp; omega)
        have HFIN := Lib.hid (fun wx w5 v v5 hx => hX.addK (wx := wx) (w5 := w5) (v := v) (v5 := v5) (t := 32) (l := keysOf l) hx)
        have n3 : Hid (K.length + 1 ≤ maxLen) := Lib.hid (by unfold maxLen; omega)
        have n4 : Hid ((K.length + 1) * 24 ≤ 140737488355328) := Lib.hid (by omega)
        refine wp_region_held_drew (S := SB (w2.heap.size + 1) w2.heap.size gx ts tb tc (.slice a2 l.length cap2)) (by kernel_rfl) hX.s.drew (fun hS0 => ?_)
        refine takeQ (some 31) (i := 0) (v := ?v1) rfl rfl (by kernel_rfl) (by kernel_rfl) (by kernel_rfl) (fun _ _ _ h => h) (Or.inl ⟨by rfl, ?h1⟩) hS0 ?r1
        case h1 => (intro w hw; obtain ⟨q0, q1, q2, q3, q4⟩ := hw; go_simp; try (with_reducible rfl))
        try simp only [Act.put, List.setIfInBounds_toArray, List.set_cons_zero, List.set_cons_succ]
        refine takeQ (some 32) (i := 1) (v := ?v2) rfl rfl (by kernel_rfl) (by kernel_rfl) (by kernel_rfl) (fun _ _ _ h => h) (Or.inl ⟨by rfl, ?h2⟩) hS0 ?r2
        case h2 => (intro w hw; obtain ⟨q0, q1, q2, q3, q4⟩ := hw; go_simp; try (with_reducible rfl))
        try simp only [Act.put, List.setIfInBounds_toArray, List.set_cons_zero, List.set_cons_succ]
        refine takeQ (some 36) (i := 5) (v := ?v3) rfl rfl (by kernel_rfl) (by kernel_rfl) (by kernel_rfl) (fun _ _ _ h => h) (Or.inl ⟨by rfl, ?h3⟩) hS0 ?r3
        case h3 => (intro w hw; obtain ⟨q0, q1, q2, q3, q4⟩ := hw; go_simp; try (with_reducible rfl))
        try simp only [Act.put, List.setIfInBounds_toArray, List.set_cons_zero, List.set_cons_succ]
        refine takeQ (some 33) (i := 2) (v := ?v4) rfl rfl (by kernel_rfl) (by kernel_rfl) (by kernel_rfl) (fun _ _ _ h => h) (Or.inl ⟨by rfl, ?h4⟩) hS0 ?r4
        case h4 => (intro w hw; obtain ⟨q0, q1, q2, q3, q4⟩ := hw; go_simp; try (with_reducible rfl))
        try simp only [Act.put, List.setIfInBounds_toArray, List.set_cons_zero, List.set_cons_succ]
        refine takeQ (some 34) (i := 3) (v := ?v5) rfl rfl (by kernel_rfl) (by kernel_rfl) (by kernel_rfl) (fun _ _ _ h => h) (Or.inl ⟨by rfl, ?h5⟩) hS0 ?r5
        case h5 => (intro w hw; obtain ⟨q0, q1, q2, q3, q4⟩ := hw; go_simp; try (with_reducible rfl))
        try simp only [Act.put, List.setIfInBounds_toArray, List.set_cons_zero, List.set_cons_succ]
        refine wpAnyH_ready (rs := [4, 6]) (by kernel_rfl) (by simp) ?_
        refine AllReadyH.cons rfl ?_ (AllReadyH.cons rfl ?_ AllReadyH.nil)
        · intro KK hKK
          go_simp
          refine hKK.out _ _ hS0 (fun _ => ?_)
          clear hKK KK
          refine wpAnyH_ready (rs := [6]) (by kernel_rfl) (by simp) ?_
          refine AllReadyH.cons rfl ?_ AllReadyH.nil
          intro KK hKK
          go_simp
          refine (CK.out _ kd).mono ?_
          rintro e wx ⟨vx, rfl, hox, hbx⟩
          obtain ⟨ax, cx, hvx⟩ := owns_form hox
          subst hvx
          show KK _ _
          have kk := below_then kd hbx
          have hS1 := HS.out _ kk
          have hcw := HCL.out _ kk
          refine hKK.out _ _ hS1 (fun _ => ?_)
          clear hKK KK
          refine wpAnyH_ready (rs := [7]) (by kernel_rfl) (by simp) ?_
          refine AllReadyH.cons rfl ?_ AllReadyH.nil
          intro KK hKK
          go_simp
          have hS2 := hS1.alloc (.cells #[.slice ax (keysOf l).length cx] 32)
          have hcw := HCA.out _ kk (.cells #[.slice ax (keysOf l).length cx] 32)
          refine hKK.out _ _ hS2 (fun _ => ?_)
          clear hKK KK
          refine wpAnyH_ready (rs := [8]) (by kernel_rfl) (by simp) ?_
          refine AllReadyH.cons rfl ?_ AllReadyH.nil
          intro KK hKK
          refine step_app _ rfl (.tmp 35) (.tmp 38) 48 rfl (w2.heap.size + 2) 32 i1 (.slice none 0 0) 1 24 Tryz.underlying48 hi1 hza1 hzb1 hzc1 rfl (by decide) (.slice aK K.length cK) K.length (K.map (·.1)) (by simp [Act.eval]) ((HRO.out _ kk).alloc _) ⟨_, 0, none⟩ 1 1 [.slice ax (keysOf l).length cx] (by rfl) rfl (cell_one_new _ _ _) (by intro u hu; simp at hu; subst hu; rfl) n3.out n4.out (HSZ.out _ _ kk) ?_
          intro v5 w5 hown5 hg5
          obtain ⟨a5, c5, hv5⟩ := owns_form hown5
          subst hv5
          obtain ⟨hfin, hS5, hfz, hcz⟩ := HFIN.out _ _ _ _ kk hox hown5 hg5
          show KK _ _
          refine hKK.out _ _ hS5 (fun _ => ?_)
          clear hKK KK
          refine takeQ (some 40) (i := 9) (v := ?v6) rfl rfl (by kernel_rfl) (by kernel_rfl) (by kernel_rfl) (fun _ _ _ h => h) (Or.inl ⟨by rfl, ?h6⟩) hS5 ?r6
          case h6 => (intro w hw; obtain ⟨q0, q1, q2, q3, q4⟩ := hw; go_simp; try (with_reducible rfl))
          try simp only [Act.put, List.setIfInBounds_toArray]
          refine takeQ (some 41) (i := 10) (v := ?v7) rfl rfl (by kernel_rfl) (by kernel_rfl) (by kernel_rfl) (fun _ _ _ h => h) (Or.inl ⟨by rfl, ?h7⟩) hS5 ?r7
          case h7 => (intro w hw; obtain ⟨q0, q1, q2, q3, q4⟩ := hw; go_simp; try (with_reducible rfl))
          try simp only [Act.put]
          refine wpAnyH_ready (rs := [11]) (by kernel_rfl) (by simp) ?_
          refine AllReadyH.cons rfl ?_ AllReadyH.nil
          intro KK hKK
          go_simp
          refine hKK.out _ _ hfin.s (fun _ => ?_)
          clear hKK KK
          refine wpAnyH_done (by kernel_rfl) ?_ _
          go_wp2_with fail
          go_meet
          exact ⟨_, _, rfl, hfin⟩
        · intro KK hKK
          go_simp
          refine (CK.out _ kd).mono ?_
          rintro e wx ⟨vx, rfl, hox, hbx⟩
          obtain ⟨ax, cx, hvx⟩ := owns_form hox
          subst hvx
          show KK _ _
          have kk := below_then kd hbx
          have hS1 := HS.out _ kk
          have hcw := HCL.out _ kk
          refine hKK.out _ _ hS1 (fun _ => ?_)
          clear hKK KK
          refine wpAnyH_ready (rs := [4, 7]) (by kernel_rfl) (by simp) ?_
          refine AllReadyH.cons rfl ?_ (AllReadyH.cons rfl ?_ AllReadyH.nil)
          · intro KK hKK
            go_simp
            refine hKK.out _ _ hS1 (fun _ => ?_)
            clear hKK KK
            refine wpAnyH_ready (rs := [7]) (by kernel_rfl) (by simp) ?_
            refine AllReadyH.cons rfl ?_ AllReadyH.nil
            intro KK hKK
            go_simp
            have hS2 := hS1.alloc (.cells #[.slice ax (keysOf l).length cx] 32)
            have hcw := HCA.out _ kk (.cells #[.slice ax (keysOf l).length cx] 32)
            refine hKK.out _ _ hS2 (fun _ => ?_)
            clear hKK KK
            refine wpAnyH_ready (rs := [8]) (by kernel_rfl) (by simp) ?_
            refine AllReadyH.cons rfl ?_ AllReadyH.nil
            intro KK hKK
            refine step_app _ rfl (.tmp 35) (.tmp 38) 48 rfl (w2.heap.size + 2) 32 i1 (.slice none 0 0) 1 24 Tryz.underlying48 hi1 hza1 hzb1 hzc1 rfl (by decide) (.slice aK K.length cK) K.length (K.map (·.1)) (by simp [Act.eval]) ((HRO.out _ kk).alloc _) ⟨_, 0, none⟩ 1 1 [.slice ax (keysOf l).length cx] (by rfl) rfl (cell_one_new _ _ _) (by intro u hu; simp at hu; subst hu; rfl) n3.out n4.out (HSZ.out _ _ kk) ?_
            intro v5 w5 hown5 hg5
            obtain ⟨a5, c5, hv5⟩ := owns_form hown5
            subst hv5
            obtain ⟨hfin, hS5, hfz, hcz⟩ := HFIN.out _ _ _ _ kk hox hown5 hg5
            show KK _ _
            refine hKK.out _ _ hS5 (fun _ => ?_)
            clear hKK KK
            refine takeQ (some 40) (i := 9) (v := ?v8) rfl rfl (by kernel_rfl) (by kernel_rfl) (by kernel_rfl) (fun _ _ _ h => h) (Or.inl ⟨by rfl, ?h8⟩) hS5 ?r8
            case h8 => (intro w hw; obtain ⟨q0, q1, q2, q3, q4⟩ := hw; go_simp; try (with_reducible rfl))
            try simp only [Act.put, List.setIfInBounds_toArray]
            refine takeQ (some 41) (i := 10) (v := ?v9) rfl rfl (by kernel_rfl) (by kernel_rfl) (by kernel_rfl) (fun _ _ _ h => h) (Or.inl ⟨by rfl, ?h9⟩) hS5 ?r9
            case h9 => (intro w hw; obtain ⟨q0, q1, q2, q3, q4⟩ := hw; go_simp; try (with_reducible rfl))
            try simp only [Act.put]
            refine wpAnyH_ready (rs := [11]) (by kernel_rfl) (by simp) ?_
            refine AllReadyH.cons rfl ?_ AllReadyH.nil
            intro KK hKK
            go_simp
            refine hKK.out _ _ hfin.s (fun _ => ?_)
            clear hKK KK
            refine wpAnyH_done (by kernel_rfl) ?_ _
            go_wp2_with fail
            go_meet
            exact ⟨_, _, rfl, hfin⟩
          · intro KK hKK
            go_simp
            have hS2 := hS1.alloc (.cells #[.slice ax (keysOf l).length cx] 32)
            have hcw := HCA.out _ kk (.cells #[.slice ax (keysOf l).length cx] 32)
            refine hKK.out _ _ hS2 (fun _ => ?_)
            clear hKK KK
            refine wpAnyH_ready (rs := [4]) (by kernel_rfl) (by simp) ?_
            refine AllReadyH.cons rfl ?_ AllReadyH.nil
            intro KK hKK
            go_simp
            refine hKK.out _ _ hS2 (fun _ => ?_)
            clear hKK KK
            refine wpAnyH_ready (rs := [8]) (by kernel_rfl) (by simp) ?_
            refine AllReadyH.cons rfl ?_ AllReadyH.nil
            intro KK hKK
            refine step_app _ rfl (.tmp 35) (.tmp 38) 48 rfl (w2.heap.size + 2) 32 i1 (.slice none 0 0) 1 24 Tryz.underlying48 hi1 hza1 hzb1 hzc1 rfl (by decide) (.slice aK K.length cK) K.length (K.map (·.1)) (by simp [Act.eval]) ((HRO.out _ kk).alloc _) ⟨_, 0, none⟩ 1 1 [.slice ax (keysOf l).length cx] (by rfl) rfl (cell_one_new _ _ _) (by intro u hu; simp at hu; subst hu; rfl) n3.out n4.out (HSZ.out _ _ kk) ?_
            intro v5 w5 hown5 hg5
            obtain ⟨a5, c5, hv5⟩ := owns_form hown5
            subst hv5
            obtain ⟨hfin, hS5, hfz, hcz⟩ := HFIN.out _ _ _ _ kk hox hown5 hg5
            show KK _ _
            refine hKK.out _ _ hS5 (fun _ => ?_)
            clear hKK KK
            refine takeQ (some 40) (i := 9) (v := ?v10) rfl rfl (by kernel_rfl) (by kernel_rfl) (by kernel_rfl) (fun _ _ _ h => h) (Or.inl ⟨by rfl, ?h10⟩) hS5 ?r10
            case h10 => (intro w hw; obtain ⟨q0, q1, q2, q3, q4⟩ := hw; go_simp; try (with_reducible rfl))
            try simp only [Act.put, List.setIfInBounds_toArray]
            refine takeQ (some 41) (i := 10) (v := ?v11) rfl rfl (by kernel_rfl) (by kernel_rfl) (by kernel_rfl) (fun _ _ _ h => h) (Or.inl ⟨by rfl, ?h11⟩) hS5 ?r11
            case h11 => (intro w hw; obtain ⟨q0, q1, q2, q3, q4⟩ := hw; go_simp; try (with_reducible rfl))
            try simp only [Act.put]
            refine wpAnyH_ready (rs := [11]) (by kernel_rfl) (by simp) ?_
            refine AllReadyH.cons rfl ?_ AllReadyH.nil
            intro KK hKK
            go_simp
            refine hKK.out _ _ hfin.s (fun _ => ?_)
            clear hKK KK
            refine wpAnyH_done (by kernel_rfl) ?_ _
            go_wp2_with fail
            go_meet
            exact ⟨_, _, rfl, hfin⟩
      case rest =>
        obtain ⟨vk5, vx, rfl, hX5⟩ := hcut
        clear hX hOps1
        have hX := hX5
        clear hX5
        have HRD : Hid (∃ rd, rd = rdFr (wrTo h h.length) (k : Int) (refReads l)) := Lib.hid ⟨_, rfl⟩
        obtain ⟨rd, hrd⟩ := HRD.out
        have HRD2 := Lib.hid hrd
        clear hrd HRD
        go_upto_region 10 with fail
        go_cut [54] from 42 to 54 (fun u wx => ∃ (v5 : Value) (vy : Value), u = .pointer (some ⟨w2.heap.size, 195, none⟩) ∧ OfS w2 gx ts tb tc (.slice a2 l.length cap2) h.length vk5 v5 sd (K ++ [(vx, keysOf l)]) (R ++ [(vy, rd)]) wx)
        case first =>
          have hOps1 := HOPF.out wc hX.b
          have hMc := hM.below hX.b
          have kd := (Below.refl wc.heap.size wc).drew
          have CK : Hid (∀ wx, Below wc.heap.size wc wx → Calls Tryz.prog 47 #[.int .i64 k, .agg #[.int .i64 ts, .int .i64 tb, .int .i64 tc, .slice a2 l.length cap2], .map (some bm)] wx fun e w' => ∃ v, e = .returned v ∧ w'.ownsRow (w2.heap.size + 2) 106 2 v rd.length (frV rd) ∧ Below wx.heap.size wx w') := Lib.hid (fun wx hx => (oreads_any (k : Int) ts tb tc _ l (wrTo h h.length) bm _ _ wx (hOps1.below hx) HOL.out (by omega) (hMc.below hx)).mono (fun e w' ⟨v, out, he, ho, hr, _, hbb⟩ => by
            obtain rfl := hr.eq (refReads_rise HKL.out)
            rw [← HRD2.out] at ho
            exact ⟨v, he, own_base' ho (show w2.heap.size + 2 ≤ wx.heap.size by have h1 := hx.size; have h2 := hX.z; omega), hbb⟩))
          have HS : Hid (∀ wx, Below wc.heap.size wc wx → SB (w2.heap.size + 1) w2.heap.size gx ts tb tc (.slice a2 l.length cap2) wx) := Lib.hid (fun wx hx => hX.s.below hx)
          have hc0 := hX.o.cR
          have HCL : Hid (∀ wx, Below wc.heap.size wc wx → wx.cell? ⟨w2.heap.size, 195, none⟩ = some (.slice aR R.length cR)) := Lib.hid (fun wx hx => (hx.cell (p := ⟨w2.heap.size, 195, none⟩) (block_lt hc0)).trans hc0)
          have HCA : Hid (∀ wx, Below wc.heap.size wc wx → ∀ o, (wx.alloc o).cell? ⟨w2.heap.size, 195, none⟩ = some (.slice aR R.length cR)) := Lib.hid (fun wx hx o => HCL.out _ (hx.alloc hx.size o))
          have HRO : Hid (∀ wx, Below wc.heap.size wc wx → wx.ownsRow (w2.heap.size + 2) 98 1 (.slice aR R.length cR) R.length (R.map (·.1))) := Lib.hid (fun wx hx => owns_below hX.r.rr hx)
          have HSZ : Hid (∀ wx (o : Obj), Below wc.heap.size wc wx → w2.heap.size + 2 ≤ (wx.alloc o).heap.size) := Lib.hid (fun wx o hx => by have h1 := hx.size; have h2 := hX.z; simp; omega)
          have HFIN := Lib.hid (fun wx w5 v v5 hx => hX.addR (wx := wx) (w5 := w5) (v := v) (v5 := v5) (t := 98) (l := rd) hx)
          have n3 : Hid (R.length + 1 ≤ maxLen) := Lib.hid (by unfold maxLen; omega)
          have n4 : Hid ((R.length + 1) * 24 ≤ 140737488355328) := Lib.hid (by omega)
          refine wp_region_held_drew (S := SB (w2.heap.size + 1) w2.heap.size gx ts tb tc (.slice a2 l.length cap2)) (by kernel_rfl) hX.s.drew (fun hS0 => ?_)
          refine takeQ (some 42) (i := 0) (v := ?v101) rfl rfl (by kernel_rfl) (by kernel_rfl) (by kernel_rfl) (fun _ _ _ h => h) (Or.inl ⟨by rfl, ?h101⟩) hS0 ?r101
          case h101 => (intro w hw; obtain ⟨q0, q1, q2, q3, q4⟩ := hw; go_simp; try (with_reducible rfl))
          try simp only [Act.put, List.setIfInBounds_toArray, List.set_cons_zero, List.set_cons_succ]
          refine takeQ (some 43) (i := 1) (v := ?v102) rfl rfl (by kernel_rfl) (by kernel_rfl) (by kernel_rfl) (fun _ _ _ h => h) (Or.inl ⟨by rfl, ?h102⟩) hS0 ?r102
          case h102 => (intro w hw; obtain ⟨q0, q1, q2, q3, q4⟩ := hw; go_simp; try (with_reducible rfl))
          try simp only [Act.put, List.setIfInBounds_toArray, List.set_cons_zero, List.set_cons_succ]
          refine takeQ (some 47) (i := 5) (v := ?v103) rfl rfl (by kernel_rfl) (by kernel_rfl) (by kernel_rfl) (fun _ _ _ h => h) (Or.inl ⟨by rfl, ?h103⟩) hS0 ?r103
          case h103 => (intro w hw; obtain ⟨q0, q1, q2, q3, q4⟩ := hw; go_simp; try (with_reducible rfl))
          try simp only [Act.put, List.setIfInBounds_toArray, List.set_cons_zero, List.set_cons_succ]
          refine takeQ (some 48) (i := 6) (v := ?v104) rfl rfl (by kernel_rfl) (by kernel_rfl) (by kernel_rfl) (fun _ _ _ h => h) (Or.inl ⟨by rfl, ?h104⟩) hS0 ?r104
          case h104 => (intro w hw; obtain ⟨q0, q1, q2, q3, q4⟩ := hw; go_simp; try (with_reducible rfl))
          try simp only [Act.put, List.setIfInBounds_toArray, List.set_cons_zero, List.set_cons_succ]
          refine takeQ (some 49) (i := 7) (v := ?v105) rfl rfl (by kernel_rfl) (by kernel_rfl) (by kernel_rfl) (fun _ _ _ h => h) (Or.inl ⟨by rfl, ?h105⟩) hS0 ?r105
          case h105 => (intro w hw; obtain ⟨q0, q1, q2, q3, q4⟩ := hw; go_simp; try (with_reducible rfl))
          try simp only [Act.put, List.setIfInBounds_toArray, List.set_cons_zero, List.set_cons_succ]
          refine takeQ (some 44) (i := 2) (v := ?v106) rfl rfl (by kernel_rfl) (by kernel_rfl) (by kernel_rfl) (fun _ _ _ h => h) (Or.inl ⟨by rfl, ?h106⟩) hS0 ?r106
          case h106 => (intro w hw; obtain ⟨q0, q1, q2, q3, q4⟩ := hw; go_simp; try (with_reducible rfl))
          try simp only [Act.put, List.setIfInBounds_toArray, List.set_cons_zero, List.set_cons_succ]
          refine takeQ (some 45) (i := 3) (v := ?v107) rfl rfl (by kernel_rfl) (by kernel_rfl) (by kernel_rfl) (fun _ _ _ h => h) (Or.inl ⟨by rfl, ?h107⟩) hS0 ?r107
          case h107 => (intro w hw; obtain ⟨q0, q1, q2, q3, q4⟩ := hw; go_simp; try (with_reducible rfl))
          try simp only [Act.put, List.setIfInBounds_toArray, List.set_cons_zero, List.set_cons_succ]
          refine wpAnyH_ready (rs := [4, 8]) (by kernel_rfl) (by simp) ?_
          refine AllReadyH.cons rfl ?_ (AllReadyH.cons rfl ?_ AllReadyH.nil)
          · intro KK hKK
            go_simp
            refine hKK.out _ _ hS0 (fun _ => ?_)
            clear hKK KK
            refine wpAnyH_ready (rs := [8]) (by kernel_rfl) (by simp) ?_
            refine AllReadyH.cons rfl ?_ AllReadyH.nil
            intro KK hKK
            go_simp
            refine (CK.out _ kd).mono ?_
            rintro e wx ⟨vx, rfl, hox, hbx⟩
            obtain ⟨ax, cx, hvx⟩ := owns_form hox
            subst hvx
            show KK _ _
            have kk := below_then kd hbx
            have hS1 := HS.out _ kk
            have hcw := HCL.out _ kk
            refine hKK.out _ _ hS1 (fun _ => ?_)
            clear hKK KK
            refine wpAnyH_ready (rs := [9]) (by kernel_rfl) (by simp) ?_
            refine AllReadyH.cons rfl ?_ AllReadyH.nil
            intro KK hKK
            go_simp
            have hS2 := hS1.alloc (.cells #[.slice ax rd.length cx] 98)
            have hcw := HCA.out _ kk (.cells #[.slice ax rd.length cx] 98)
            refine hKK.out _ _ hS2 (fun _ => ?_)
            clear hKK KK
            refine wpAnyH_ready (rs := [10]) (by kernel_rfl) (by simp) ?_
            refine AllReadyH.cons rfl ?_ AllReadyH.nil
            intro KK hKK
            refine step_app _ rfl (.tmp 46) (.tmp 51) 74 rfl (w2.heap.size + 2) 98 i2 (.slice none 0 0) 1 24 Tryz.underlying74 hi2 hza2 hzb2 hzc2 rfl (by decide) (.slice aR R.length cR) R.length (R.map (·.1)) (by simp [Act.eval]) ((HRO.out _ kk).alloc _) ⟨_, 0, none⟩ 1 1 [.slice ax rd.length cx] (by rfl) rfl (cell_one_new _ _ _) (by intro u hu; simp at hu; subst hu; rfl) n3.out n4.out (HSZ.out _ _ kk) ?_
            intro v5 w5 hown5 hg5
            obtain ⟨a5, c5, hv5⟩ := owns_form hown5
            subst hv5
            obtain ⟨hfin, hS5, hfz, hcz⟩ := HFIN.out _ _ _ _ kk hox hown5 hg5
            show KK _ _
            refine hKK.out _ _ hS5 (fun _ => ?_)
            clear hKK KK
            refine takeQ (some 53) (i := 11) (v := ?v108) rfl rfl (by kernel_rfl) (by kernel_rfl) (by kernel_rfl) (fun _ _ _ h => h) (Or.inl ⟨by rfl, ?h108⟩) hS5 ?r108
            case h108 => (intro w hw; obtain ⟨q0, q1, q2, q3, q4⟩ := hw; go_simp; try (with_reducible rfl))
            try simp only [Act.put, List.setIfInBounds_toArray]
            refine takeQ (some 54) (i := 12) (v := ?v109) rfl rfl (by kernel_rfl) (by kernel_rfl) (by kernel_rfl) (fun _ _ _ h => h) (Or.inl ⟨by rfl, ?h109⟩) hS5 ?r109
            case h109 => (intro w hw; obtain ⟨q0, q1, q2, q3, q4⟩ := hw; go_simp; try (with_reducible rfl))
            try simp only [Act.put]
            refine wpAnyH_ready (rs := [13]) (by kernel_rfl) (by simp) ?_
            refine AllReadyH.cons rfl ?_ AllReadyH.nil
            intro KK hKK
            go_simp
            refine hKK.out _ _ hfin.s (fun _ => ?_)
            clear hKK KK
            refine wpAnyH_done (by kernel_rfl) ?_ _
            go_wp2_with fail
            go_meet
            exact ⟨_, _, rfl, hfin⟩
          · intro KK hKK
            go_simp
            refine (CK.out _ kd).mono ?_
            rintro e wx ⟨vx, rfl, hox, hbx⟩
            obtain ⟨ax, cx, hvx⟩ := owns_form hox
            subst hvx
            show KK _ _
            have kk := below_then kd hbx
            have hS1 := HS.out _ kk
            have hcw := HCL.out _ kk
            refine hKK.out _ _ hS1 (fun _ => ?_)
            clear hKK KK
            refine wpAnyH_ready (rs := [4, 9]) (by kernel_rfl) (by simp) ?_
            refine AllReadyH.cons rfl ?_ (AllReadyH.cons rfl ?_ AllReadyH.nil)
            · intro KK hKK
              go_simp
              refine hKK.out _ _ hS1 (fun _ => ?_)
              clear hKK KK
              refine wpAnyH_ready (rs := [9]) (by kernel_rfl) (by simp) ?_
              refine AllReadyH.cons rfl ?_ AllReadyH.nil
              intro KK hKK
              go_simp
              have hS2 := hS1.alloc (.cells #[.slice ax rd.length cx] 98)
              have hcw := HCA.out _ kk (.cells #[.slice ax rd.length cx] 98)
              refine hKK.out _ _ hS2 (fun _ => ?_)
              clear hKK KK
              refine wpAnyH_ready (rs := [10]) (by kernel_rfl) (by simp) ?_
              refine AllReadyH.cons rfl ?_ AllReadyH.nil
              intro KK hKK
              refine step_app _ rfl (.tmp 46) (.tmp 51) 74 rfl (w2.heap.size + 2) 98 i2 (.slice none 0 0) 1 24 Tryz.underlying74 hi2 hza2 hzb2 hzc2 rfl (by decide) (.slice aR R.length cR) R.length (R.map (·.1)) (by simp [Act.eval]) ((HRO.out _ kk).alloc _) ⟨_, 0, none⟩ 1 1 [.slice ax rd.length cx] (by rfl) rfl (cell_one_new _ _ _) (by intro u hu; simp at hu; subst hu; rfl) n3.out n4.out (HSZ.out _ _ kk) ?_
              intro v5 w5 hown5 hg5
              obtain ⟨a5, c5, hv5⟩ := owns_form hown5
              subst hv5
              obtain ⟨hfin, hS5, hfz, hcz⟩ := HFIN.out _ _ _ _ kk hox hown5 hg5
              show KK _ _
              refine hKK.out _ _ hS5 (fun _ => ?_)
              clear hKK KK
              refine takeQ (some 53) (i := 11) (v := ?v110) rfl rfl (by kernel_rfl) (by kernel_rfl) (by kernel_rfl) (fun _ _ _ h => h) (Or.inl ⟨by rfl, ?h110⟩) hS5 ?r110
              case h110 => (intro w hw; obtain ⟨q0, q1, q2, q3, q4⟩ := hw; go_simp; try (with_reducible rfl))
              try simp only [Act.put, List.setIfInBounds_toArray]
              refine takeQ (some 54) (i := 12) (v := ?v111) rfl rfl (by kernel_rfl) (by kernel_rfl) (by kernel_rfl) (fun _ _ _ h => h) (Or.inl ⟨by rfl, ?h111⟩) hS5 ?r111
              case h111 => (intro w hw; obtain ⟨q0, q1, q2, q3, q4⟩ := hw; go_simp; try (with_reducible rfl))
              try simp only [Act.put]
              refine wpAnyH_ready (rs := [13]) (by kernel_rfl) (by simp) ?_
              refine AllReadyH.cons rfl ?_ AllReadyH.nil
              intro KK hKK
              go_simp
              refine hKK.out _ _ hfin.s (fun _ => ?_)
              clear hKK KK
              refine wpAnyH_done (by kernel_rfl) ?_ _
              go_wp2_with fail
              go_meet
              exact ⟨_, _, rfl, hfin⟩
            · intro KK hKK
              go_simp
              have hS2 := hS1.alloc (.cells #[.slice ax rd.length cx] 98)
              have hcw := HCA.out _ kk (.cells #[.slice ax rd.length cx] 98)
              refine hKK.out _ _ hS2 (fun _ => ?_)
              clear hKK KK
              refine wpAnyH_ready (rs := [4]) (by kernel_rfl) (by simp) ?_
              refine AllReadyH.cons rfl ?_ AllReadyH.nil
              intro KK hKK
              go_simp
              refine hKK.out _ _ hS2 (fun _ => ?_)
              clear hKK KK
              refine wpAnyH_ready (rs := [10]) (by kernel_rfl) (by simp) ?_
              refine AllReadyH.cons rfl ?_ AllReadyH.nil
              intro KK hKK
              refine step_app _ rfl (.tmp 46) (.tmp 51) 74 rfl (w2.heap.size + 2) 98 i2 (.slice none 0 0) 1 24 Tryz.underlying74 hi2 hza2 hzb2 hzc2 rfl (by decide) (.slice aR R.length cR) R.length (R.map (·.1)) (by simp [Act.eval]) ((HRO.out _ kk).alloc _) ⟨_, 0, none⟩ 1 1 [.slice ax rd.length cx] (by rfl) rfl (cell_one_new _ _ _) (by intro u hu; simp at hu; subst hu; rfl) n3.out n4.out (HSZ.out _ _ kk) ?_
              intro v5 w5 hown5 hg5
              obtain ⟨a5, c5, hv5⟩ := owns_form hown5
              subst hv5
              obtain ⟨hfin, hS5, hfz, hcz⟩ := HFIN.out _ _ _ _ kk hox hown5 hg5
              show KK _ _
              refine hKK.out _ _ hS5 (fun _ => ?_)
              clear hKK KK
              refine takeQ (some 53) (i := 11) (v := ?v112) rfl rfl (by kernel_rfl) (by kernel_rfl) (by kernel_rfl) (fun _ _ _ h => h) (Or.inl ⟨by rfl, ?h112⟩) hS5 ?r112
              case h112 => (intro w hw; obtain ⟨q0, q1, q2, q3, q4⟩ := hw; go_simp; try (with_reducible rfl))
              try simp only [Act.put, List.setIfInBounds_toArray]
              refine takeQ (some 54) (i := 12) (v := ?v113) rfl rfl (by kernel_rfl) (by kernel_rfl) (by kernel_rfl) (fun _ _ _ h => h) (Or.inl ⟨by rfl, ?h113⟩) hS5 ?r113
              case h113 => (intro w hw; obtain ⟨q0, q1, q2, q3, q4⟩ := hw; go_simp; try (with_reducible rfl))
              try simp only [Act.put]
              refine wpAnyH_ready (rs := [13]) (by kernel_rfl) (by simp) ?_
              refine AllReadyH.cons rfl ?_ AllReadyH.nil
              intro KK hKK
              go_simp
              refine hKK.out _ _ hfin.s (fun _ => ?_)
              clear hKK KK
              refine wpAnyH_done (by kernel_rfl) ?_ _
              go_wp2_with fail
              go_meet
              exact ⟨_, _, rfl, hfin⟩
        case rest =>
          obtain ⟨vr5, vy, rfl, hX5⟩ := hcut
          clear hX
          have hX := hX5
          clear hX5
          have hOps1 := HOPF.out wc hX.b
          have hMc := hM.below hX.b
          have kd := (Below.refl wc.heap.size wc).drew
          have HSO : Hid (∃ so, so = (!(refReads l).any (badFr (wrTo h h.length) (k : Int)) && steadyL l)) := Lib.hid ⟨_, rfl⟩
          obtain ⟨so, hso⟩ := HSO.out
          have HSO2 := Lib.hid hso
          clear hso HSO
          have CK : Hid (∀ wx, Below wc.heap.size wc wx → Calls Tryz.prog 48 #[.int .i64 k, .agg #[.int .i64 ts, .int .i64 tb, .int .i64 tc, .slice a2 l.length cap2], .map (some bm)] wx fun e w' => e = .returned (.bool so) ∧ Below wx.heap.size wx w') := Lib.hid (fun wx hx => (osound_any (k : Int) ts tb tc _ l (wrTo h h.length) bm _ _ wx (hOps1.below hx) HOL.out (by omega) (hMc.below hx)).mono (fun e w' ⟨out, he, hr, _, hbb⟩ => by
            obtain rfl := hr.eq (refReads_rise HKL.out)
            rw [← HSO2.out] at he
            exact ⟨he, hbb⟩))
          have HK0 : Hid ((K ++ [(vx, keysOf l)]).map (·.2) = keysTo h (k + 1) ∧ (R ++ [(vy, rd)]).map (·.2) = readsTo h (k + 1) ∧ (sd && so) = soundTo h (k + 1)) := Lib.hid (by
            refine ⟨?_, ?_, ?_⟩
            · rw [List.map_append, keysTo_succ, ← HK.out.1, HLK.out]; rfl
            · rw [List.map_append, readsTo_succ, ← HK.out.2.1]
              unfold readsOf
              rw [HLK.out, ← HRD2.out]; rfl
            · rw [soundTo_succ, ← HK.out.2.2]
              unfold soundOf
              rw [HLK.out, ← HSO2.out])
          go_upto_region 11 with fail
          cases sd
          · have HK1 : Hid ((K ++ [(vx, keysOf l)]).map (·.2) = keysTo h (k + 1) ∧ (R ++ [(vy, rd)]).map (·.2) = readsTo h (k + 1) ∧ false = soundTo h (k + 1)) := Lib.hid HK0.out
            clear HK0
            refine wp_region_held_drew (S := SB (w2.heap.size + 1) w2.heap.size gx ts tb tc (.slice a2 l.length cap2)) (by kernel_rfl) hX.s.drew (fun hS0 => ?_)
            have hc0 := hX.o.cS
            refine takeQ (some 55) (i := 0) (v := ?v201) rfl rfl (by kernel_rfl) (by kernel_rfl) (by kernel_rfl) (fun _ _ _ h => h) (Or.inl ⟨by rfl, ?h201⟩) hS0 ?r201
            case h201 => (intro w hw; obtain ⟨q0, q1, q2, q3, q4⟩ := hw; go_simp; try (with_reducible rfl))
            try simp only [Act.put, List.setIfInBounds_toArray, List.set_cons_zero, List.set_cons_succ]
            refine takeQ (some 56) (i := 1) (v := ?v202) rfl rfl (by kernel_rfl) (by kernel_rfl) (by kernel_rfl) (fun _ _ _ h => h) (Or.inl ⟨by rfl, ?h202⟩) hS0 ?r202
            case h202 => (intro w hw; obtain ⟨q0, q1, q2, q3, q4⟩ := hw; go_simp; try (with_reducible rfl))
            try simp only [Act.put, List.setIfInBounds_toArray, List.set_cons_zero, List.set_cons_succ]
            refine takeQ (some 57) (i := 2) (v := ?v203) rfl rfl (by kernel_rfl) (by kernel_rfl) (by kernel_rfl) (fun _ _ _ h => h) (Or.inl ⟨by rfl, ?h203⟩) hS0 ?r203
            case h203 => (intro w hw; obtain ⟨q0, q1, q2, q3, q4⟩ := hw; go_simp; try (with_reducible rfl))
            try simp only [Act.put, List.setIfInBounds_toArray, List.set_cons_zero, List.set_cons_succ]
            refine takeQ (some 58) (i := 3) (v := ?v204) rfl rfl (by kernel_rfl) (by kernel_rfl) (by kernel_rfl) (fun _ _ _ h => h) (Or.inl ⟨by rfl, ?h204⟩) hS0 ?r204
            case h204 => (intro w hw; obtain ⟨q0, q1, q2, q3, q4⟩ := hw; go_simp; try (with_reducible rfl))
            try simp only [Act.put, List.setIfInBounds_toArray, List.set_cons_zero, List.set_cons_succ]
            refine wpAnyH_ready (rs := [4]) (by kernel_rfl) (by simp) ?_
            refine AllReadyH.cons rfl ?_ AllReadyH.nil
            intro KK hKK
            go_simp
            refine hKK.out _ _ hS0 (fun _ => ?_)
            clear hKK KK
            refine takeQ (some 60) (i := 5) (v := ?v205) rfl rfl (by kernel_rfl) (by kernel_rfl) (by kernel_rfl) (fun _ _ _ h => h) (Or.inl ⟨by rfl, ?h205⟩) hS0 ?r205
            case h205 => (intro w hw; obtain ⟨q0, q1, q2, q3, q4⟩ := hw; go_simp; try (with_reducible rfl))
            try simp only [Act.put, List.setIfInBounds_toArray, List.set_cons_zero, List.set_cons_succ]
            refine takeQ (some 61) (i := 6) (v := undef) rfl rfl (by kernel_rfl) (by kernel_rfl) (by kernel_rfl) (fun _ _ _ h => h) (Or.inr ⟨by rfl, rfl⟩) hS0 ?_
            try simp only [Act.put, List.setIfInBounds_toArray, List.set_cons_zero, List.set_cons_succ]
            refine takeQ (some 62) (i := 7) (v := undef) rfl rfl (by kernel_rfl) (by kernel_rfl) (by kernel_rfl) (fun _ _ _ h => h) (Or.inr ⟨by rfl, rfl⟩) hS0 ?_
            try simp only [Act.put, List.setIfInBounds_toArray, List.set_cons_zero, List.set_cons_succ]
            refine takeQ (some 63) (i := 8) (v := undef) rfl rfl (by kernel_rfl) (by kernel_rfl) (by kernel_rfl) (fun _ _ _ h => h) (Or.inr ⟨by rfl, rfl⟩) hS0 ?_
            try simp only [Act.put, List.setIfInBounds_toArray, List.set_cons_zero, List.set_cons_succ]
            refine wpAnyH_ready (rs := [9]) (by kernel_rfl) (by simp) ?_
            refine AllReadyH.cons rfl ?_ AllReadyH.nil
            intro KK hKK
            go_simp
            have hY := hX.below kd
            have hf := hY.o.free (i := 196) (by omega)
            have hc := hY.o.cS
            refine hKK.out _ _ hS0 (fun _ => ?_)
            clear hKK KK
            refine takeQ (some 65) (i := 10) (v := ?v206) rfl rfl (by kernel_rfl) (by kernel_rfl) (by kernel_rfl) (fun _ _ _ h => h) (Or.inl ⟨by rfl, ?h206⟩) hS0 ?r206
            case h206 => (intro w hw; obtain ⟨q0, q1, q2, q3, q4⟩ := hw; go_simp; try (with_reducible rfl))
            try simp only [Act.put, List.setIfInBounds_toArray, List.set_cons_zero, List.set_cons_succ]
            refine takeQ (some 66) (i := 11) (v := ?v207) rfl rfl (by kernel_rfl) (by kernel_rfl) (by kernel_rfl) (fun _ _ _ h => h) (Or.inl ⟨by rfl, ?h207⟩) hS0 ?r207
            case h207 => (intro w hw; obtain ⟨q0, q1, q2, q3, q4⟩ := hw; go_simp; try (with_reducible rfl))
            try simp only [Act.put, List.setIfInBounds_toArray, List.set_cons_zero, List.set_cons_succ]
            refine takeQ (some 67) (i := 12) (v := ?v208) rfl rfl (by kernel_rfl) (by kernel_rfl) (by kernel_rfl) (fun _ _ _ h => h) (Or.inl ⟨by rfl, ?h208⟩) hS0 ?r208
            case h208 => (intro w hw; obtain ⟨q0, q1, q2, q3, q4⟩ := hw; go_simp; try (with_reducible rfl))
            try simp only [Act.put, List.setIfInBounds_toArray, List.set_cons_zero, List.set_cons_succ]
            refine wpAnyH_ready (rs := [13]) (by kernel_rfl) (by simp) ?_
            refine AllReadyH.cons rfl ?_ AllReadyH.nil
            intro KK hKK
            go_simp
            have hZ := hY.setS false
            refine hKK.out _ _ hZ.s (fun _ => ?_)
            clear hKK KK
            refine wpAnyH_done (by kernel_rfl) ?_ _
            clear hX hY CK kd hc hf hS0
            go_wp2_with fail
            go_roundw
            case rel => exact ⟨k + 1, _, _, _, _, _, by omega, by go_num, HK1.out.1, HK1.out.2.1, HK1.out.2.2, hZ.o, hZ.s.1, hZ.r, hZ.b, hZ.z⟩
            case measure => simp [intOf]; omega
          · have HK1 : Hid ((K ++ [(vx, keysOf l)]).map (·.2) = keysTo h (k + 1) ∧ (R ++ [(vy, rd)]).map (·.2) = readsTo h (k + 1) ∧ so = soundTo h (k + 1)) := Lib.hid HK0.out
            clear HK0
            refine wp_region_held_drew (S := SB (w2.heap.size + 1) w2.heap.size gx ts tb tc (.slice a2 l.length cap2)) (by kernel_rfl) hX.s.drew (fun hS0 => ?_)
            have hc0 := hX.o.cS
            refine takeQ (some 55) (i := 0) (v := ?v301) rfl rfl (by kernel_rfl) (by kernel_rfl) (by kernel_rfl) (fun _ _ _ h => h) (Or.inl ⟨by rfl, ?h301⟩) hS0 ?r301
            case h301 => (intro w hw; obtain ⟨q0, q1, q2, q3, q4⟩ := hw; go_simp; try (with_reducible rfl))
            try simp only [Act.put, List.setIfInBounds_toArray, List.set_cons_zero, List.set_cons_succ]
            refine takeQ (some 56) (i := 1) (v := ?v302) rfl rfl (by kernel_rfl) (by kernel_rfl) (by kernel_rfl) (fun _ _ _ h => h) (Or.inl ⟨by rfl, ?h302⟩) hS0 ?r302
            case h302 => (intro w hw; obtain ⟨q0, q1, q2, q3, q4⟩ := hw; go_simp; try (with_reducible rfl))
            try simp only [Act.put, List.setIfInBounds_toArray, List.set_cons_zero, List.set_cons_succ]
            refine takeQ (some 57) (i := 2) (v := ?v303) rfl rfl (by kernel_rfl) (by kernel_rfl) (by kernel_rfl) (fun _ _ _ h => h) (Or.inl ⟨by rfl, ?h303⟩) hS0 ?r303
            case h303 => (intro w hw; obtain ⟨q0, q1, q2, q3, q4⟩ := hw; go_simp; try (with_reducible rfl))
            try simp only [Act.put, List.setIfInBounds_toArray, List.set_cons_zero, List.set_cons_succ]
            refine takeQ (some 58) (i := 3) (v := ?v304) rfl rfl (by kernel_rfl) (by kernel_rfl) (by kernel_rfl) (fun _ _ _ h => h) (Or.inl ⟨by rfl, ?h304⟩) hS0 ?r304
            case h304 => (intro w hw; obtain ⟨q0, q1, q2, q3, q4⟩ := hw; go_simp; try (with_reducible rfl))
            try simp only [Act.put, List.setIfInBounds_toArray, List.set_cons_zero, List.set_cons_succ]
            refine wpAnyH_ready (rs := [4]) (by kernel_rfl) (by simp) ?_
            refine AllReadyH.cons rfl ?_ AllReadyH.nil
            intro KK hKK
            go_simp
            refine hKK.out _ _ hS0 (fun _ => ?_)
            clear hKK KK
            refine takeQ (some 60) (i := 5) (v := ?v305) rfl rfl (by kernel_rfl) (by kernel_rfl) (by kernel_rfl) (fun _ _ _ h => h) (Or.inl ⟨by rfl, ?h305⟩) hS0 ?r305
            case h305 => (intro w hw; obtain ⟨q0, q1, q2, q3, q4⟩ := hw; go_simp; try (with_reducible rfl))
            try simp only [Act.put, List.setIfInBounds_toArray, List.set_cons_zero, List.set_cons_succ]
            refine takeQ (some 61) (i := 6) (v := ?v306) rfl rfl (by kernel_rfl) (by kernel_rfl) (by kernel_rfl) (fun _ _ _ h => h) (Or.inl ⟨by rfl, ?h306⟩) hS0 ?r306
            case h306 => (intro w hw; obtain ⟨q0, q1, q2, q3, q4⟩ := hw; go_simp; try (with_reducible rfl))
            try simp only [Act.put, List.setIfInBounds_toArray, List.set_cons_zero, List.set_cons_succ]
            refine takeQ (some 62) (i := 7) (v := ?v307) rfl rfl (by kernel_rfl) (by kernel_rfl) (by kernel_rfl) (fun _ _ _ h => h) (Or.inl ⟨by rfl, ?h307⟩) hS0 ?r307
            case h307 => (intro w hw; obtain ⟨q0, q1, q2, q3, q4⟩ := hw; go_simp; try (with_reducible rfl))
            try simp only [Act.put, List.setIfInBounds_toArray, List.set_cons_zero, List.set_cons_succ]
            refine takeQ (some 63) (i := 8) (v := ?v308) rfl rfl (by kernel_rfl) (by kernel_rfl) (by kernel_rfl) (fun _ _ _ h => h) (Or.inl ⟨by rfl, ?h308⟩) hS0 ?r308
            case h308 => (intro w hw; obtain ⟨q0, q1, q2, q3, q4⟩ := hw; go_simp; try (with_reducible rfl))
            try simp only [Act.put, List.setIfInBounds_toArray, List.set_cons_zero, List.set_cons_succ]
            refine wpAnyH_ready (rs := [9]) (by kernel_rfl) (by simp) ?_
            refine AllReadyH.cons rfl ?_ AllReadyH.nil
            intro KK hKK
            go_simp
            refine (CK.out _ kd).mono ?_
            rintro e wx ⟨rfl, hbx⟩
            show KK _ _
            have kk := below_then kd hbx
            have hY := hX.below kk
            have hf := hY.o.free (i := 196) (by omega)
            have hc := hY.o.cS
            refine hKK.out _ _ hY.s (fun _ => ?_)
            clear hKK KK
            refine takeQ (some 65) (i := 10) (v := ?v309) rfl rfl (by kernel_rfl) (by kernel_rfl) (by kernel_rfl) (fun _ _ _ h => h) (Or.inl ⟨by rfl, ?h309⟩) hY.s ?r309
            case h309 => (intro w hw; obtain ⟨q0, q1, q2, q3, q4⟩ := hw; go_simp; try (with_reducible rfl))
            try simp only [Act.put, List.setIfInBounds_toArray, List.set_cons_zero, List.set_cons_succ]
            refine takeQ (some 66) (i := 11) (v := ?v310) rfl rfl (by kernel_rfl) (by kernel_rfl) (by kernel_rfl) (fun _ _ _ h => h) (Or.inl ⟨by rfl, ?h310⟩) hY.s ?r310
            case h310 => (intro w hw; obtain ⟨q0, q1, q2, q3, q4⟩ := hw; go_simp; try (with_reducible rfl))
            try simp only [Act.put, List.setIfInBounds_toArray, List.set_cons_zero, List.set_cons_succ]
            refine takeQ (some 67) (i := 12) (v := ?v311) rfl rfl (by kernel_rfl) (by kernel_rfl) (by kernel_rfl) (fun _ _ _ h => h) (Or.inl ⟨by rfl, ?h311⟩) hY.s ?r311
            case h311 => (intro w hw; obtain ⟨q0, q1, q2, q3, q4⟩ := hw; go_simp; try (with_reducible rfl))
            try simp only [Act.put, List.setIfInBounds_toArray, List.set_cons_zero, List.set_cons_succ]
            refine wpAnyH_ready (rs := [13]) (by kernel_rfl) (by simp) ?_
            refine AllReadyH.cons rfl ?_ AllReadyH.nil
            intro KK hKK
            go_simp
            have hZ := hY.setS so
            refine hKK.out _ _ hZ.s (fun _ => ?_)
            clear hKK KK
            refine wpAnyH_done (by kernel_rfl) ?_ _
            clear hX hY CK kd hc hf hS0 kk hbx
            go_wp2_with fail
            go_roundw
            case rel => exact ⟨k + 1, _, _, _, _, _, by omega, by go_num, HK1.out.1, HK1.out.2.1, HK1.out.2.2, hZ.o, hZ.s.1, hZ.r, hZ.b, hZ.z⟩
            case measure => simp [intOf]; omega
    · have hkl : k = h.length := by omega
      subst hkl
      have hA4 := (hb.cell (p := ⟨w.heap.size, 0, none⟩) hlt).trans hA2
      have hbw := below_then hb4 hb
      have hX : OfT w2 w.heap.size (.slice ao h.length cap) h.length noR noR noR (.map none) vk vr sd K R wr := ⟨hO, ⟨hC, hA4⟩, hF, hb, hlt⟩
      have hKl : K.length ≤ 64 := by have := congrArg List.length HK.out.1; simp [keysTo] at this; omega
      obtain ⟨aK, cK, rfl⟩ := owns_form hX.r.kr
      obtain ⟨aR, cR, rfl⟩ := owns_form hX.r.rr
      have HKE : Hid (∀ p ∈ K, p.2.length ≤ 64 ∧ ∀ x ∈ p.2, InI x) := Lib.hid (fun p hp => by
        have hm : p.2 ∈ keysTo h h.length := by rw [← HK.out.1]; exact List.mem_map.2 ⟨p, hp, rfl⟩
        unfold keysTo at hm
        obtain ⟨i, hi, he⟩ := List.mem_map.1 hm
        have hil := List.mem_range.1 hi
        rw [← he]
        unfold keysOf
        refine ⟨by rw [List.length_map]; exact upTo_len _ 64, fun x hx => ?_⟩
        obtain ⟨q, hq, rfl⟩ := List.mem_map.1 hx
        have hq2 := lastW_key ((((refWrites_rise (by rw [opsAt_eq hil]; exact HKS.out _ (List.getElem_mem hil))).2 q).1 hq).1)
        exact inI_of (((HOK.out _ (List.getElem_mem hil)).2 q (by rw [← opsAt_eq hil]; exact hq2.2.2)).1))
      have kd := (Below.refl wr.heap.size wr).drew
      have CWR : Hid (∀ wx, Below wr.heap.size wr wx → Calls Tryz.prog 49 #[.slice aK K.length cK] wx fun e w' => ∃ b n c, e = .returned (.map (some b)) ∧ wx.heap.size ≤ b ∧ MapI eS Tryz.prog 3 w' b n (wrsTo K K.length) c ∧ AllSet (wrsTo K K.length) ∧ Below wx.heap.size wx w') := Lib.hid (fun wx hx => owriters_any _ K wx ((hX.r.below hx).rws) (by omega) (fun p hp => by have := (HKE.out p hp).1; omega) (fun p hp => (HKE.out p hp).2))
      have hmf : ∀ (fn : Fn) (first cap : Array Value) (w : World), (Instr.makeFunc fn first cap).run Tryz.prog w = .ok (.func fn first cap) w := fun _ _ _ _ => rfl
      clear hO hC hF hb hA4 hbw
      go_wp2_with fail
      refine wp_region_held_drew (S := SA (w2.heap.size + 1) w2.heap.size w.heap.size (.slice ao h.length cap)) (by kernel_rfl) hX.drew.s (fun hS0 => ?_)
      have hc0 := hX.o.cK
      refine takeQ (some 69) (i := 0) (v := ?v401) rfl rfl (by kernel_rfl) (by kernel_rfl) (by kernel_rfl) (fun _ _ _ h => h) (Or.inl ⟨by rfl, ?h401⟩) hS0 ?r401
      case h401 => (intro w hw; obtain ⟨q0, q1⟩ := hw; go_simp; try (with_reducible rfl))
      try simp only [Act.put, List.setIfInBounds_toArray, List.set_cons_zero, List.set_cons_succ]
      refine takeQ (some 70) (i := 1) (v := ?v402) rfl rfl (by kernel_rfl) (by kernel_rfl) (by kernel_rfl) (fun _ _ _ h => h) (Or.inl ⟨by rfl, ?h402⟩) hS0 ?r402
      case h402 => (intro w hw; obtain ⟨q0, q1⟩ := hw; go_simp; try (with_reducible rfl))
      try simp only [Act.put, List.setIfInBounds_toArray, List.set_cons_zero, List.set_cons_succ]
      refine takeQ (some 71) (i := 2) (v := ?v403) rfl rfl (by kernel_rfl) (by kernel_rfl) (by kernel_rfl) (fun _ _ _ h => h) (Or.inl ⟨by rfl, ?h403⟩) hS0 ?r403
      case h403 => (intro w hw; obtain ⟨q0, q1⟩ := hw; go_simp; try (with_reducible rfl))
      try simp only [Act.put, List.setIfInBounds_toArray, List.set_cons_zero, List.set_cons_succ]
      refine takeQ (some 72) (i := 3) (v := ?v404) rfl rfl (by kernel_rfl) (by kernel_rfl) (by kernel_rfl) (fun _ _ _ h => h) (Or.inl ⟨by rfl, ?h404⟩) hS0 ?r404
      case h404 => (intro w hw; obtain ⟨q0, q1⟩ := hw; go_simp; try (with_reducible rfl))
      try simp only [Act.put, List.setIfInBounds_toArray, List.set_cons_zero, List.set_cons_succ]
      refine wpAnyH_ready (rs := [4]) (by kernel_rfl) (by simp) ?_
      refine AllReadyH.cons rfl ?_ AllReadyH.nil
      intro KK hKK
      go_simp
      refine hKK.out _ _ hS0 (fun _ => ?_)
      clear hKK KK
      refine wpAnyH_ready (rs := [5]) (by kernel_rfl) (by simp) ?_
      refine AllReadyH.cons rfl ?_ AllReadyH.nil
      intro KK hKK
      go_simp
      refine (CWR.out _ kd).mono ?_
      rintro e wx ⟨bw, nw, cw, rfl, hbw, hMw, hAw, hbx⟩
      show KK _ _
      have hY := hX.below (below_then kd hbx)
      have hbB : w2.heap.size < bw := by have h1 := hX.b.size; have h2 := hX.o.lt; have h3 := kd.size; omega
      have hf := hY.o.free (i := 193) (by omega)
      have hc := hY.o.cM
      refine hKK.out _ _ hY.s (fun _ => ?_)
      clear hKK KK
      refine takeQ (some 75) (i := 6) (v := ?v405) rfl rfl (by kernel_rfl) (by kernel_rfl) (by kernel_rfl) (fun _ _ _ h => h) (Or.inl ⟨by rfl, ?h405⟩) hY.s ?r405
      case h405 => (intro w hw; obtain ⟨q0, q1⟩ := hw; go_simp; try (with_reducible rfl))
      try simp only [Act.put, List.setIfInBounds_toArray, List.set_cons_zero, List.set_cons_succ]
      refine takeQ (some 76) (i := 7) (v := ?v406) rfl rfl (by kernel_rfl) (by kernel_rfl) (by kernel_rfl) (fun _ _ _ h => h) (Or.inl ⟨by rfl, ?h406⟩) hY.s ?r406
      case h406 => (intro w hw; obtain ⟨q0, q1⟩ := hw; go_simp; try (with_reducible rfl))
      try simp only [Act.put, List.setIfInBounds_toArray, List.set_cons_zero, List.set_cons_succ]
      refine wpAnyH_ready (rs := [8]) (by kernel_rfl) (by simp) ?_
      refine AllReadyH.cons rfl ?_ AllReadyH.nil
      intro KK hKK
      go_simp
      have hX13 := hY.setM (.map (some bw))
      have hM13 := hMw.cell (a := ⟨w2.heap.size, 193, none⟩) (by simp; omega) (.map (some bw))
      refine hKK.out _ _ hX13.s (fun _ => ?_)
      clear hKK KK
      refine wpAnyH_done (by kernel_rfl) ?_ _
      clear hX hY kd CWR hc hf hc0 hS0 hMw
      generalize wx.setCell ⟨w2.heap.size, 193, none⟩ (.map (some bw)) = w3 at *
      have hX := hX13
      have hM3 := hM13
      clear hX13 hM13
      have kd := (Below.refl w3.heap.size w3).drew
      have CP : Hid (∀ wx, Below w3.heap.size w3 wx → Calls Tryz.prog 50 #[.int .i64 h.length, .func (.func 51) #[] #[.pointer (some ⟨w.heap.size, 0, none⟩)]] wx fun e w' => e = .returned (.agg (rowsA (sesM h))) ∧ Below wx.heap.size wx w') := Lib.hid (fun wx hx => pairs_any (sesP h) h.length (by omega) _ _ wx enters_ses (fun a b wy ha hb hy => ses_calls _ h _ a b wy ((hX.below (below_then hx hy)).s.2) (HT.out _ (below_then hb4 (hX.below (below_then hx hy)).b)) ha hb))
      go_wp2_with fail
      refine wp_region_held_drew (S := SA (w2.heap.size + 1) w2.heap.size w.heap.size (.slice ao h.length cap)) (by kernel_rfl) hX.drew.s (fun hS0 => ?_)
      refine takeQ (some 77) (i := 0) (v := ?v501) rfl rfl (by kernel_rfl) (by kernel_rfl) (by kernel_rfl) (fun _ _ _ h => h) (Or.inl ⟨by rfl, ?h501⟩) hS0 ?r501
      case h501 => (intro w hw; obtain ⟨q0, q1⟩ := hw; go_simp; try (with_reducible rfl))
      try simp only [Act.put, List.setIfInBounds_toArray, List.set_cons_zero, List.set_cons_succ]
      refine takeQ (some 78) (i := 1) (v := ?v502) rfl rfl (by kernel_rfl) (by kernel_rfl) (by kernel_rfl) (fun _ _ _ h => h) (Or.inl ⟨by rfl, ?h502⟩) hS0 ?r502
      case h502 => (intro w hw; obtain ⟨q0, q1⟩ := hw; go_simp; try (with_reducible rfl))
      try simp only [Act.put, List.setIfInBounds_toArray, List.set_cons_zero, List.set_cons_succ]
      refine takeQ (some 79) (i := 2) (v := ?v503) rfl rfl (by kernel_rfl) (by kernel_rfl) (by kernel_rfl) (fun _ _ _ h => h) (Or.inl ⟨by rfl, ?h503⟩) hS0 ?r503
      case h503 => (intro w hw; obtain ⟨q0, q1⟩ := hw; go_simp; try (with_reducible rfl))
      try simp only [Act.put, List.setIfInBounds_toArray, List.set_cons_zero, List.set_cons_succ]
      refine takeQ (some 80) (i := 3) (v := ?v504) rfl rfl (by kernel_rfl) (by kernel_rfl) (by kernel_rfl) (fun _ _ _ h => h) (Or.inl ⟨by rfl, ?h504⟩) hS0 ?r504
      case h504 => (intro w hw; obtain ⟨q0, q1⟩ := hw; go_simp; try (with_reducible rfl))
      try simp only [Act.put, List.setIfInBounds_toArray, List.set_cons_zero, List.set_cons_succ]
      refine wpAnyH_ready (rs := [4]) (by kernel_rfl) (by simp) ?_
      refine AllReadyH.cons rfl ?_ AllReadyH.nil
      intro KK hKK
      go_simp
      refine (CP.out _ kd).mono ?_
      rintro e wx ⟨rfl, hbx⟩
      show KK _ _
      have kk := below_then kd hbx
      have hY := hX.below kk
      have hMY := hM3.below kk
      refine hKK.out _ _ hY.s (fun _ => ?_)
      clear hKK KK
      refine takeQ (some 82) (i := 5) (v := ?v505) rfl rfl (by kernel_rfl) (by kernel_rfl) (by kernel_rfl) (fun _ _ _ h => h) (Or.inl ⟨by rfl, ?h505⟩) hY.s ?r505
      case h505 => (intro w hw; obtain ⟨q0, q1⟩ := hw; go_simp; try (with_reducible rfl))
      try simp only [Act.put, List.setIfInBounds_toArray]
      refine takeQ (some 83) (i := 6) (v := ?v506) rfl rfl (by kernel_rfl) (by kernel_rfl) (by kernel_rfl) (fun _ _ _ h => h) (Or.inl ⟨by rfl, ?h506⟩) hY.s ?r506
      case h506 => (intro w hw; obtain ⟨q0, q1⟩ := hw; go_simp; try (with_reducible rfl))
      try simp only [Act.put]
      refine wpAnyH_ready (rs := [7]) (by kernel_rfl) (by simp) ?_
      refine AllReadyH.cons rfl ?_ AllReadyH.nil
      intro KK hKK
      rw [if_pos (by rfl)]
      refine wp_store_mid 37 (.tmp 83) (.tmp 81) rfl w2.heap.size 1 (rowsA (sesM h)) rfl rfl (by rw [rowsA_size]; exact hY.o.there 1 (by omega)) (infoRel' _) (rows_one _) ?_
      have hXn := hY.setS (sesM h)
      have hMn := MapI.cells (g := w2.heap.size) (by omega) (rowsA (sesM h)).toList 1 _ hMY
      refine hKK.out _ _ hXn.s (fun _ => ?_)
      clear hKK KK
      refine wpAnyH_done (by kernel_rfl) ?_ _
      clear hX hM3 hY kd CP hS0 hMY kk hbx
      generalize wx.setCells w2.heap.size 1 (rowsA (sesM h)).toList = w3 at *
      have hX := hXn
      have hM3 := hMn
      clear hXn hMn
      have kd := (Below.refl w3.heap.size w3).drew
      have CP : Hid (∀ wx, Below w3.heap.size w3 wx → Calls Tryz.prog 50 #[.int .i64 h.length, .func (.func 52) #[] #[.pointer (some ⟨w.heap.size, 0, none⟩)]] wx fun e w' => e = .returned (.agg (rowsA (timM h))) ∧ Below wx.heap.size wx w') := Lib.hid (fun wx hx => pairs_any (timP h) h.length (by omega) _ _ wx enters_tim (fun a b wy ha hb hy => tim_calls _ h _ a b wy ((hX.below (below_then hx hy)).s.2) (HT.out _ (below_then hb4 (hX.below (below_then hx hy)).b)) ha hb))
      go_wp2_with fail
      refine wp_region_held_drew (S := SA (w2.heap.size + 1) w2.heap.size w.heap.size (.slice ao h.length cap)) (by kernel_rfl) hX.drew.s (fun hS0 => ?_)
      refine takeQ (some 84) (i := 0) (v := ?v601) rfl rfl (by kernel_rfl) (by kernel_rfl) (by kernel_rfl) (fun _ _ _ h => h) (Or.inl ⟨by rfl, ?h601⟩) hS0 ?r601
      case h601 => (intro w hw; obtain ⟨q0, q1⟩ := hw; go_simp; try (with_reducible rfl))
      try simp only [Act.put, List.setIfInBounds_toArray, List.set_cons_zero, List.set_cons_succ]
      refine takeQ (some 85) (i := 1) (v := ?v602) rfl rfl (by kernel_rfl) (by kernel_rfl) (by kernel_rfl) (fun _ _ _ h => h) (Or.inl ⟨by rfl, ?h602⟩) hS0 ?r602
      case h602 => (intro w hw; obtain ⟨q0, q1⟩ := hw; go_simp; try (with_reducible rfl))
      try simp only [Act.put]
      refine takeQ (some 86) (i := 2) (v := ?v603) rfl rfl (by kernel_rfl) (by kernel_rfl) (by kernel_rfl) (fun _ _ _ h => h) (Or.inl ⟨by rfl, ?h603⟩) hS0 ?r603
      case h603 => (intro w hw; obtain ⟨q0, q1⟩ := hw; go_simp; try (with_reducible rfl))
      try simp only [Act.put]
      refine takeQ (some 87) (i := 3) (v := ?v604) rfl rfl (by kernel_rfl) (by kernel_rfl) (by kernel_rfl) (fun _ _ _ h => h) (Or.inl ⟨by rfl, ?h604⟩) hS0 ?r604
      case h604 => (intro w hw; obtain ⟨q0, q1⟩ := hw; go_simp; try (with_reducible rfl))
      try simp only [Act.put]
      refine wpAnyH_ready (rs := [4]) (by kernel_rfl) (by simp) ?_
      refine AllReadyH.cons rfl ?_ AllReadyH.nil
      intro KK hKK
      go_simp
      refine (CP.out _ kd).mono ?_
      rintro e wx ⟨rfl, hbx⟩
      show KK _ _
      have kk := below_then kd hbx
      have hY := hX.below kk
      have hMY := hM3.below kk
      refine hKK.out _ _ hY.s (fun _ => ?_)
      clear hKK KK
      refine takeQ (some 89) (i := 5) (v := ?v605) rfl rfl (by kernel_rfl) (by kernel_rfl) (by kernel_rfl) (fun _ _ _ h => h) (Or.inl ⟨by rfl, ?h605⟩) hY.s ?r605
      case h605 => (intro w hw; obtain ⟨q0, q1⟩ := hw; go_simp; try (with_reducible rfl))
      try simp only [Act.put, List.setIfInBounds_toArray]
      refine takeQ (some 90) (i := 6) (v := ?v606) rfl rfl (by kernel_rfl) (by kernel_rfl) (by kernel_rfl) (fun _ _ _ h => h) (Or.inl ⟨by rfl, ?h606⟩) hY.s ?r606
      case h606 => (intro w hw; obtain ⟨q0, q1⟩ := hw; go_simp; try (with_reducible rfl))
      try simp only [Act.put]
      refine wpAnyH_ready (rs := [7]) (by kernel_rfl) (by simp) ?_
      refine AllReadyH.cons rfl ?_ AllReadyH.nil
      intro KK hKK
      rw [if_pos (by rfl)]
      refine wp_store_mid 37 (.tmp 90) (.tmp 88) rfl w2.heap.size 65 (rowsA (timM h)) rfl rfl (by rw [rowsA_size]; exact hY.o.there 65 (by omega)) (infoRel' _) (rows_one _) ?_
      have hXn := hY.setT (timM h)
      have hMn := MapI.cells (g := w2.heap.size) (by omega) (rowsA (timM h)).toList 65 _ hMY
      refine hKK.out _ _ hXn.s (fun _ => ?_)
      clear hKK KK
      refine wpAnyH_done (by kernel_rfl) ?_ _
      clear hX hM3 hY kd CP hS0 hMY kk hbx
      generalize wx.setCells w2.heap.size 65 (rowsA (timM h)).toList = w3 at *
      have hX := hXn
      have hM3 := hMn
      clear hXn hMn
      have kd := (Below.refl w3.heap.size w3).drew
      have CP : Hid (∀ wx, Below w3.heap.size w3 wx → Calls Tryz.prog 50 #[.int .i64 h.length, .func (.func 53) #[] #[.pointer (some ⟨w2.heap.size + 1, 0, none⟩)]] wx fun e w' => e = .returned (.agg (rowsA (froM h))) ∧ Below wx.heap.size wx w') := Lib.hid (fun wx hx => pairs_any (froP h) h.length (by omega) _ _ wx enters_fro (fun a b wy ha hb hy => fro_calls _ h R _ _ a b wy ((hX.below (below_then hx hy)).s.1) ((hX.below (below_then hx hy)).o.cR) ((hX.below (below_then hx hy)).r.frws) HK.out.2.1 hb))
      go_wp2_with fail
      refine wp_region_held_drew (S := SA (w2.heap.size + 1) w2.heap.size w.heap.size (.slice ao h.length cap)) (by kernel_rfl) hX.drew.s (fun hS0 => ?_)
      refine takeQ (some 91) (i := 0) (v := ?v701) rfl rfl (by kernel_rfl) (by kernel_rfl) (by kernel_rfl) (fun _ _ _ h => h) (Or.inl ⟨by rfl, ?h701⟩) hS0 ?r701
      case h701 => (intro w hw; obtain ⟨q0, q1⟩ := hw; go_simp; try (with_reducible rfl))
      try simp only [Act.put, List.setIfInBounds_toArray, List.set_cons_zero, List.set_cons_succ]
      refine takeQ (some 92) (i := 1) (v := ?v702) rfl rfl (by kernel_rfl) (by kernel_rfl) (by kernel_rfl) (fun _ _ _ h => h) (Or.inl ⟨by rfl, ?h702⟩) hS0 ?r702
      case h702 => (intro w hw; obtain ⟨q0, q1⟩ := hw; go_simp; try (with_reducible rfl))
      try simp only [Act.put]
      refine takeQ (some 93) (i := 2) (v := ?v703) rfl rfl (by kernel_rfl) (by kernel_rfl) (by kernel_rfl) (fun _ _ _ h => h) (Or.inl ⟨by rfl, ?h703⟩) hS0 ?r703
      case h703 => (intro w hw; obtain ⟨q0, q1⟩ := hw; go_simp; try (with_reducible rfl))
      try simp only [Act.put]
      refine takeQ (some 94) (i := 3) (v := ?v704) rfl rfl (by kernel_rfl) (by kernel_rfl) (by kernel_rfl) (fun _ _ _ h => h) (Or.inl ⟨by rfl, ?h704⟩) hS0 ?r704
      case h704 => (intro w hw; obtain ⟨q0, q1⟩ := hw; go_simp; try (with_reducible rfl))
      try simp only [Act.put]
      refine wpAnyH_ready (rs := [4]) (by kernel_rfl) (by simp) ?_
      refine AllReadyH.cons rfl ?_ AllReadyH.nil
      intro KK hKK
      go_simp
      refine (CP.out _ kd).mono ?_
      rintro e wx ⟨rfl, hbx⟩
      show KK _ _
      have kk := below_then kd hbx
      have hY := hX.below kk
      have hMY := hM3.below kk
      refine hKK.out _ _ hY.s (fun _ => ?_)
      clear hKK KK
      refine takeQ (some 96) (i := 5) (v := ?v705) rfl rfl (by kernel_rfl) (by kernel_rfl) (by kernel_rfl) (fun _ _ _ h => h) (Or.inl ⟨by rfl, ?h705⟩) hY.s ?r705
      case h705 => (intro w hw; obtain ⟨q0, q1⟩ := hw; go_simp; try (with_reducible rfl))
      try simp only [Act.put, List.setIfInBounds_toArray]
      refine takeQ (some 97) (i := 6) (v := ?v706) rfl rfl (by kernel_rfl) (by kernel_rfl) (by kernel_rfl) (fun _ _ _ h => h) (Or.inl ⟨by rfl, ?h706⟩) hY.s ?r706
      case h706 => (intro w hw; obtain ⟨q0, q1⟩ := hw; go_simp; try (with_reducible rfl))
      try simp only [Act.put]
      refine wpAnyH_ready (rs := [7]) (by kernel_rfl) (by simp) ?_
      refine AllReadyH.cons rfl ?_ AllReadyH.nil
      intro KK hKK
      rw [if_pos (by rfl)]
      refine wp_store_mid 37 (.tmp 97) (.tmp 95) rfl w2.heap.size 129 (rowsA (froM h)) rfl rfl (by rw [rowsA_size]; exact hY.o.there 129 (by omega)) (infoRel' _) (rows_one _) ?_
      have hXn := hY.setF (froM h)
      have hMn := MapI.cells (g := w2.heap.size) (by omega) (rowsA (froM h)).toList 129 _ hMY
      refine hKK.out _ _ hXn.s (fun _ => ?_)
      clear hKK KK
      refine wpAnyH_done (by kernel_rfl) ?_ _
      clear hX hM3 hY kd CP hS0 hMY kk hbx
      generalize wx.setCells w2.heap.size 129 (rowsA (froM h)).toList = w3 at *
      have hq := hXn.s.1
      go_wp2_with fail
      go_ret2
      exact ⟨⟨_, rfl, by have := hb4.size; omega, _, _, _, _, _, K, R, HK.out.2.2 ▸ hXn.o, hMn, hAw, hXn.r, HK.out.1, HK.out.2.1⟩, below_then hb4 hXn.b⟩
end Go.Proofs.YtfancjmhdbaoeaaGreatDoor

namespace Go.Proofs.YtfancjmhdbaoeaaGreatDoor
set_option maxRecDepth 100000
open Go.RowKit

/-- What lies in the block of the case that is handed in. -/
def CaseS (p : Nat) (vh : Value) (a : Nat) (vb : Value) (w : World) : Prop := w.cell? ⟨p, 0, none⟩ = some vh ∧ w.cell? ⟨p, 1, none⟩ = some (.int .u8 a) ∧ w.cell? ⟨p, 2, none⟩ = some vb
theorem CaseS.below {p a : Nat} {vh vb : Value} {w w' : World} (h : CaseS p vh a vb w) (hb : Below w.heap.size w w') : CaseS p vh a vb w' := by
  obtain ⟨h0, h1, h2⟩ := h
  exact ⟨(hb.cell (p := ⟨p, 0, none⟩) (block_lt h0)).trans h0, (hb.cell (p := ⟨p, 1, none⟩) (block_lt h1)).trans h1, (hb.cell (p := ⟨p, 2, none⟩) (block_lt h2)).trans h2⟩
end Go.Proofs.YtfancjmhdbaoeaaGreatDoor

namespace Go.Proofs.YtfancjmhdbaoeaaGreatDoor
set_option maxRecDepth 100000
open Go.RowKit

theorem txns_none (w : World) : Txns w (.slice none 0 0) [] := ⟨⟨rfl, none, 0, rfl, ⟨Nat.le_refl _, Nat.zero_le _⟩, fun _ => ⟨rfl, rfl⟩, fun h => absurd h (by simp)⟩, fun t ht => by cases ht⟩
set_option maxHeartbeats 8000000 in
theorem lone_any (w : World) : Calls Tryz.prog 33 #[] w fun e w' => e = .returned (.bool true) ∧ Below w.heap.size w w' := by
  have CO := Lib.hid (of_done (.slice none 0 0) [] w (txns_none w) (fun t ht => by cases ht) (fun t ht => by cases ht) rfl)
  go_enter Tryz.func33, Tryz.ntmps33
  go_wp2_with fail
  refine (CO.out).mono ?_
  rintro e w1 ⟨⟨B, rfl, hB, hO⟩, hb⟩
  have n0 : w1.cell? ⟨B, 196, none⟩ = some (.bool true) := hO.blk.cS
  have n1 : w1.cell? ⟨B, 0, none⟩ = some (.int .i64 0) := hO.blk.cN
  clear CO hO
  go_wp2_with fail
  go_ret
  exact ⟨rfl, hb⟩
end Go.Proofs.YtfancjmhdbaoeaaGreatDoor

namespace Go.Proofs.YtfancjmhdbaoeaaGreatDoor
set_option maxRecDepth 100000
open Go.RowKit

theorem heap_set_far (w : World) (p : Addr) (u : Value) (k : Nat) (hk : k ≠ p.block) : (w.setCell p u).heap[k]? = w.heap[k]? := Below.heap_setCell w p u k (fun e => hk e)
theorem PlStep.setCell {S : Nat} {v1 v2 : Value} {w w' : World} (h : PlStep S v1 v2 w w') (o : Nat) (u : Value) : PlStep S v1 v2 w (w'.setCell ⟨S, o, none⟩ u) := by
  refine ⟨h.os, h.tape, h.output, by have := h.size; simpa using this, fun k hk hs hv => ?_, h.own⟩
  rw [heap_set_far w' ⟨S, o, none⟩ u k hs]
  exact h.block k hk hs hv
theorem PlStep.below {S : Nat} {v1 v2 : Value} {w w' w'' : World} (h : PlStep S v1 v2 w w') (hb : Below w'.heap.size w' w'') : PlStep S v1 v2 w w'' := h.trans (.of_below hb)
theorem PlStep.grown {S : Nat} {v1 v2 v3 : Value} {w w' w'' : World} (h : PlStep S v1 v2 w w') (hg : w'.grownBy w'' v2.ownBlock) (ho : ∀ g, v3.ownBlock = some g → v2.ownBlock = some g ∨ g = w'.heap.size) : PlStep S v1 v3 w w'' := by
  refine ⟨hg.os.trans h.os, hg.tape.trans h.tape, hg.output.trans h.output, Nat.le_trans h.size hg.size, fun k hk hs hv => ?_, fun g hgo => ?_⟩
  · refine (hg.block k (Nat.lt_of_lt_of_le hk h.size) (fun e => ?_)).trans (h.block k hk hs hv)
    rcases h.own k e.symm with q | q
    · exact hv q
    · omega
  · rcases ho g hgo with q | q
    · exact h.own g q
    · exact .inr (by have := h.size; omega)
theorem PlStep.as {S : Nat} {v1 v2 v3 : Value} {w w' : World} (h : PlStep S v1 v2 w w') (e : v3.ownBlock = v2.ownBlock) : PlStep S v1 v3 w w' := ⟨h.os, h.tape, h.output, h.size, h.block, fun g hg => h.own g (by rw [← e]; exact hg)⟩
theorem owns_less {w : World} {base n cap : Nat} {e : TypeId} {ao : Option Addr} {xs : List Value} {x : Value} (h : w.ownsRow base e 1 (.slice ao (n + 1) cap) (n + 1) (xs ++ [x])) : w.ownsRow base e 1 (.slice ao n cap) n xs := by
  obtain ⟨hl, h⟩ := h
  have hn : xs.length = n := by simp at hl; omega
  refine ⟨by omega, ?_⟩
  rcases h with ⟨hv, h0⟩ | ⟨g, cap', cur, hv, hb, hh, hc, hm, hs, ht⟩
  · omega
  · obtain ⟨e1, e2, e3⟩ : ao = some ⟨g, 0, none⟩ ∧ n + 1 = n + 1 ∧ cap = cap' := by simpa using hv
    subst e1 e3
    refine .inr ⟨g, cap, cur, rfl, hb, hh, by omega, hm, hs, ?_⟩
    have := congrArg (List.take (n * 1)) ht
    rw [List.take_take, Nat.min_eq_left (by omega)] at this
    rw [this, Nat.mul_one, ← hn, List.take_left]
theorem own_len (ao : Option Addr) (n m c d : Nat) : (Value.slice ao n c).ownBlock = (Value.slice ao m d).ownBlock := by cases ao <;> rfl
section
variable {W : World} {S B b : Nat} {h : List TxnV} {C : Nat} {r : List Nat} {vb vr : Value} {aF sF : Nat → Nat} {w : World}
theorem PlIs.undo {i : Nat} {ao : Option Addr} {cap : Nat} (p : PlIs W S B b h C (i :: r) vb (.slice ao (r.length + 1) cap) aF sF w) :
    PlIs W S B b h C r vb (.slice ao r.length cap) aF sF ((w.setCell ⟨S, 3, none⟩ (.slice ao r.length cap)).setCell ⟨S, 4, none⟩ (.int .u64 ((plS r : Nat) : Int))) ∧
    PlStep S (.slice ao (r.length + 1) cap) (.slice ao r.length cap) w ((w.setCell ⟨S, 3, none⟩ (.slice ao r.length cap)).setCell ⟨S, 4, none⟩ (.int .u64 ((plS r : Nat) : Int))) := by
  obtain ⟨hi, hnd⟩ := List.nodup_cons.1 p.nd
  have hrw := p.rw
  rw [List.reverse_cons, List.map_append, List.length_cons] at hrw
  have hne : ∀ k ∈ r, k ≠ i := fun k hk e => hi (by rw [← e]; exact hk)
  refine ⟨⟨p.o, p.t, (p.bel.setCell (p := ⟨S, 3, none⟩) p.low _).setCell (p := ⟨S, 4, none⟩) p.low _, p.low, (p.a.setR _).setP _, pl_far (pl_far p.ba (by simp) _) (by simp) _, pl_far (pl_far (owns_less hrw) (by simp) _) (by simp) _, fun g hg e => p.ne g hg (by rw [own_len ao (r.length + 1) r.length cap cap]; exact e), p.set, fun k hk => ?_, hnd, fun k hk => p.lt k (List.mem_cons_of_mem _ hk), (base_tail hi p.base).1⟩, ?_⟩
  · have := p.eq k (List.mem_cons_of_mem _ hk)
    rw [aheadL_tail (hne k hk), plSee_tail (hne k hk)] at this
    exact this
  · exact (((PlStep.refl S _ w).setCell 3 _).setCell 4 _).as (own_len _ _ _ _ _)
/-- A state while one is placed. -/
structure PlRaw (W : World) (S B C : Nat) (h : List TxnV) (r : List Nat) (vb vr : Value) (aF sF : Nat → Nat) (w0 w : World) : Prop where
  bel : Below W.heap.size W w
  low : W.heap.size ≤ S
  a : PlAt w S B C vb vr (plS r) aF sF
  ba : w.ownsRow (S + 1) 35 1 vb h.length ((List.range h.length).map fun i => .int .u64 ((baseN h C i : Nat) : Int))
  rw : w.ownsRow (S + 1) 3 1 vr r.length (r.reverse.map fun i : Nat => .int .i64 (i : Int))
  st : PlStep S vr vr w0 w
theorem PlIs.raw (p : PlIs W S B b h C r vb vr aF sF w) : PlRaw W S B C h r vb vr aF sF w w := ⟨p.bel, p.low, p.a, p.ba, p.rw, .refl _ _ _⟩
section
variable {w0 w' : World}
theorem PlRaw.below (p : PlRaw W S B C h r vb vr aF sF w0 w) (hb : Below w.heap.size w w') : PlRaw W S B C h r vb vr aF sF w0 w' :=
  ⟨p.bel.trans (hb.mono p.bel.size), p.low, p.a.below hb p.a.lt, owns_below p.ba hb, owns_below p.rw hb, p.st.below hb⟩
theorem PlRaw.setA (p : PlRaw W S B C h r vb vr aF sF w0 w) {k : Nat} (hk : k < 64) (s : Nat) : PlRaw W S B C h r vb vr (updN aF k s) sF w0 (w.setCell ⟨S, 5 + k, none⟩ (.int .u64 (s : Int))) :=
  ⟨p.bel.setCell (p := ⟨S, 5 + k, none⟩) p.low _, p.low, p.a.setA hk s, pl_far p.ba (by simp) _, pl_far p.rw (by simp) _, p.st.setCell _ _⟩
theorem PlRaw.setS (p : PlRaw W S B C h r vb vr aF sF w0 w) {k : Nat} (hk : k < 64) (s : Nat) : PlRaw W S B C h r vb vr aF (updN sF k s) w0 (w.setCell ⟨S, 69 + k, none⟩ (.int .u64 (s : Int))) :=
  ⟨p.bel.setCell (p := ⟨S, 69 + k, none⟩) p.low _, p.low, p.a.setS hk s, pl_far p.ba (by simp) _, pl_far p.rw (by simp) _, p.st.setCell _ _⟩
theorem updN_same (F : Nat → Nat) (i s : Nat) : updN F i s i = s := by unfold updN; rw [if_pos rfl]
theorem updN_other (F : Nat → Nat) {i k : Nat} (s : Nat) (hk : k ≠ i) : updN F i s k = F k := by unfold updN; rw [if_neg hk]
/-- One is placed: what lies there behind the append. -/
theorem PlRaw.app (p : PlRaw W S B C h r vb vr aF sF w0 w) (hne : ∀ g, vb.ownBlock = some g → vr.ownBlock ≠ some g) {w5 : World} {g cap n : Nat} {xs : List Value} (hown : w5.ownsRow (S + 1) 3 1 (.slice (some ⟨g, 0, none⟩) n cap) n xs) (hg : w.grownBy w5 vr.ownBlock) (hl : vr.ownBlock = some g ∨ g = w.heap.size) :
    Below W.heap.size W w5 ∧ PlAt w5 S B C vb vr (plS r) aF sF ∧ w5.ownsRow (S + 1) 35 1 vb h.length ((List.range h.length).map fun i => .int .u64 ((baseN h C i : Nat) : Int)) ∧ PlStep S vr (.slice (some ⟨g, 0, none⟩) n cap) w0 w5 ∧ ∀ k, vb.ownBlock = some k → k ≠ g := by
  have hS : vr.ownBlock ≠ some S := fun e => by have := (p.rw.lt _ e).1; omega
  refine ⟨p.bel.grown hg p.bel.size (fun k hk => ?_), p.a.grown hg (fun e => hS e.symm), p.ba.kept hg ?_, p.st.grown hg (fun k hk => ?_), fun k hk e => ?_⟩
  · have := (p.rw.lt _ hk).1
    have := p.low
    omega
  · cases hb : vb.ownBlock with
    | none => exact .inl rfl
    | some k => exact .inr (fun e => hne k hb e.symm)
  · have e : g = k := by injection hk
    rcases hl with q | q
    · exact .inl (by rw [← e]; exact q)
    · exact .inr (by omega)
  · subst e
    rcases hl with q | q
    · exact hne k hk q
    · have := (p.ba.lt _ hk).2
      omega
theorem PlIs.done (p : PlIs W S B b h C r vb vr aF sF w) {i s : Nat} (hi : i < h.length) (hin : i ∉ r) (hbs : ∀ j, (baseN h C i).testBit j = true → (plS r).testBit j = true) (h64 : h.length ≤ 64) (hs : s = nextN h C r i) {w4 w5 : World} (q : PlRaw W S B C h r vb vr (updN aF i (plS r)) (updN sF i s) w w4)
    {g cap : Nat} (hown : w5.ownsRow (S + 1) 3 1 (.slice (some ⟨g, 0, none⟩) (r.length + 1) cap) (r.length + 1) ((r.reverse.map fun i : Nat => .int .i64 (i : Int)) ++ [.int .i64 (i : Int)])) (hg : w4.grownBy w5 vr.ownBlock) (hl : vr.ownBlock = some g ∨ g = w4.heap.size) :
    PlIs W S B b h C (i :: r) vb (.slice (some ⟨g, 0, none⟩) (r.length + 1) cap) (updN aF i (plS r)) (updN sF i s) ((w5.setCell ⟨S, 3, none⟩ (.slice (some ⟨g, 0, none⟩) (r.length + 1) cap)).setCell ⟨S, 4, none⟩ (.int .u64 ((plS (i :: r) : Nat) : Int))) ∧
    PlStep S vr (.slice (some ⟨g, 0, none⟩) (r.length + 1) cap) w ((w5.setCell ⟨S, 3, none⟩ (.slice (some ⟨g, 0, none⟩) (r.length + 1) cap)).setCell ⟨S, 4, none⟩ (.int .u64 ((plS (i :: r) : Nat) : Int))) := by
  obtain ⟨b5, a5, v5, s5, n5⟩ := q.app p.ne hown hg hl
  have hi64 : i < 64 := by omega
  have hset : IsSet s := by rw [hs]; exact wld4_set (baseN_set h C i) (plS_set r) (rivN_set h i) (fun k _ => plSee_set h C r k) (fun k _ => aheadL_set r k)
  refine ⟨⟨p.o, p.t, (b5.setCell (p := ⟨S, 3, none⟩) p.low _).setCell (p := ⟨S, 4, none⟩) p.low _, p.low, (a5.setR _).setP _, pl_far (pl_far v5 (by simp) _) (by simp) _, ?_, fun k hk e => n5 k hk (by injection e with e; exact e.symm), fun k hk => ?_, fun k hk => ?_, List.nodup_cons.2 ⟨hin, p.nd⟩, fun k hk => ?_, fun k hk j hj => ?_⟩, (s5.setCell 3 _).setCell 4 _⟩
  · rw [List.reverse_cons, List.map_append, List.length_cons]
    exact pl_far (pl_far hown (by simp) _) (by simp) _
  · by_cases e : k = i
    · subst e; rw [updN_same, updN_same]; exact ⟨plS_set r, hset⟩
    · rw [updN_other _ _ e, updN_other _ _ e]; exact p.set k hk
  · by_cases e : k = i
    · subst e
      rw [updN_same, updN_same, aheadL, if_pos rfl, plSee, if_pos rfl, hs]
      exact ⟨rfl, rfl⟩
    · rw [updN_other _ _ e, updN_other _ _ e, aheadL_tail e, plSee_tail e]
      rcases List.mem_cons.1 hk with q | q
      · exact (e q).elim
      · exact p.eq k q
  · rcases List.mem_cons.1 hk with q | q
    · omega
    · exact p.lt k q
  · by_cases e : k = i
    · subst e
      rw [aheadL, if_pos rfl]
      exact hbs j hj
    · rw [aheadL_tail e]
      rcases List.mem_cons.1 hk with q | q
      · exact (e q).elim
      · exact p.base k q j hj
end
end
end Go.Proofs.YtfancjmhdbaoeaaGreatDoor

namespace Go.Proofs.YtfancjmhdbaoeaaGreatDoor
set_option maxRecDepth 100000
open Go.RowKit

theorem bit_ne (x k : Nat) (hx : x < 9223372036854775808) (hk : 2 ^ k < 9223372036854775808) {q : Int} (hq : bits .and .i64 (x : Int) ((2 ^ k : Nat) : Int) = q) : x.testBit k = !decide (q = 0) := by
  have := bit_zero x k hx hk
  rw [hq] at this
  cases hb : x.testBit k
  · rw [decide_eq_true (this.2 hb)]; rfl
  · rw [decide_eq_false (fun e => by rw [this.1 e] at hb; cases hb)]; rfl
set_option maxRecDepth 100000 in
set_option maxHeartbeats 16000000 in
theorem pwould_any {W : World} {S B b : Nat} {h : List TxnV} {C : Nat} {r : List Nat} {vb vr : Value} {aF sF : Nat → Nat} {w : World} (p : PlIs W S B b h C r vb vr aF sF w) (hc : checkI h = 0) (hC : C < 9223372036854775808) (i : Nat) (hi : i < h.length) :
    Calls Tryz.prog 94 #[.pointer (some ⟨S, 0, none⟩), .int .i64 i] w fun e w' => e = .returned (.int .u64 ((wld4 (baseN h C i) (plS r) (rivN h i) C sF aF : Nat) : Int)) ∧ Below w.heap.size w w' := by
  obtain ⟨q16, h16⟩ : ∃ q, bits .and .i64 (C : Int) 16 = q := ⟨_, rfl⟩
  obtain ⟨q8, h8⟩ : ∃ q, bits .and .i64 (C : Int) 8 = q := ⟨_, rfl⟩
  obtain ⟨q2, h2⟩ : ∃ q, bits .and .i64 (C : Int) 2 = q := ⟨_, rfl⟩
  obtain ⟨q4, h4⟩ : ∃ q, bits .and .i64 (C : Int) 4 = q := ⟨_, rfl⟩
  have H16 := Lib.hid (bit_ne C 4 hC (by omega) h16)
  have H8 := Lib.hid (bit_ne C 3 hC (by omega) h8)
  have H2 := Lib.hid (bit_ne C 1 hC (by omega) h2)
  have H4 := Lib.hid (bit_ne C 2 hC (by omega) h4)
  have hbs := baseN_set h C i
  have hps := plS_set r
  have hrs := rivN_set h i
  have E1 : Hid (wld1 (baseN h C i) (plS r) C = if q16 = 0 then baseN h C i else baseN h C i ||| plS r) := Lib.hid (by unfold wld1; rw [H16.out]; by_cases e : q16 = 0 <;> simp [e])
  have E2 : Hid (wld2 (baseN h C i) (plS r) (rivN h i) C = if q8 = 0 then wld1 (baseN h C i) (plS r) C else wld1 (baseN h C i) (plS r) C ||| (rivN h i &&& plS r)) := Lib.hid (by unfold wld2; rw [H8.out]; by_cases e : q8 = 0 <;> simp [e])
  have E3 : Hid (wld3 (baseN h C i) (plS r) (rivN h i) C sF = if q2 = 0 then wld2 (baseN h C i) (plS r) (rivN h i) C else wld2 (baseN h C i) (plS r) (rivN h i) C ||| joinN sF (wld2 (baseN h C i) (plS r) (rivN h i) C)) := Lib.hid (by unfold wld3; rw [H2.out]; by_cases e : q2 = 0 <;> simp [e])
  have E4 : Hid (wld4 (baseN h C i) (plS r) (rivN h i) C sF aF = if q4 = 0 then wld3 (baseN h C i) (plS r) (rivN h i) C sF else wld3 (baseN h C i) (plS r) (rivN h i) C sF ||| joinN aF (wld3 (baseN h C i) (plS r) (rivN h i) C sF)) := Lib.hid (by unfold wld4; rw [H4.out]; by_cases e : q4 = 0 <;> simp [e])
  have hsF : ∀ k, k < 64 → IsSet (sF k) := fun k hk => (p.set k hk).2
  have haF : ∀ k, k < 64 → IsSet (aF k) := fun k hk => (p.set k hk).1
  have s1 := wld1_set (C := C) hbs hps
  have s2 := wld2_set (C := C) hbs hps hrs
  have s3 := wld3_set (C := C) hbs hps hrs hsF
  have CJ1 := Lib.hid (fun s wx (hs : IsSet s) (hx : Below w.heap.size w wx) => joined_any S 69 sF s wx hs hsF (fun k hk => (p.below hx).a.cS hk) (p.below hx).tab)
  have CJ2 := Lib.hid (fun s wx (hs : IsSet s) (hx : Below w.heap.size w wx) => joined_any S 5 aF s wx hs haF (fun k hk => (p.below hx).a.cA hk) (p.below hx).tab)
  have CRV := Lib.hid (fun wx (hx : Below w.heap.size w wx) => ordis_rivals (p.below hx).ord hc i)
  have HS := Lib.hid (fun wx (hx : Below w.heap.size w wx) => And.intro (p.below hx).a.cO (And.intro (p.below hx).a.cC (p.below hx).a.cP))
  obtain ⟨gb, ob, cb, hvb, hcb⟩ : ∃ gb ob cb, vb = .slice (some ⟨gb, ob, none⟩) h.length cb ∧ w.cell? ⟨gb, ob + i, none⟩ = some (.int .u64 ((baseN h C i : Nat) : Int)) := by
    obtain ⟨hl, ao, cap, e, hm, hno, hcl⟩ := Row.of_owns p.ba
    obtain ⟨g, off, e2, hcell⟩ := hcl (by omega)
    refine ⟨g, off, cap, by rw [e, e2], ?_⟩
    rw [hcell i (by omega), List.getElem?_map, List.getElem?_range hi]; rfl
  have cB := p.a.cB
  rw [hvb] at cB
  obtain ⟨n0, n1, n2⟩ := HS.out w (Below.refl _ _)
  have hii : (i : Int) < (h.length : Int) := by omega
  have hb0 := Below.refl w.heap.size w
  have hr0 : IsSet (joinN sF (wld2 (baseN h C i) (plS r) (rivN h i) C)) := joinN_set hsF
  have hr1 : IsSet (joinN aF (wld3 (baseN h C i) (plS r) (rivN h i) C sF)) := joinN_set haF
  clear p H16 H8 H2 H4 hsF haF hvb hc hi
  generalize wld4 (baseN h C i) (plS r) (rivN h i) C sF aF = x4 at *
  generalize wld3 (baseN h C i) (plS r) (rivN h i) C sF = x3 at *
  generalize wld2 (baseN h C i) (plS r) (rivN h i) C = x2 at *
  generalize wld1 (baseN h C i) (plS r) C = x1 at *
  generalize baseN h C i = x0 at *
  generalize plS r = pl at *
  generalize rivN h i = rv at *
  have CJ1 := Lib.hid (fun wx (hx : Below w.heap.size w wx) => CJ1.out x2 wx s2 hx)
  have CJ2 := Lib.hid (fun wx (hx : Below w.heap.size w wx) => CJ2.out x3 wx s3 hx)
  generalize joinN sF x2 = j1 at *
  generalize joinN aF x3 = j2 at *
  have O1 := Go.bits_or_u64_nat _ _ hbs hps
  have O2 := Go.bits_and_u64_nat _ _ hrs hps
  have O3 := Go.bits_or_u64_nat _ _ s1 (isSet_and (t := pl) hrs)
  have O4 := Go.bits_or_u64_nat _ _ s2 hr0
  have O5 := Go.bits_or_u64_nat _ _ s3 hr1
  clear hbs hps hrs s1 s2 s3 hr0 hr1
  go_enter Tryz.func94, Tryz.ntmps94
  go_upto_if 18 with fail
  go_cut [5] from 13 to 24 (fun v wx => v = .int .u64 (x1 : Int) ∧ Below w.heap.size w wx)
  case first =>
    by_cases e : q16 = 0
    · have HE : Hid (x0 = x1) := Lib.hid (by rw [E1.out, if_pos e])
      go_wp2_with fail
      go_meet
      exact ⟨by rw [HE.out], hb0⟩
    · have HE : Hid (x0 ||| pl = x1) := Lib.hid (by rw [E1.out, if_neg e])
      have e2 := bne_iff_ne.2 e
      go_wp2_with fail
      go_meet
      exact ⟨by rw [← HE.out], hb0⟩
  obtain ⟨rfl, hb1⟩ := hcut
  generalize wc = w1 at *
  clear hb0 cB hcb n0 n1 n2
  obtain ⟨n0, n1, n2⟩ := HS.out _ hb1
  go_upto_if 30 with fail
  go_cut [5] from 25 to 43 (fun v wx => v = .int .u64 (x2 : Int) ∧ Below w.heap.size w wx)
  case first =>
    by_cases e : q8 = 0
    · have HE : Hid (x1 = x2) := Lib.hid (by rw [E2.out, if_pos e])
      go_wp2_with fail
      go_meet
      exact ⟨by rw [HE.out], hb1⟩
    · have HE : Hid (x1 ||| (rv &&& pl) = x2) := Lib.hid (by rw [E2.out, if_neg e])
      have e2 := bne_iff_ne.2 e
      go_upto_region 5 with fail
      refine wp_region_held_drew (S := Below w.heap.size w) (by kernel_rfl) hb1.drew (fun hS0 => ?_)
      refine takeG (some 31) (i := 0) (v := ?vua0) rfl rfl (by kernel_rfl) (by kernel_rfl) (by kernel_rfl) (fun _ _ _ h => h) (Or.inl ⟨by rfl, ?hua0⟩) hS0 ?rua0
      case hua0 => (intro w hw; obtain ⟨n0, n1, n2⟩ := HS.out _ hw; go_simp; try (with_reducible rfl))
      try simp only [Act.put, List.setIfInBounds_toArray, List.set_cons_zero, List.set_cons_succ]
      refine takeG (some 32) (i := 1) (v := ?vua1) rfl rfl (by kernel_rfl) (by kernel_rfl) (by kernel_rfl) (fun _ _ _ h => h) (Or.inl ⟨by rfl, ?hua1⟩) hS0 ?rua1
      case hua1 => (intro w hw; obtain ⟨n0, n1, n2⟩ := HS.out _ hw; go_simp; try (with_reducible rfl))
      try simp only [Act.put, List.setIfInBounds_toArray, List.set_cons_zero, List.set_cons_succ]
      refine takeG (some 33) (i := 2) (v := ?vua2) rfl rfl (by kernel_rfl) (by kernel_rfl) (by kernel_rfl) (fun _ _ _ h => h) (Or.inl ⟨by rfl, ?hua2⟩) hS0 ?rua2
      case hua2 => (intro w hw; obtain ⟨n0, n1, n2⟩ := HS.out _ hw; go_simp; try (with_reducible rfl))
      try simp only [Act.put, List.setIfInBounds_toArray, List.set_cons_zero, List.set_cons_succ]
      refine takeG (some 34) (i := 3) (v := ?vua3) rfl rfl (by kernel_rfl) (by kernel_rfl) (by kernel_rfl) (fun _ _ _ h => h) (Or.inl ⟨by rfl, ?hua3⟩) hS0 ?rua3
      case hua3 => (intro w hw; obtain ⟨n0, n1, n2⟩ := HS.out _ hw; go_simp; try (with_reducible rfl))
      try simp only [Act.put, List.setIfInBounds_toArray, List.set_cons_zero, List.set_cons_succ]
      refine takeG (some 35) (i := 4) (v := ?vua4) rfl rfl (by kernel_rfl) (by kernel_rfl) (by kernel_rfl) (fun _ _ _ h => h) (Or.inl ⟨by rfl, ?hua4⟩) hS0 ?rua4
      case hua4 => (intro w hw; obtain ⟨n0, n1, n2⟩ := HS.out _ hw; go_simp; try (with_reducible rfl))
      try simp only [Act.put, List.setIfInBounds_toArray, List.set_cons_zero, List.set_cons_succ]
      refine takeG (some 36) (i := 5) (v := ?vua5) rfl rfl (by kernel_rfl) (by kernel_rfl) (by kernel_rfl) (fun _ _ _ h => h) (Or.inl ⟨by rfl, ?hua5⟩) hS0 ?rua5
      case hua5 => (intro w hw; obtain ⟨n0, n1, n2⟩ := HS.out _ hw; go_simp; try (with_reducible rfl))
      try simp only [Act.put, List.setIfInBounds_toArray, List.set_cons_zero, List.set_cons_succ]
      refine takeG (some 38) (i := 7) (v := ?vua7) rfl rfl (by kernel_rfl) (by kernel_rfl) (by kernel_rfl) (fun _ _ _ h => h) (Or.inl ⟨by rfl, ?hua7⟩) hS0 ?rua7
      case hua7 => (intro w hw; obtain ⟨n0, n1, n2⟩ := HS.out _ hw; go_simp; try (with_reducible rfl))
      try simp only [Act.put, List.setIfInBounds_toArray, List.set_cons_zero, List.set_cons_succ]
      refine takeG (some 39) (i := 8) (v := ?vua8) rfl rfl (by kernel_rfl) (by kernel_rfl) (by kernel_rfl) (fun _ _ _ h => h) (Or.inl ⟨by rfl, ?hua8⟩) hS0 ?rua8
      case hua8 => (intro w hw; obtain ⟨n0, n1, n2⟩ := HS.out _ hw; go_simp; try (with_reducible rfl))
      try simp only [Act.put, List.setIfInBounds_toArray, List.set_cons_zero, List.set_cons_succ]
      refine takeG (some 40) (i := 9) (v := ?vua9) rfl rfl (by kernel_rfl) (by kernel_rfl) (by kernel_rfl) (fun _ _ _ h => h) (Or.inl ⟨by rfl, ?hua9⟩) hS0 ?rua9
      case hua9 => (intro w hw; obtain ⟨n0, n1, n2⟩ := HS.out _ hw; go_simp; try (with_reducible rfl))
      try simp only [Act.put, List.setIfInBounds_toArray, List.set_cons_zero, List.set_cons_succ]
      refine takeG (some 41) (i := 10) (v := ?vua10) rfl rfl (by kernel_rfl) (by kernel_rfl) (by kernel_rfl) (fun _ _ _ h => h) (Or.inl ⟨by rfl, ?hua10⟩) hS0 ?rua10
      case hua10 => (intro w hw; obtain ⟨n0, n1, n2⟩ := HS.out _ hw; go_simp; try (with_reducible rfl))
      try simp only [Act.put, List.setIfInBounds_toArray, List.set_cons_zero, List.set_cons_succ]
      refine wpAnyH_ready (rs := [6]) (by kernel_rfl) (by simp) ?_
      refine AllReadyH.cons rfl (fun K hK => ?_) AllReadyH.nil
      go_simp
      refine (CRV.out _ hS0).mono ?_
      rintro e y1 ⟨rfl, j1⟩
      show K _ _
      have s1 := below_then hS0 j1
      refine hK.out _ _ s1 (fun _ => ?_)
      clear hK K
      refine takeG (some 42) (i := 11) (v := ?vua11) rfl rfl (by kernel_rfl) (by kernel_rfl) (by kernel_rfl) (fun _ _ _ h => h) (Or.inl ⟨by rfl, ?hua11⟩) s1 ?rua11
      case hua11 => (intro w hw; obtain ⟨n0, n1, n2⟩ := HS.out _ hw; go_simp; try (with_reducible rfl))
      try simp only [Act.put, List.setIfInBounds_toArray, List.set_cons_zero, List.set_cons_succ]
      refine takeG (some 43) (i := 12) (v := ?vua12) rfl rfl (by kernel_rfl) (by kernel_rfl) (by kernel_rfl) (fun _ _ _ h => h) (Or.inl ⟨by rfl, ?hua12⟩) s1 ?rua12
      case hua12 => (intro w hw; obtain ⟨n0, n1, n2⟩ := HS.out _ hw; go_simp; try (with_reducible rfl))
      try simp only [Act.put, List.setIfInBounds_toArray, List.set_cons_zero, List.set_cons_succ]
      refine takeG (some 5) (i := 13) (v := ?vua13) rfl rfl (by kernel_rfl) (by kernel_rfl) (by kernel_rfl) (fun _ _ _ h => h) (Or.inl ⟨by rfl, ?hua13⟩) s1 ?rua13
      case hua13 => (intro w hw; obtain ⟨n0, n1, n2⟩ := HS.out _ hw; go_simp; try (with_reducible rfl))
      try simp only [Act.put, List.setIfInBounds_toArray, List.set_cons_zero, List.set_cons_succ]
      refine wpAnyH_done (by kernel_rfl) ?_ _
      rw [HE.out]
      go_wp2_with fail
      go_meet
      exact ⟨rfl, s1⟩
  obtain ⟨rfl, hb2⟩ := hcut
  generalize wc = w2 at *
  clear hb1 n0 n1 n2
  obtain ⟨n0, n1, n2⟩ := HS.out _ hb2
  go_upto_if 49 with fail
  go_cut [5] from 44 to 56 (fun v wx => v = .int .u64 (x3 : Int) ∧ Below w.heap.size w wx)
  case first =>
    by_cases e : q2 = 0
    · have HE : Hid (x2 = x3) := Lib.hid (by rw [E3.out, if_pos e])
      go_wp2_with fail
      go_meet
      exact ⟨by rw [HE.out], hb2⟩
    · have HE : Hid (x2 ||| j1 = x3) := Lib.hid (by rw [E3.out, if_neg e])
      have e2 := bne_iff_ne.2 e
      go_wp2_with fail
      refine (CJ1.out _ hb2).mono ?_
      rintro e w3 ⟨rfl, h3⟩
      have hb3 := below_then hb2 h3
      go_wp2_with fail
      go_meet
      exact ⟨by rw [← HE.out], hb3⟩
  obtain ⟨rfl, hb3⟩ := hcut
  generalize wc = w3 at *
  clear hb2 n0 n1 n2
  obtain ⟨n0, n1, n2⟩ := HS.out _ hb3
  go_upto_region 8 with fail
  by_cases e : q4 = 0
  · have HE : Hid ((x3 : Int) = ((x4 : Nat) : Int)) := Lib.hid (by rw [E4.out, if_pos e])
    go_wp2_with fail
    go_ret
    exact ⟨ret_i HE.out, hb3⟩
  · have HE : Hid (((x3 ||| j2 : Nat) : Int) = ((x4 : Nat) : Int)) := Lib.hid (by rw [E4.out, if_neg e])
    have e2 := bne_iff_ne.2 e
    go_wp2_with fail
    refine (CJ2.out _ hb3).mono ?_
    rintro e w4 ⟨rfl, h4⟩
    have hb4 := below_then hb3 h4
    go_wp2_with fail
    go_ret
    exact ⟨ret_i HE.out, hb4⟩
end Go.Proofs.YtfancjmhdbaoeaaGreatDoor
