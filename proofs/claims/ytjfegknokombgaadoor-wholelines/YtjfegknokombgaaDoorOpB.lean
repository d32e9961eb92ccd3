/- The walk of a line's operation. Conditions: the library's variables are as a start leaves them; a text of at most 100000 bytes. -/
import Derived.Test.YtjfegknokombgaaDoorOpA
import Derived.BigRegion
namespace Go.Proofs.YtjfegknokombgaaDoor
set_option maxRecDepth 100000
open Go.RowKit

theorem nums_two {s : ByteArray} (h : wordsOK s 2 = true) : ∃ a b : Int, numsOf s = [a, b] ∧ (0 ≤ a ∧ a ≤ 2147483647) ∧ (0 ≤ b ∧ b ≤ 2147483647) := by
  unfold wordsOK at h
  simp only [Bool.and_eq_true, decide_eq_true_eq] at h
  have hl : (cutB 32 s).tail.length = 2 := by rw [List.length_tail]; omega
  unfold numsOf numsB
  match hq : (cutB 32 s).tail, hl with
  | [p, q], _ =>
    have h1 := numV_le p.data.toList
    have h2 := numV_le q.data.toList
    exact ⟨((numV p.data.toList : Nat) : Int), ((numV q.data.toList : Nat) : Int), rfl, ⟨by omega, by omega⟩, ⟨by omega, by omega⟩⟩
/-- A line's first word: a write's, a read's. -/
def isW (s : ByteArray) : Bool := decide ((headB s).data.toList = [119])
def isRd (s : ByteArray) : Bool := decide ((headB s).data.toList = [114])
/-- The operation of a line, and whether there is one. -/
def parseR (s : ByteArray) : Bool × OpV :=
  if wordsOK s 2 = true then
    match numsOf s with
    | [a, b] => if (isW s || isRd s) && mayO ⟨isW s, a, b⟩ then (true, ⟨isW s, a, b⟩) else (false, opZ)
    | _ => (false, opZ)
  else (false, opZ)
theorem parseR_no {s : ByteArray} (h : wordsOK s 2 = false) : parseR s = (false, opZ) := by unfold parseR; simp [h]
theorem parseR_at {s : ByteArray} (h : wordsOK s 2 = true) {a b : Int} (hn : numsOf s = [a, b]) : parseR s = if (isW s || isRd s) && mayO ⟨isW s, a, b⟩ then (true, ⟨isW s, a, b⟩) else (false, opZ) := by unfold parseR; simp [h, hn]
theorem str_is (t : ByteArray) (c : UInt8) : (t.toList = (⟨#[c]⟩ : ByteArray).toList ↔ t.data.toList = [c]) := by rw [ByteArray.toList_eq, ByteArray.toList_eq]
/-- Three cells of one block are written anew. -/
theorem put_three {w1 : World} {g : Nat} {x0 x1 x2 : Value} (v0 v1 v2 : Value) (c0 : w1.cell? ⟨g, 0, none⟩ = some x0) (c1 : w1.cell? ⟨g, 1, none⟩ = some x1) (c2 : w1.cell? ⟨g, 2, none⟩ = some x2) :
    (((w1.setCell ⟨g, 0, none⟩ v0).setCell ⟨g, 1, none⟩ v1).setCell ⟨g, 2, none⟩ v2).cell? ⟨g, 0, none⟩ = some v0 ∧
    (((w1.setCell ⟨g, 0, none⟩ v0).setCell ⟨g, 1, none⟩ v1).setCell ⟨g, 2, none⟩ v2).cell? ⟨g, 1, none⟩ = some v1 ∧
    (((w1.setCell ⟨g, 0, none⟩ v0).setCell ⟨g, 1, none⟩ v1).setCell ⟨g, 2, none⟩ v2).cell? ⟨g, 2, none⟩ = some v2 := by
  have n01 : (⟨g, 0, none⟩ : Addr) ≠ ⟨g, 1, none⟩ := by simp
  have n02 : (⟨g, 0, none⟩ : Addr) ≠ ⟨g, 2, none⟩ := by simp
  have n12 : (⟨g, 1, none⟩ : Addr) ≠ ⟨g, 2, none⟩ := by simp
  refine ⟨?_, ?_, ?_⟩
  · rw [World.cell?_setCell_other _ _ _ _ n02.symm, World.cell?_setCell_other _ _ _ _ n01.symm]
    exact World.cell?_setCell_same _ _ _ c0
  · rw [World.cell?_setCell_other _ _ _ _ n12.symm]
    exact World.cell?_setCell_same _ _ _ ((World.cell?_setCell_other _ _ _ _ n01).trans c1)
  · exact World.cell?_setCell_same _ _ _ ((World.cell?_setCell_other _ _ _ _ n12).trans ((World.cell?_setCell_other _ _ _ _ n02).trans c2))
theorem below_three {B : Nat} {w w1 : World} {g : Nat} (v0 v1 v2 : Value) (hb : Below B w w1) (hg : B ≤ g) :
    Below B w (((w1.setCell ⟨g, 0, none⟩ v0).setCell ⟨g, 1, none⟩ v1).setCell ⟨g, 2, none⟩ v2) :=
  ((hb.setCell (p := ⟨g, 0, none⟩) hg v0).setCell (p := ⟨g, 1, none⟩) hg v1).setCell (p := ⟨g, 2, none⟩) hg v2
/-- What a block of an operation that the call made holds, behind calls that leave it alone. -/
theorem op_cells {w w1 : World} {x y z : Value} {t : TypeId} (hb : Below (w.heap.size + 1) (w.alloc (.cells #[x, y, z] t)) w1) :
    (w1.cell? ⟨w.heap.size, 0, none⟩ = some x ∧ w1.cell? ⟨w.heap.size, 1, none⟩ = some y ∧ w1.cell? ⟨w.heap.size, 2, none⟩ = some z) ∧
    (w1.frozen? ⟨w.heap.size, 0, none⟩ = false ∧ w1.frozen? ⟨w.heap.size, 1, none⟩ = false ∧ w1.frozen? ⟨w.heap.size, 2, none⟩ = false) := by
  have c0 := hb.cell (p := ⟨w.heap.size, 0, none⟩) (by simp)
  have c1 := hb.cell (p := ⟨w.heap.size, 1, none⟩) (by simp)
  have c2 := hb.cell (p := ⟨w.heap.size, 2, none⟩) (by simp)
  have f0 := hb.frozen (p := ⟨w.heap.size, 0, none⟩) (by simp)
  have f1 := hb.frozen (p := ⟨w.heap.size, 1, none⟩) (by simp)
  have f2 := hb.frozen (p := ⟨w.heap.size, 2, none⟩) (by simp)
  simp at c0 c1 c2 f0 f1 f2
  exact ⟨⟨c0, c1, c2⟩, f0, f1, f2⟩
def opA (o : OpV) : Value := .agg #[.bool o.wr, .int .i64 o.key, .int .i64 o.val]
set_option maxHeartbeats 2000000 in
theorem parse_no (s : ByteArray) (w : World) (he : Env w) (hs : s.size ≤ 100000) (h : wordsOK s 2 = false) :
    Calls Tryd.prog 29 #[.string s] w fun e w' => e = .returned (.tuple #[.agg #[.bool false, .int .i64 0, .int .i64 0], .bool false]) ∧ Below w.heap.size w w' := by
  have hb0 := box_below w (.cells #[.bool false, .int .i64 0, .int .i64 0] 52)
  have CW := Lib.hid (words_isnt s 2 _ (he.below hb0) hs h)
  clear he hs h
  go_enter Tryd.func29, Tryd.ntmps29
  go_wp2_with fail
  refine (CW.out).mono ?_
  rintro e w1 ⟨rfl, hb1⟩
  obtain ⟨⟨c0, c1, c2⟩, f0, f1, f2⟩ := op_cells (by simpa using hb1)
  have hb2 := hb0.trans (hb1.mono (by simp))
  go_wp2_with fail
  obtain ⟨d0, d1, d2⟩ := put_three (.bool false) (.int .i64 0) (.int .i64 0) c0 c1 c2
  have hb3 := below_three (.bool false) (.int .i64 0) (.int .i64 0) hb2 (Nat.le_refl _)
  generalize World.setCell _ _ _ = w5 at *
  refine bodyPost_ret (v := .tuple #[.agg #[.bool false, .int .i64 0, .int .i64 0], .bool false]) (by simp [results, Tryd.results29, go_sem, d0, d1, d2]) rfl ⟨rfl, hb3⟩
set_option maxHeartbeats 2000000 in
theorem parse_words (s : ByteArray) (w : World) (he : Env w) (hs : s.size ≤ 100000) (h : wordsOK s 2 = true) :
    Calls Tryd.prog 29 #[.string s] w fun e w' => e = .returned (.tuple #[.agg #[.bool (parseR s).2.wr, .int .i64 (parseR s).2.key, .int .i64 (parseR s).2.val], .bool (parseR s).1]) ∧ Below w.heap.size w w' := by
  have hb0 := box_below w (.cells #[.bool false, .int .i64 0, .int .i64 0] 52)
  have CW := Lib.hid (words_is s 2 _ (he.below hb0) hs h)
  obtain ⟨a, b, hab, ⟨ha0, ha1⟩, hb0', hb1'⟩ := nums_two h
  have HR := Lib.hid (parseR_at h hab)
  rw [hab] at CW
  have HW : Hid (isW s = decide ((headB s).data.toList = [119])) := Lib.hid rfl
  have HRd : Hid (isRd s = decide ((headB s).data.toList = [114])) := Lib.hid rfl
  generalize isW s = iw at *
  generalize isRd s = ir at *
  generalize headB s = p at *
  generalize parseR s = R at *
  clear he hs h hab
  go_enter Tryd.func29, Tryd.ntmps29
  go_wp2_with fail
  refine (CW.out).mono ?_
  rintro e w1 ⟨v, rfl, hI, hb1⟩
  obtain ⟨⟨c0, c1, c2⟩, f0, f1, f2⟩ := op_cells (by simpa using hb1)
  have hb2 := hb0.trans (hb1.mono (by simp))
  obtain ⟨ao, cap, rfl, _⟩ := hI.form
  obtain ⟨g, o, hg, k0⟩ := hI.at (k := 0) (by simp)
  subst hg
  obtain ⟨g', o', hg', k1⟩ := hI.at (k := 1) (by simp)
  cases hg'
  change w1.cell? ⟨g, o + 0, none⟩ = some (.int .i64 a) at k0
  rw [Nat.add_zero] at k0
  change w1.cell? ⟨g, o + 1, none⟩ = some (.int .i64 b) at k1
  have hz1 := hb2.size
  have q0 : ∀ O, (w1.alloc O).cell? ⟨g, o, none⟩ = some (.int .i64 a) := fun O => (World.cell?_alloc_lt w1 O _ (block_lt k0)).trans k0
  have q1 : ∀ O, (w1.alloc O).cell? ⟨g, o + 1, none⟩ = some (.int .i64 b) := fun O => (World.cell?_alloc_lt w1 O _ (block_lt k1)).trans k1
  have key : ∀ (wr : Bool), (p.toList == [119]) = wr → (p.toList = [114] ∨ p.toList = [119]) → Hid (R = if mayO ⟨wr, a, b⟩ then (true, ⟨wr, a, b⟩) else (false, opZ)) := by
    intro wr h1 h2
    refine Lib.hid ?_
    rw [HR.out]
    have e1 : iw = wr := by
      rw [HW.out, ← h1, ← ByteArray.toList_eq, Bool.eq_iff_iff]; simp
    have e2 : (iw || ir) = true := by
      rw [HW.out, HRd.out, ← ByteArray.toList_eq]
      rcases h2 with h2 | h2 <;> simp [h2]
    rw [e2, e1, Bool.true_and]
  have hlt := block_lt c0
  change w.heap.size < w1.heap.size at hlt
  by_cases hr : p.toList = [114]
  · have HK := key false (by rw [hr]; rfl) (.inl hr)
    clear key HR HW HRd CW
    go_wp2_with fail
    go_region
    go_wp2_with fail
    refine (right_any false a b _).mono ?_
    rintro e w3 ⟨rfl, hb3⟩
    have hb4 : Below w1.heap.size w1 w3 := ((box_below w1 _).drew).trans (hb3.mono (by simp))
    have c0' := (hb4.cell (p := ⟨w.heap.size, 0, none⟩) hlt).trans c0
    have c1' := (hb4.cell (p := ⟨w.heap.size, 1, none⟩) hlt).trans c1
    have c2' := (hb4.cell (p := ⟨w.heap.size, 2, none⟩) hlt).trans c2
    have f0' := (hb4.frozen (p := ⟨w.heap.size, 0, none⟩) hlt).trans f0
    have f1' := (hb4.frozen (p := ⟨w.heap.size, 1, none⟩) hlt).trans f1
    have f2' := (hb4.frozen (p := ⟨w.heap.size, 2, none⟩) hlt).trans f2
    have n0 := hb3.cell (p := ⟨w1.heap.size, 0, none⟩) (by simp)
    have n1 := hb3.cell (p := ⟨w1.heap.size, 1, none⟩) (by simp)
    have n2 := hb3.cell (p := ⟨w1.heap.size, 2, none⟩) (by simp)
    simp at n0 n1 n2
    have hb5 := hb2.trans (hb4.mono hz1)
    clear hb3 hb4 c0 c1 c2 f0 f1 f2
    cases hm : mayO ⟨false, a, b⟩
    · rw [hm] at HK
      clear hm
      go_wp2_with fail
      obtain ⟨d0, d1, d2⟩ := put_three (.bool false) (.int .i64 0) (.int .i64 0) c0' c1' c2'
      have hb6 := below_three (.bool false) (.int .i64 0) (.int .i64 0) hb5 (Nat.le_refl _)
      generalize World.setCell _ _ _ = w5 at *
      refine bodyPost_ret (v := .tuple #[.agg #[.bool false, .int .i64 0, .int .i64 0], .bool false]) (by simp [results, Tryd.results29, go_sem, d0, d1, d2]) rfl ⟨?_, hb6⟩
      rw [HK.out]; rfl
    · rw [hm] at HK
      clear hm
      go_wp2_with fail
      obtain ⟨d0, d1, d2⟩ := put_three (.bool false) (.int .i64 a) (.int .i64 b) c0' c1' c2'
      have hb6 := below_three (.bool false) (.int .i64 a) (.int .i64 b) hb5 (Nat.le_refl _)
      generalize World.setCell _ _ _ = w5 at *
      refine bodyPost_ret (v := .tuple #[.agg #[.bool false, .int .i64 a, .int .i64 b], .bool true]) (by simp [results, Tryd.results29, go_sem, d0, d1, d2]) rfl ⟨?_, hb6⟩
      rw [HK.out]; rfl
  by_cases hw : p.toList = [119]
  · have HK := key true (by rw [hw]; rfl) (.inr hw)
    clear key HR HW HRd CW hr
    go_wp2_with fail
    go_region
    go_wp2_with fail
    refine (right_any true a b _).mono ?_
    rintro e w3 ⟨rfl, hb3⟩
    have hb4 : Below w1.heap.size w1 w3 := ((box_below w1 _).drew).trans (hb3.mono (by simp))
    have c0' := (hb4.cell (p := ⟨w.heap.size, 0, none⟩) hlt).trans c0
    have c1' := (hb4.cell (p := ⟨w.heap.size, 1, none⟩) hlt).trans c1
    have c2' := (hb4.cell (p := ⟨w.heap.size, 2, none⟩) hlt).trans c2
    have f0' := (hb4.frozen (p := ⟨w.heap.size, 0, none⟩) hlt).trans f0
    have f1' := (hb4.frozen (p := ⟨w.heap.size, 1, none⟩) hlt).trans f1
    have f2' := (hb4.frozen (p := ⟨w.heap.size, 2, none⟩) hlt).trans f2
    have n0 := hb3.cell (p := ⟨w1.heap.size, 0, none⟩) (by simp)
    have n1 := hb3.cell (p := ⟨w1.heap.size, 1, none⟩) (by simp)
    have n2 := hb3.cell (p := ⟨w1.heap.size, 2, none⟩) (by simp)
    simp at n0 n1 n2
    have hb5 := hb2.trans (hb4.mono hz1)
    clear hb3 hb4 c0 c1 c2 f0 f1 f2
    cases hm : mayO ⟨true, a, b⟩
    · rw [hm] at HK
      clear hm
      go_wp2_with fail
      obtain ⟨d0, d1, d2⟩ := put_three (.bool false) (.int .i64 0) (.int .i64 0) c0' c1' c2'
      have hb6 := below_three (.bool false) (.int .i64 0) (.int .i64 0) hb5 (Nat.le_refl _)
      generalize World.setCell _ _ _ = w5 at *
      refine bodyPost_ret (v := .tuple #[.agg #[.bool false, .int .i64 0, .int .i64 0], .bool false]) (by simp [results, Tryd.results29, go_sem, d0, d1, d2]) rfl ⟨?_, hb6⟩
      rw [HK.out]; rfl
    · rw [hm] at HK
      clear hm
      go_wp2_with fail
      obtain ⟨d0, d1, d2⟩ := put_three (.bool true) (.int .i64 a) (.int .i64 b) c0' c1' c2'
      have hb6 := below_three (.bool true) (.int .i64 a) (.int .i64 b) hb5 (Nat.le_refl _)
      generalize World.setCell _ _ _ = w5 at *
      refine bodyPost_ret (v := .tuple #[.agg #[.bool true, .int .i64 a, .int .i64 b], .bool true]) (by simp [results, Tryd.results29, go_sem, d0, d1, d2]) rfl ⟨?_, hb6⟩
      rw [HK.out]; rfl
  · have HK : Hid (R = (false, opZ)) := Lib.hid (by
      rw [HR.out]
      have e1 : iw = false := by rw [HW.out, ← ByteArray.toList_eq]; simp [hw]
      have e2 : ir = false := by rw [HRd.out, ← ByteArray.toList_eq]; simp [hr]
      rw [e1, e2]; rfl)
    have b1 : (p.toList == [114]) = false := by simp [hr]
    have b2 : (p.toList == [119]) = false := by simp [hw]
    clear key HR HW HRd CW
    go_wp2_with fail
    obtain ⟨d0, d1, d2⟩ := put_three (.bool false) (.int .i64 0) (.int .i64 0) c0 c1 c2
    have hb6 := below_three (.bool false) (.int .i64 0) (.int .i64 0) hb2 (Nat.le_refl _)
    generalize World.setCell _ _ _ = w5 at *
    refine bodyPost_ret (v := .tuple #[.agg #[.bool false, .int .i64 0, .int .i64 0], .bool false]) (by simp [results, Tryd.results29, go_sem, d0, d1, d2]) rfl ⟨?_, hb6⟩
    rw [HK.out]; rfl
theorem parse_any (s : ByteArray) (w : World) (he : Env w) (hs : s.size ≤ 100000) :
    Calls Tryd.prog 29 #[.string s] w fun e w' => e = .returned (.tuple #[.agg #[.bool (parseR s).2.wr, .int .i64 (parseR s).2.key, .int .i64 (parseR s).2.val], .bool (parseR s).1]) ∧ Below w.heap.size w w' := by
  cases h : wordsOK s 2
  · rw [parseR_no h]; exact parse_no s w he hs h
  · exact parse_words s w he hs h
end Go.Proofs.YtjfegknokombgaaDoor
