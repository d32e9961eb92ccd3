/- What the transaction layer's statements ask first, call by call. Condition: the library's table of tens lies as it is laid. -/
import Derived.Test.YtlkdojcimlfmdaaDoorTxnK
import Derived.Test.YtlkdojcimlfmdaaDoorTxnN
import Derived.Test.YtlkdojcimlfmdaaDoorTokC
namespace Go.Proofs.YtlkdojcimlfmdaaDoor
set_option maxRecDepth 100000
open Go.RowKit

def spL : List OpV := [⟨false, 3, 0⟩, ⟨true, 3, 5⟩, ⟨false, 3, 5⟩]
theorem spL_ok : ∀ o ∈ spL, o.ok := by
  intro o ho
  simp [spL] at ho
  rcases ho with rfl | rfl | rfl <;> exact ⟨by unfold IntOk; decide, by unfold IntOk; decide⟩
theorem sp_keys : keysIn spL := by
  intro o ho
  simp [spL] at ho
  rcases ho with rfl | rfl | rfl <;> decide
theorem sp_reads : refReads spL = [⟨false, 3, 0⟩] := by decide
theorem sp_writes : refWrites spL = [⟨true, 3, 5⟩] := by decide
theorem sp_steady : steadyL spL = true := by decide
theorem sp_right : mayT 0 1 2 spL = true := by decide
theorem sp_text : txnTxt 0 1 2 spL = ⟨#[116, 120, 110, 32, 48, 32, 49, 32, 50, 10, 114, 32, 51, 32, 48, 10, 119, 32, 51, 32, 53, 10, 114, 32, 51, 32, 53, 10]⟩ := by
  unfold txnTxt headTxt opsTxt spL textB joinB joinTo
  have e0 : Lib.itoa 0 = [48] := by rw [itoa_digit (by decide) (by decide)]; rfl
  have e1 : Lib.itoa 1 = [49] := by rw [itoa_digit (by decide) (by decide)]; rfl
  have e2 : Lib.itoa 2 = [50] := by rw [itoa_digit (by decide) (by decide)]; rfl
  have e3 : Lib.itoa 3 = [51] := by rw [itoa_digit (by decide) (by decide)]; rfl
  have e5 : Lib.itoa 5 = [53] := by rw [itoa_digit (by decide) (by decide)]; rfl
  simp only [List.flatMap_cons, List.flatMap_nil, e0, e1, e2, e3, e5]
  rfl
/-- One operation in a slice of the call's own. -/
def One (w : World) (base : Nat) (v : Value) (o : OpV) : Prop := ∃ g cap, v = .slice (some ⟨g, 0, none⟩) 1 cap ∧ base ≤ g ∧ w.cell? ⟨g, 0, none⟩ = some (.bool o.wr) ∧ w.cell? ⟨g, 1, none⟩ = some (.int .i64 o.key) ∧ w.cell? ⟨g, 2, none⟩ = some (.int .i64 o.val)
theorem One.of {w : World} {base : Nat} {v : Value} {o : OpV} (h : Own w base v [o]) : One w base v o := by
  rcases h.split with ⟨_, h2⟩ | ⟨g, cap, rfl, hg⟩
  · cases h2
  · obtain ⟨b, off, e, c0, c1, c2⟩ := h.ops.at (k := 0) (by simp)
    cases e
    exact ⟨g, cap, rfl, hg, c0, c1, c2⟩
theorem sp_reads_any (va : Value) (w : World) (ha : Ops w va spL) :
    Calls Tryd.prog 11 #[.agg #[.int .i64 0, .int .i64 1, .int .i64 2, va]] w fun e w' => ∃ v, e = .returned v ∧ One w' w.heap.size v ⟨false, 3, 0⟩ ∧ Below w.heap.size w w' :=
  (reads_any 0 1 2 va spL w ha spL_ok (by decide)).mono fun e w' ⟨v, out, he, hO, hR, _, hb⟩ => ⟨v, he, One.of (by rw [hR.eq (refReads_rise sp_keys), sp_reads] at hO; exact hO), hb⟩
theorem sp_writes_any (va : Value) (w : World) (ha : Ops w va spL) :
    Calls Tryd.prog 12 #[.agg #[.int .i64 0, .int .i64 1, .int .i64 2, va]] w fun e w' => ∃ v, e = .returned v ∧ One w' w.heap.size v ⟨true, 3, 5⟩ ∧ Below w.heap.size w w' :=
  (writes_any 0 1 2 va spL w ha spL_ok (by decide)).mono fun e w' ⟨v, out, he, hO, hR, _, hb⟩ => ⟨v, he, One.of (by rw [hR.eq (refWrites_rise sp_keys), sp_writes] at hO; exact hO), hb⟩
theorem sp_steady_any (va : Value) (w : World) (ha : Ops w va spL) :
    Calls Tryd.prog 13 #[.agg #[.int .i64 0, .int .i64 1, .int .i64 2, va]] w fun e w' => e = .returned (.bool true) ∧ Below w.heap.size w w' := by
  have h := steady_any 0 1 2 va spL w ha spL_ok (by decide)
  rwa [sp_steady] at h
theorem sp_right_any (va : Value) (w : World) (ha : Ops w va spL) :
    Calls Tryd.prog 23 #[.agg #[.int .i64 0, .int .i64 1, .int .i64 2, va]] w fun e w' => e = .returned (.bool true) ∧ Below w.heap.size w w' := by
  have h := tright_any 0 1 2 va spL w ha
  rwa [sp_right] at h
theorem sp_text_any (va : Value) (w : World) (he : Ten w) (ha : Ops w va spL) :
    Calls Tryd.prog 24 #[.agg #[.int .i64 0, .int .i64 1, .int .i64 2, va]] w fun e w' => e = .returned (.string ⟨#[116, 120, 110, 32, 48, 32, 49, 32, 50, 10, 114, 32, 51, 32, 48, 10, 119, 32, 51, 32, 53, 10, 114, 32, 51, 32, 53, 10]⟩) ∧ Below w.heap.size w w' := by
  have h := ttext_any 0 1 2 va spL w he ha spL_ok (by unfold IntOk; decide) (by unfold IntOk; decide) (by unfold IntOk; decide) (by decide)
  rwa [sp_text] at h
theorem eqlOp (a b c a' b' c') (w : World) : Sem.run Tryd.prog (binOp .eql 26 (.agg #[.bool a, .int .i64 b, .int .i64 c]) (.agg #[.bool a', .int .i64 b', .int .i64 c'])) w = .ok (.bool (decide ((⟨a, b, c⟩ : OpV) = ⟨a', b', c'⟩))) w := by
  have hS : Tryd.prog.underlying 26 = some (.struct (Tryd.prog.fieldsOf 26)) := by kernel_rfl
  have hp : Tryd.prog.stoodInHeld 26 = false := by kernel_rfl
  have u3 := Tryd.underlying3
  have u4 := Tryd.underlying4
  rw [run_eql_struct, show (10000 : Nat) = 9999 + 1 from rfl, run_equalIn_agg w 9999 26 _ _ hS hp]
  simp only [Program.fieldsOf, Tryd.underlying26]
  go_simp
  by_cases h1 : a = a' <;> by_cases h2 : b = b' <;> by_cases h3 : c = c' <;> simp [h1, h2, h3]
end Go.Proofs.YtlkdojcimlfmdaaDoor
