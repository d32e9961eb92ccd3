/- The walks of the library's Clone at the program's types, and of Copy of histories. Conditions: slices' cells are known. -/
import Derived.Test.YtlkdojcimlfmdaaHisT
import Derived.Test.YtlkdojcimlfmdaaTxnD
import Derived.Test.YtlkdojcimlfmdaaAppS
namespace Go.Proofs.Ytlkdojcimlfmdaa
set_option maxRecDepth 100000
open Go.RowKit

theorem infoTxn : (Try.prog.info? 29).map (fun i => (i.zero, i.size, i.bytes)) = some (some (.agg #[.int .i64 0, .int .i64 0, .int .i64 0, .slice none 0 0]), 4, 48) := by kernel_rfl
/-- A row of transactions that the call itself made. -/
def OwnT (w : World) (base : Nat) (v : Value) (h : List TxnV) : Prop := w.ownsRow base 29 4 v h.length (txV h)
theorem txV_one {w : World} {v : Value} {h : List TxnV} (hT : Txns w v h) : ∀ u ∈ txV h, u.oneCell' = true := by
  intro u hu
  unfold txV at hu
  rw [List.mem_flatMap] at hu
  obtain ⟨t, ht, hu⟩ := hu
  obtain ⟨a, c, hv, _⟩ := (hT.2 t ht).form
  simp at hu
  rcases hu with rfl | rfl | rfl | rfl
  · rfl
  · rfl
  · rfl
  · rw [hv]; rfl
theorem OwnT.row {w : World} {base : Nat} {v : Value} {h : List TxnV} (hO : OwnT w base v h) : Row w v h.length 4 (txV h) := Row.of_owns hO
theorem nilO (w : World) : Sem.run Try.prog (binOp .eql 27 (.slice none 0 0) (.slice none 0 0)) w = .ok (.bool true) w := by kernel_rfl
theorem someO (w : World) (a : Addr) (n c : Nat) : Sem.run Try.prog (binOp .eql 27 (.slice (some a) n c) (.slice none 0 0)) w = .ok (.bool false) w := by kernel_rfl
theorem nilT (w : World) : Sem.run Try.prog (binOp .eql 22 (.slice none 0 0) (.slice none 0 0)) w = .ok (.bool true) w := by kernel_rfl
theorem someT (w : World) (a : Addr) (n c : Nat) : Sem.run Try.prog (binOp .eql 22 (.slice (some a) n c) (.slice none 0 0)) w = .ok (.bool false) w := by kernel_rfl
set_option maxHeartbeats 4000000 in
theorem clone_ops (va : Value) (l : List OpV) (w : World) (ha : Ops w va l) (hl : l.length ≤ 100000) :
    Calls Try.prog 34 #[va] w fun e w' => ∃ v, e = .returned v ∧ Own w' w.heap.size v l ∧ Below w.heap.size w w' := by
  obtain ⟨i0, hi, hz0, hz1, hz2⟩ := info_parts infoOp
  obtain ⟨ao, cap, rfl, hal⟩ := ha.form
  cases ao with
  | none =>
    have h0 : l = [] := by
      obtain ⟨_, ao', cap', e, _, hno, _⟩ := ha
      cases e
      exact List.eq_nil_of_length_eq_zero (hno rfl).1
    subst h0
    have hc0 : cap = 0 := by
      obtain ⟨_, ao', cap', e, _, hno, _⟩ := ha
      cases e
      exact (hno rfl).2
    subst hc0
    have e1 := nilO
    have e2 := fun w a n c => someO w a n c
    go_enter Try.func34, Try.ntmps34
    go_wp2_with fail
    go_ret
    exact ⟨_, rfl, Own.nil _ _, Below.refl _ _⟩
  | some ad =>
    have e1 := nilO
    have e2 := fun w a n c => someO w a n c
    go_enter Try.func34, Try.ntmps34
    go_wp2_with (first | (at_builtin; refine wpList_append_row rfl _ _ 27 rfl w.heap.size 31 i0 (.agg #[.bool false, .int .i64 0, .int .i64 0]) 3 24 Try.underlying27 hi hz0 hz1 hz2 rfl (by decide) _ 0 [] rfl (World.ownsRow_lit _ _ _ (Nat.le_refl _) (by decide) rfl) _ l.length _ rfl (ha.below ((Below.refl _ _).alloc (Nat.le_refl _) _)) ?d1 ?d2 ?d3 ?d4 ?_) | go_in)
    case d1 => exact opV_one _
    case d2 => unfold maxLen; omega
    case d3 => omega
    case d4 => first | omega | simp
    intro v5 w5 hown5 hg5
    have hO5 : Own w5 w.heap.size v5 l := by
      refine ⟨by rw [opV_len], ?_⟩
      have := hown5.2
      simpa using this
    have hb5 := ((Below.refl w.heap.size w).alloc (Nat.le_refl _) (.cells #[] 31)).grown hg5 (by simp) (by intro k hk; simp [Value.ownBlock] at hk; omega)
    clear hown5 hg5
    go_wp2_with fail
    go_ret
    exact ⟨_, rfl, hO5, hb5⟩
set_option maxHeartbeats 4000000 in
theorem clone_txns (va : Value) (h : List TxnV) (w : World) (ha : Txns w va h) (hl : h.length ≤ 100000) :
    Calls Try.prog 33 #[va] w fun e w' => ∃ v, e = .returned v ∧ OwnT w' w.heap.size v h ∧ Below w.heap.size w w' := by
  obtain ⟨i0, hi, hz0, hz1, hz2⟩ := info_parts infoTxn
  obtain ⟨ao, cap, rfl, hal⟩ := ha.form
  cases ao with
  | none =>
    have h0 : h = [] := by
      obtain ⟨⟨_, ao', cap', e, _, hno, _⟩, _⟩ := ha
      cases e
      exact List.eq_nil_of_length_eq_zero (hno rfl).1
    subst h0
    have hc0 : cap = 0 := by
      obtain ⟨⟨_, ao', cap', e, _, hno, _⟩, _⟩ := ha
      cases e
      exact (hno rfl).2
    subst hc0
    have e1 := nilT
    have e2 := fun w a n c => someT w a n c
    go_enter Try.func33, Try.ntmps33
    go_wp2_with fail
    go_ret
    exact ⟨_, rfl, ⟨rfl, .inl ⟨rfl, rfl⟩⟩, Below.refl _ _⟩
  | some ad =>
    have HO1 := Lib.hid (txV_one ha)
    have e1 := nilT
    have e2 := fun w a n c => someT w a n c
    go_enter Try.func33, Try.ntmps33
    go_wp2_with (first | (at_builtin; refine wpList_append_row rfl _ _ 22 rfl w.heap.size 29 i0 (.agg #[.int .i64 0, .int .i64 0, .int .i64 0, .slice none 0 0]) 4 48 Try.underlying22 hi hz0 hz1 hz2 rfl (by decide) _ 0 [] rfl (World.ownsRow_lit _ _ _ (Nat.le_refl _) (by decide) rfl) _ h.length _ rfl (ha.1.below ((Below.refl _ _).alloc (Nat.le_refl _) _)) ?d1 ?d2 ?d3 ?d4 ?_) | go_in)
    case d1 => exact HO1.out
    case d2 => unfold maxLen; omega
    case d3 => omega
    case d4 => first | omega | simp
    intro v5 w5 hown5 hg5
    have hO5 : OwnT w5 w.heap.size v5 h := by
      refine ⟨by rw [txV_len], ?_⟩
      have := hown5.2
      simpa using this
    have hb5 := ((Below.refl w.heap.size w).alloc (Nat.le_refl _) (.cells #[] 29)).grown hg5 (by simp) (by intro k hk; simp [Value.ownBlock] at hk; omega)
    clear hown5 hg5
    go_wp2_with fail
    go_ret
    exact ⟨_, rfl, hO5, hb5⟩
end Go.Proofs.Ytlkdojcimlfmdaa
