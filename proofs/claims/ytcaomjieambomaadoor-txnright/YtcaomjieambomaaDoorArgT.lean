/- An argument that is a transaction, or a slice of transactions, opened: what its cells hold. -/
import Derived.Test.YtcaomjieambomaaDoorArgZ
import Derived.Test.YtcaomjieambomaaDoorTxZ
import Derived.Lib.SmallJoins
namespace Go.Proofs.YtcaomjieambomaaDoor
set_option maxRecDepth 100000
open Go.ChangeShapes Go.WideShapes Go.ChangeAt Go.RowKit Go.Deep

theorem cellsTxn : Tryd.prog.cellsOf 26 = 4 := by kernel_rfl
theorem txn_of_trod {H : Type} {enc : TypeId × Value → H} {W : World} {base : Nat} {v : Value} {d : DataW H} {p : List MemPlace}
    (hval : Value.okWide Tryd.prog W .any base 26 v) (h : DataW.Trod enc Tryd.prog W 0 (fun _ => true) true 26 v d p) :
    ∃ s b c va l, v = .agg #[.int .i64 s, .int .i64 b, .int .i64 c, va] ∧ Ops W va l ∧ (IntOk s ∧ IntOk b ∧ IntOk c) ∧ ∀ o ∈ l, o.ok := by
  obtain ⟨v0, v1, v2, v3, y0, y1, y2, y3, n, rfl, _, _, h0, h1, h2, h3⟩ := Joins.open_agg4 Tryd.underlying26 (by kernel_rfl) cellsTxn hval h
  obtain ⟨s, e0, _, w0⟩ := DataW.trod_int Tryd.underlying3 h0
  obtain ⟨b, e1, _, w1⟩ := DataW.trod_int Tryd.underlying3 h1
  obtain ⟨c, e2, _, w2⟩ := DataW.trod_int Tryd.underlying3 h2
  simp at e0 e1 e2
  subst e0; subst e1; subst e2
  obtain ⟨l, hl, hok⟩ := ops_of_cells h3
  exact ⟨s, b, c, v3, l, rfl, hl, ⟨bounds_i64 w0, bounds_i64 w1, bounds_i64 w2⟩, hok⟩
end Go.Proofs.YtcaomjieambomaaDoor
