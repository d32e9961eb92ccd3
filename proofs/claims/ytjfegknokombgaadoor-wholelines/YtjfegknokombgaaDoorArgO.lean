/- An argument that is an operation, opened: its three fields. -/
import Derived.Test.YtjfegknokombgaaDoorLaw
import Derived.Test.YtjfegknokombgaaDoorOpE
import Derived.Lib.SmallJoins
namespace Go.Proofs.YtjfegknokombgaaDoor
set_option maxRecDepth 100000
open Go.ChangeShapes Go.WideShapes Go.ChangeAt Go.RowKit

theorem cellsOp : Tryd.prog.cellsOf 52 = 3 := by kernel_rfl
theorem op_of_trod {H : Type} {enc : TypeId × Value → H} {W : World} {base : Nat} {v : Value} {d : DataW H} {p : List MemPlace}
    (hval : Value.okWide Tryd.prog W .any base 52 v) (h : DataW.Trod enc Tryd.prog W 0 (fun _ => true) true 52 v d p) :
    ∃ wr key val, v = .agg #[.bool wr, .int .i64 key, .int .i64 val] ∧ IntOk key ∧ IntOk val := by
  obtain ⟨v0, v1, v2, y0, y1, y2, n, rfl, _, _, h0, h1, h2⟩ := Joins.open_agg3 Tryd.underlying52 (by kernel_rfl) cellsOp hval h
  obtain ⟨b, e0, _⟩ := DataW.trod_bool Tryd.underlying4 h0
  obtain ⟨k, e1, _, w1⟩ := DataW.trod_int Tryd.underlying3 h1
  obtain ⟨x, e2, _, w2⟩ := DataW.trod_int Tryd.underlying3 h2
  simp at e0 e1 e2
  subst e0; subst e1; subst e2
  exact ⟨b, k, x, rfl, bounds_i64 w1, bounds_i64 w2⟩
theorem texts_walk (wr : Bool) (key val : Int) (w : World) (he : Env w) (hk : IntOk key) (hv : IntOk val) :
    Calls Tryd.prog 8 #[.agg #[.bool wr, .int .i64 key, .int .i64 val]] w fun e w' => e = .returned (.bool true) ∧ Below w.heap.size w w' := by
  cases wr
  · exact texts_false key val w he hk hv
  · exact texts_true key val w he hk hv
end Go.Proofs.YtjfegknokombgaaDoor
