/- The program's table of the levels, as a row lists it, lies in memory; a world for the witness of such a row. -/
import Derived.Test.YtadihdkpoeibhaaDoorLaw
import Derived.Test.YtadihdkpoeibhaaDoorLevB
import Derived.Lib.LaidTab
import Derived.OpenShut
import Derived.ChangeSame
namespace Go.Proofs.YtadihdkpoeibhaaDoor
set_option maxRecDepth 100000
open Go.ChangeShapes Go.WideShapes Go.ChangeAt Go.RowKit

theorem gKinds : Tryd.prog.globalNamed "burgage/level.kinds" = some 0 := by kernel_rfl
theorem gKindsType : (Tryd.prog.globals[0]?).map (·.type) = some 55 := by kernel_rfl
theorem cellsKind : Tryd.prog.cellsOf 54 = 2 := by kernel_rfl
theorem cellsStr : Tryd.prog.cellsOf 9 = 1 := by kernel_rfl
theorem cellsInt : Tryd.prog.cellsOf 3 = 1 := by kernel_rfl
theorem laidKinds {H : Type} : (Rows.laid_burgage_level_kinds : DataW H) = .agg ((List.range 12).map fun k => .agg [.lit (.string (nameL.getD k [])), .lit (.int .i64 (askAt k))]) := rfl
theorem kinds_of {W : World} (h : laidMetH Tryd.prog [("burgage/level.kinds", Rows.laid_burgage_level_kinds)] W) : Kinds W := by
  obtain ⟨ps, ⟨g', t', cs, fuel, p, q, hg', ht', hvar, hd, _, _⟩, _⟩ := h
  obtain rfl := Option.some.inj (gKinds.symm.trans hg')
  obtain rfl := Option.some.inj (gKindsType.symm.trans ht')
  obtain ⟨xs, m, rfl, hx, hlen, hxl, hat⟩ := DataW.trod_array Tryd.underlying55 hd
  intro k hk
  have h1 := hat k hk
  have hxk : xs[k]? = some xs[k] := List.getElem?_eq_getElem (by omega)
  rw [hxk, cellsKind] at h1
  obtain ⟨y0, y1, n, hy, hcl, h2, h3⟩ := trod_struct2 Tryd.underlying54 h1
  have hdat := congrArg Prod.fst hx
  rw [laidKinds] at hdat
  simp only [DataW.agg.injEq] at hdat
  have hk2 := congrArg (·[k]?) hdat
  simp only [List.getElem?_map, hxk, Option.map_some, List.getElem?_range hk, hy, Option.some.injEq, DataW.agg.injEq, List.cons.injEq, and_true] at hk2
  obtain ⟨e0, e1⟩ := hk2
  rw [cellsStr] at h2
  rw [cellsInt] at h3
  obtain ⟨s, c0, rfl, _⟩ := DataW.trod_string Tryd.underlying9 h2
  obtain ⟨z, c1, rfl, _⟩ := DataW.trod_int Tryd.underlying3 h3
  simp only [DataW.lit.injEq, Lit.string.injEq, Lit.int.injEq, true_and] at e0 e1
  have hs : s = nameAt k := by unfold nameAt; rw [e0]
  subst hs
  subst e1
  constructor
  · rw [World.var?_cell gKinds hvar]
    have := congrArg (·[0]?) c0
    simpa [List.getElem?_take, List.getElem?_drop] using this
  · rw [World.var?_cell gKinds hvar]
    have := congrArg (·[0]?) c1
    simpa [List.getElem?_take, List.getElem?_drop] using this
/-- A datum's cells, strings too. -/
def leafS : DataW Unit → List Value
  | .lit (.int k n) => [.int k n]
  | .lit (.bool b) => [.bool b]
  | .lit (.string l) => [.string ⟨l.toArray⟩]
  | _ => []
def leafSS : DataW Unit → List Value
  | .agg ds => ds.flatMap fun d => match d with
    | .agg es => es.flatMap leafS
    | d => leafS d
  | d => leafS d
def setS (h : Array Obj) (g : Nat) (d : DataW Unit) : Array Obj := h.modify g fun
  | .cells _ t frozen => .cells (leafSS d).toArray t frozen
  | o => o
/-- A world in which the table holds what its initialiser lays. -/
noncomputable def laidWorldK (os : Os) : World :=
  { World.holding Tryd.prog os ⟨#[], #[], []⟩ with heap := setS (World.holding Tryd.prog os ⟨#[], #[], []⟩).heap 0 Rows.laid_burgage_level_kinds }
end Go.Proofs.YtadihdkpoeibhaaDoor
