/- The statement on where the histories that are kept stand, proved: of any uint8 the law answers true. Conditions: none beyond the row's own (the tables start as their texts lay them). -/
import Derived.Test.YtadihdkpoeibhaaGreatDoorCards
import Derived.Test.YtadihdkpoeibhaaGreatDoorTie
import Derived.Test.YtadihdkpoeibhaaGreatDoorPWholeCatalogue0
import Derived.Test.YtadihdkpoeibhaaGreatDoorPWholeCatalogue1
import Derived.Test.YtadihdkpoeibhaaGreatDoorPWholeCatalogue2
import Derived.Test.YtadihdkpoeibhaaGreatDoorPWholeCatalogue3
import Derived.Test.YtadihdkpoeibhaaGreatDoorPWholeCatalogue4
import Derived.Test.YtadihdkpoeibhaaGreatDoorPWholeCatalogue5
import Derived.Test.YtadihdkpoeibhaaGreatDoorPWholeCatalogue6
import Derived.Test.YtadihdkpoeibhaaGreatDoorPWholeCatalogue7
import Derived.Test.YtadihdkpoeibhaaGreatDoorPWholeCatalogue8
namespace Go.Proofs.YtadihdkpoeibhaaGreatDoor.lawWholeCatalogue
set_option maxRecDepth 100000
open Go.ChangeShapes Go.WideShapes Go.ChangeAt Go.RowKit Go.ChangeMaps

theorem contract (H : Type) (enc : TypeId × Value → H) (W : World) (base : Nat) (args : Array Value) (ds gs : List (DataW H)) (before : List MemPlace)
    (hval : ∀ (j : Nat) t v, Tryz.f8.params[j]? = some t → args[j]? = some v → Value.okWide Tryz.prog W .any base t v)
    (hW : DataW.Whole enc Tryz.prog Tryz.f8.params.toList Rows.wholeCatalogueSpec.vars false W args.toList ds gs before) (hL : laidMetH Tryz.prog Rows.wholeCatalogueRow.laid W) :
    Calls Tryz.prog 8 args W fun e W' => ∃ v, e = .returned v ∧ Rows.wholeCatalogueSpec.post enc Tryz.prog Tryz.f8 false true false false W args v W' := by
  have hW' := hW
  obtain ⟨p, q, hA0, _, _, _, _⟩ := hW
  have hA : DataW.TrodAll enc Tryz.prog W 0 (fun _ => true) true Tryz.f8.params.toList args.toList ds p := hA0
  rw [Tryz.params8] at hA hval
  obtain ⟨v0, vs0, d0, ds0, p0, q0, hargs, rfl, rfl, h0, r0⟩ := trodAll_cons hA
  obtain ⟨rfl, rfl, rfl⟩ := trodAll_nil r0
  obtain rfl : args = #[v0] := by cases args; simp_all
  obtain ⟨yz, rfl, rfl, rfl, wy⟩ := open_int Tryz.underlying5 (hval 0 5 v0 rfl rfl) h0
  have hby := bounds_u8 wy
  obtain ⟨y, rfl⟩ := Int.eq_ofNat_of_zero_le hby.1
  refine (wcat10_walk y W (by omega) (tab_of_two hL) (kinds_of_two hL)).mono fun e W' ⟨he, hbe⟩ => ?_
  exact ⟨_, he, law_post hW' rfl (of_decide_eq_true (by kernel_rfl)) hbe rfl rfl rfl rfl⟩

theorem laid_met (os : Os) : laidMet Tryz.prog Rows.wholeCatalogueRow.laid ((laidWorldTK os).forCall (fun _ _ => 0) ⟨#[], #[.int .u8 0], []⟩).memory :=
  laidMet_of_run' 8 (by kernel_rfl) (by kernel_rfl)
theorem reads (os : Os) {H : Type} (enc : TypeId × Value → H) : ∃ places, DataW.whole enc Tryz.prog ((laidWorldTK os).forCall (fun _ _ => 0) ⟨#[], #[.int .u8 0], []⟩).memory Tryz.f8.params.toList Rows.wholeCatalogueSpec.vars false #[Value.int .u8 0].toList 8 = some ([.lit (.int .u8 0)], [], places) :=
  ⟨[], by kernel_rfl⟩

set_option maxRecDepth 100000 in
theorem lifted (os : Os) (started : os.Started) (H : Type) (enc : TypeId × Value → H) (F : Stop.Interp) :
    ReturnsInHanded {} Tryz.checked os 8 .any ((OpenSpec.ofChange Rows.wholeCatalogueSpec).preRow enc Tryz.prog Tryz.f8 Rows.wholeCatalogueRow.domain false Rows.wholeCatalogueRow.laid) (((OpenSpec.ofChange Rows.wholeCatalogueSpec).at F).post enc Tryz.prog Tryz.f8 false true false false) := by
  obtain ⟨places, hx⟩ := reads os enc
  refine returnsInHanded_of_row (C := Tryz.checked) (s := OpenSpec.ofChange Rows.wholeCatalogueSpec) own started (by kernel_rfl) Tryz.func8
    (witness_row_at (enc := enc) (C := Tryz.checked) false (laidWorldTK os) #[.int .u8 0] rfl (by kernel_rfl) (by kernel_rfl) (by kernel_rfl)
      (OpenSpec.preRow_of_cond 8 hx (by kernel_rfl) (fun k hk => by cases hk) (by kernel_rfl) (laid_met os))) ?_
  intro W base args ds gs before hval hW _ _ _ hL _ _
  exact contract H enc W base args ds gs before hval hW hL

theorem said : Rows.WholeCatalogueSaid :=
  OpenClaim.holds_of_cond 8 Tryz.f8 rfl rfl rfl rfl rfl rfl rfl ⟨rfl, rfl, rfl, rfl, rfl⟩ rfl rfl rfl rfl rfl (by kernel_rfl) Tryz.func8 (by kernel_rfl)
    (of_decide_eq_true (by kernel_rfl)) (by unfold Func.isWrapper; first | (rw [if_pos (by decide +kernel)]; kernel_rfl) | (rw [if_neg (by decide +kernel)]; exact ⟨rfl, rfl⟩))
    (fun os started H enc _ F => by rw [OpenClaim.pre_eq_preRow]; exact lifted os started H enc F)

theorem plain (b : Bool) (hlk : b = Tryz.pinned.checked.prog.looks []) (f : FuncId) (fn : Func) (hf : Tryz.pinned.checked.prog.funcNamed "burgage/burgagetop.WholeCatalogue" = some f) (hfn : Tryz.pinned.checked.prog.funcs[f]? = some fn) :
    b = Tryz.pinned.checked.prog.looks [] ∧ ∀ (j : Nat) t, fn.params[j]? = some t → Tryz.pinned.checked.prog.wantsStandIn t = false := by
  obtain rfl : f = 8 := Option.some.inj ((show Tryz.prog.funcNamed "burgage/burgagetop.WholeCatalogue" = some 8 by kernel_rfl).symm.trans hf) |>.symm
  obtain rfl : fn = Tryz.f8 := (Option.some.inj (Tryz.func8.symm.trans hfn)).symm
  refine ⟨hlk, fun j t ht => ?_⟩
  have hall : ∀ t ∈ Tryz.f8.params.toList, Tryz.prog.wantsStandIn t = false := of_decide_eq_true (by kernel_rfl)
  exact hall t (Array.mem_toList_iff.2 (Array.mem_of_getElem? ht))

theorem card : Rows.WholeCatalogueCardSaid :=
  Claim7.holds_tied_plain_at .later [] _ _ _ _ said (fun _ h => by cases h) (by kernel_rfl) (fun _ h => by cases h) wholeCatalogue_row_tie rfl ⟨rfl, rfl⟩ (by kernel_rfl) rfl (plain _ (by kernel_rfl)) (by kernel_rfl)
end Go.Proofs.YtadihdkpoeibhaaGreatDoor.lawWholeCatalogue
