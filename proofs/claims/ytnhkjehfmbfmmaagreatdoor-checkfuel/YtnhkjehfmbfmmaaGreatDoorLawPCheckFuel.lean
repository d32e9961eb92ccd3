/- The statement on the fuel of a check, proved: of any slice of transactions and any two uint16 the law answers true. Conditions: none beyond the row's own (the library's variables and the table of the levels start as their texts lay them). -/
import Derived.SizedLaws
import Derived.Test.YtnhkjehfmbfmmaaGreatDoorCards
import Derived.Test.YtnhkjehfmbfmmaaGreatDoorTie
import Derived.Test.YtnhkjehfmbfmmaaGreatDoorPCheckFuel0
import Derived.Test.YtnhkjehfmbfmmaaGreatDoorPCheckFuel1
import Derived.Test.YtnhkjehfmbfmmaaGreatDoorPCheckFuel2
import Derived.Test.YtnhkjehfmbfmmaaGreatDoorPCheckFuel3
import Derived.Test.YtnhkjehfmbfmmaaGreatDoorPCheckFuel4
import Derived.Test.YtnhkjehfmbfmmaaGreatDoorPCheckFuel5
import Derived.Test.YtnhkjehfmbfmmaaGreatDoorPCheckFuel6
import Derived.Test.YtnhkjehfmbfmmaaGreatDoorPCheckFuel7
import Derived.Test.YtnhkjehfmbfmmaaGreatDoorPCheckFuel8
import Derived.Test.YtnhkjehfmbfmmaaGreatDoorPCheckFuel9
namespace Go.Proofs.YtnhkjehfmbfmmaaGreatDoor.lawCheckFuel
set_option maxRecDepth 100000
open Go.ChangeShapes Go.WideShapes Go.ChangeAt Go.RowKit Go.ChangeMaps

theorem contract (H : Type) (enc : TypeId × Value → H) (W : World) (base : Nat) (args : Array Value) (ds gs : List (DataW H)) (before : List MemPlace)
    (hval : ∀ (j : Nat) t v, Tryz.f5.params[j]? = some t → args[j]? = some v → Value.okWide Tryz.prog W .any base t v)
    (hW : DataW.Whole enc Tryz.prog Tryz.f5.params.toList Rows.checkFuelSpec.vars false W args.toList ds gs before) (hsz : (DataW.weightsEach Tryz.prog (Tryz.f5.params.toList ++ (OpenSpec.ofChange Rows.checkFuelSpec).bare.plain.varTypes Tryz.prog) (ds ++ gs)).all (· ≤ reachBytes) = true) (hL : laidMetH Tryz.prog Rows.checkFuelRow.laid W) (hsh : W.ShapedOpen Tryz.prog) :
    Calls Tryz.prog 5 args W fun e W' => ∃ v, e = .returned v ∧ Rows.checkFuelSpec.post enc Tryz.prog Tryz.f5 false true false false W args v W' := by
  have hW' := hW
  obtain ⟨p, q, hA0, _, _, _, _⟩ := hW
  have hA : DataW.TrodAll enc Tryz.prog W 0 (fun _ => true) true Tryz.f5.params.toList args.toList ds p := hA0
  rw [Tryz.params5] at hA hval hsz
  obtain ⟨v0, vs0, d0, ds0, p0, q0, hargs, rfl, rfl, h0, r0⟩ := trodAll_cons hA
  obtain ⟨v1, vs1, d1, ds1, p1, q1, rfl, rfl, rfl, h1, r1⟩ := trodAll_cons r0
  obtain ⟨v2, vs2, d2, ds2, p2, q2, rfl, rfl, rfl, h2, r2⟩ := trodAll_cons r1
  obtain ⟨rfl, rfl, rfl⟩ := trodAll_nil r2
  obtain rfl : args = #[v0, v1, v2] := by cases args; simp_all
  have hwt := fun n hn => of_decide_eq_true (List.all_eq_true.1 hsz n (DataW.weights_mem_each (j := 0) (t := 22) rfl rfl n hn))
  obtain ⟨h, hTh, okh, shh⟩ := txns_of_trod (hval 0 22 v0 rfl rfl) h0 hwt
  obtain ⟨az, rfl, rfl, rfl, wa⟩ := open_int Tryz.underlying67 (hval 1 67 v1 rfl rfl) h1
  have hba := bounds_u16 wa
  obtain ⟨a, rfl⟩ := Int.eq_ofNat_of_zero_le hba.1
  obtain ⟨bz, rfl, rfl, rfl, wb⟩ := open_int Tryz.underlying67 (hval 2 67 v2 rfl rfl) h2
  have hbb := bounds_u16 wb
  obtain ⟨b, rfl⟩ := Int.eq_ofNat_of_zero_le hbb.1
  refine (cfuel25_walk v0 h a b W (by omega) (by omega) (env_of_y hL hsh) (tab_of_y hL) (kinds_of_y hL) hTh okh shh).mono fun e W' ⟨he, hbe⟩ => ?_
  exact ⟨_, he, law_post hW' rfl (of_decide_eq_true (by kernel_rfl)) hbe rfl rfl rfl rfl⟩

theorem laid_met (os : Os) : laidMet Tryz.prog Rows.checkFuelRow.laid ((laidWorldY os).forCall (fun _ _ => 0) ⟨#[], #[.slice none 0 0, .int .u16 0, .int .u16 0], []⟩).memory :=
  laidMet.of_heap (w := laidWorldY os) rfl (laidY os)
theorem reads (os : Os) {H : Type} (enc : TypeId × Value → H) : ∃ places, DataW.whole enc Tryz.prog ((laidWorldY os).forCall (fun _ _ => 0) ⟨#[], #[.slice none 0 0, .int .u16 0, .int .u16 0], []⟩).memory Tryz.f5.params.toList Rows.checkFuelSpec.vars false #[Value.slice none 0 0, .int .u16 0, .int .u16 0].toList 8 = some ([.nil, .lit (.int .u16 0), .lit (.int .u16 0)], [], places) :=
  ⟨[], by kernel_rfl⟩

set_option maxRecDepth 100000 in
theorem lifted (os : Os) (started : os.Started) (H : Type) (enc : TypeId × Value → H) (F : Stop.Interp) :
    ReturnsInHanded {} Tryz.checked os 5 .any ((OpenSpec.ofChange Rows.checkFuelSpec).preRow enc Tryz.prog Tryz.f5 Rows.checkFuelRow.domain false Rows.checkFuelRow.laid) (((OpenSpec.ofChange Rows.checkFuelSpec).at F).post enc Tryz.prog Tryz.f5 false true false false) := by
  obtain ⟨places, hx⟩ := reads os enc
  refine returnsInHanded_of_row (C := Tryz.checked) (s := OpenSpec.ofChange Rows.checkFuelSpec) own started (by kernel_rfl) Tryz.func5
    (witness_row_at (enc := enc) (C := Tryz.checked) false (laidWorldY os) #[.slice none 0 0, .int .u16 0, .int .u16 0] rfl (by kernel_rfl) (by kernel_rfl) (by kernel_rfl)
      (OpenSpec.preRow_of_cond 8 hx (by kernel_rfl) (fun k hk => by cases hk) (by kernel_rfl) (laid_met os))) ?_
  intro W base args ds gs before hval hW _ _ hsz hL hsh _
  exact contract H enc W base args ds gs before hval hW hsz hL hsh

set_option maxHeartbeats 0 in
theorem said : Rows.CheckFuelSaid :=
  OpenClaim.holds_of_cond 5 Tryz.f5 rfl rfl rfl rfl rfl rfl rfl ⟨rfl, rfl, rfl, rfl, rfl⟩ rfl rfl rfl rfl rfl (by as_aux_lemma => kernel_rfl) Tryz.func5 (by
      unfold joinedFacts
      repeat' (with_reducible refine Bool.and_eq_true_iff.2 ⟨?_, ?_⟩)
      all_goals (as_aux_lemma => kernel_rfl))
    (of_decide_eq_true (by as_aux_lemma => kernel_rfl)) (by unfold Func.isWrapper; first | (rw [if_pos (by decide +kernel)]; kernel_rfl) | (rw [if_neg (by decide +kernel)]; exact ⟨rfl, rfl⟩))
    (fun os started H enc _ F => by rw [OpenClaim.pre_eq_preRow]; exact lifted os started H enc F)

theorem plain (b : Bool) (hlk : b = Tryz.pinned.checked.prog.looks []) (f : FuncId) (fn : Func) (hf : Tryz.pinned.checked.prog.funcNamed "burgage/burgagelaw25.CheckFuel" = some f) (hfn : Tryz.pinned.checked.prog.funcs[f]? = some fn) :
    b = Tryz.pinned.checked.prog.looks [] ∧ ∀ (j : Nat) t, fn.params[j]? = some t → Tryz.pinned.checked.prog.wantsStandIn t = false := by
  obtain rfl : f = 5 := Option.some.inj ((show Tryz.prog.funcNamed "burgage/burgagelaw25.CheckFuel" = some 5 by kernel_rfl).symm.trans hf) |>.symm
  obtain rfl : fn = Tryz.f5 := (Option.some.inj (Tryz.func5.symm.trans hfn)).symm
  refine ⟨hlk, fun j t ht => ?_⟩
  have hall : ∀ t ∈ Tryz.f5.params.toList, Tryz.prog.wantsStandIn t = false := of_decide_eq_true (by kernel_rfl)
  exact hall t (Array.mem_toList_iff.2 (Array.mem_of_getElem? ht))

set_option maxHeartbeats 0 in
theorem card : Rows.CheckFuelCardSaid :=
  Claim7.holds_tied_plain_at .later [] _ _ _ _ said (fun _ h => by cases h) (by as_aux_lemma => kernel_rfl) (fun _ h => by cases h) checkFuel_row_tie rfl ⟨rfl, rfl⟩ (by as_aux_lemma => kernel_rfl) rfl (plain _ (by as_aux_lemma => kernel_rfl)) (by as_aux_lemma => kernel_rfl)
end Go.Proofs.YtnhkjehfmbfmmaaGreatDoor.lawCheckFuel
