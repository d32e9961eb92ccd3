/- The statement that the fuel told is enough, proved: of any slice of transactions the law answers true. Conditions: none beyond the row's own (the library's variables and the table of the levels start as their texts lay them). -/
import Derived.SizedLaws
import Derived.Test.YtnhkjehfmbfmmaaGreatDoorCards
import Derived.Test.YtnhkjehfmbfmmaaGreatDoorTie
import Derived.Test.YtnhkjehfmbfmmaaGreatDoorPWholeEnough0
import Derived.Test.YtnhkjehfmbfmmaaGreatDoorPWholeEnough1
import Derived.Test.YtnhkjehfmbfmmaaGreatDoorPWholeEnough2
import Derived.Test.YtnhkjehfmbfmmaaGreatDoorPWholeEnough3
import Derived.Test.YtnhkjehfmbfmmaaGreatDoorPWholeEnough4
import Derived.Test.YtnhkjehfmbfmmaaGreatDoorPWholeEnough5
import Derived.Test.YtnhkjehfmbfmmaaGreatDoorPWholeEnough6
import Derived.Test.YtnhkjehfmbfmmaaGreatDoorPWholeEnough7
import Derived.Test.YtnhkjehfmbfmmaaGreatDoorPWholeEnough8
import Derived.Test.YtnhkjehfmbfmmaaGreatDoorPWholeEnough9
namespace Go.Proofs.YtnhkjehfmbfmmaaGreatDoor.lawWholeEnough
set_option maxRecDepth 100000
open Go.ChangeShapes Go.WideShapes Go.ChangeAt Go.RowKit Go.ChangeMaps

theorem contract (H : Type) (enc : TypeId × Value → H) (W : World) (base : Nat) (args : Array Value) (ds gs : List (DataW H)) (before : List MemPlace)
    (hval : ∀ (j : Nat) t v, Tryz.f9.params[j]? = some t → args[j]? = some v → Value.okWide Tryz.prog W .any base t v)
    (hW : DataW.Whole enc Tryz.prog Tryz.f9.params.toList Rows.wholeEnoughSpec.vars false W args.toList ds gs before) (hsz : (DataW.weightsEach Tryz.prog (Tryz.f9.params.toList ++ (OpenSpec.ofChange Rows.wholeEnoughSpec).bare.plain.varTypes Tryz.prog) (ds ++ gs)).all (· ≤ reachBytes) = true) (hL : laidMetH Tryz.prog Rows.wholeEnoughRow.laid W) (hsh : W.ShapedOpen Tryz.prog) :
    Calls Tryz.prog 9 args W fun e W' => ∃ v, e = .returned v ∧ Rows.wholeEnoughSpec.post enc Tryz.prog Tryz.f9 false true false false W args v W' := by
  have hW' := hW
  obtain ⟨p, q, hA0, _, _, _, _⟩ := hW
  have hA : DataW.TrodAll enc Tryz.prog W 0 (fun _ => true) true Tryz.f9.params.toList args.toList ds p := hA0
  rw [Tryz.params9] at hA hval hsz
  obtain ⟨v0, vs0, d0, ds0, p0, q0, hargs, rfl, rfl, h0, r0⟩ := trodAll_cons hA
  obtain ⟨rfl, rfl, rfl⟩ := trodAll_nil r0
  obtain rfl : args = #[v0] := by cases args; simp_all
  have hwt := fun n hn => of_decide_eq_true (List.all_eq_true.1 hsz n (DataW.weights_mem_each (j := 0) (t := 22) rfl rfl n hn))
  obtain ⟨h, hTh, okh, shh⟩ := txns_of_trod (hval 0 22 v0 rfl rfl) h0 hwt
  refine (wenough13_walk v0 h W (env_of_y hL hsh) (tab_of_y hL) (kinds_of_y hL) hTh okh shh).mono fun e W' ⟨he, hbe⟩ => ?_
  exact ⟨_, he, law_post hW' rfl (of_decide_eq_true (by kernel_rfl)) hbe rfl rfl rfl rfl⟩

theorem laid_met (os : Os) : laidMet Tryz.prog Rows.wholeEnoughRow.laid ((laidWorldY os).forCall (fun _ _ => 0) ⟨#[], #[.slice none 0 0], []⟩).memory :=
  laidMet.of_heap (w := laidWorldY os) rfl (laidY os)
theorem reads (os : Os) {H : Type} (enc : TypeId × Value → H) : ∃ places, DataW.whole enc Tryz.prog ((laidWorldY os).forCall (fun _ _ => 0) ⟨#[], #[.slice none 0 0], []⟩).memory Tryz.f9.params.toList Rows.wholeEnoughSpec.vars false #[Value.slice none 0 0].toList 8 = some ([.nil], [], places) :=
  ⟨[], by kernel_rfl⟩

set_option maxRecDepth 100000 in
theorem lifted (os : Os) (started : os.Started) (H : Type) (enc : TypeId × Value → H) (F : Stop.Interp) :
    ReturnsInHanded {} Tryz.checked os 9 .any ((OpenSpec.ofChange Rows.wholeEnoughSpec).preRow enc Tryz.prog Tryz.f9 Rows.wholeEnoughRow.domain false Rows.wholeEnoughRow.laid) (((OpenSpec.ofChange Rows.wholeEnoughSpec).at F).post enc Tryz.prog Tryz.f9 false true false false) := by
  obtain ⟨places, hx⟩ := reads os enc
  refine returnsInHanded_of_row (C := Tryz.checked) (s := OpenSpec.ofChange Rows.wholeEnoughSpec) own started (by kernel_rfl) Tryz.func9
    (witness_row_at (enc := enc) (C := Tryz.checked) false (laidWorldY os) #[.slice none 0 0] rfl (by kernel_rfl) (by kernel_rfl) (by kernel_rfl)
      (OpenSpec.preRow_of_cond 8 hx (by kernel_rfl) (fun k hk => by cases hk) (by kernel_rfl) (laid_met os))) ?_
  intro W base args ds gs before hval hW _ _ hsz hL hsh _
  exact contract H enc W base args ds gs before hval hW hsz hL hsh

set_option maxHeartbeats 0 in
theorem said : Rows.WholeEnoughSaid :=
  OpenClaim.holds_of_cond 9 Tryz.f9 rfl rfl rfl rfl rfl rfl rfl ⟨rfl, rfl, rfl, rfl, rfl⟩ rfl rfl rfl rfl rfl (by as_aux_lemma => kernel_rfl) Tryz.func9 (by
      unfold joinedFacts
      repeat' (with_reducible refine Bool.and_eq_true_iff.2 ⟨?_, ?_⟩)
      all_goals (as_aux_lemma => kernel_rfl))
    (of_decide_eq_true (by as_aux_lemma => kernel_rfl)) (by unfold Func.isWrapper; first | (rw [if_pos (by decide +kernel)]; kernel_rfl) | (rw [if_neg (by decide +kernel)]; exact ⟨rfl, rfl⟩))
    (fun os started H enc _ F => by rw [OpenClaim.pre_eq_preRow]; exact lifted os started H enc F)

theorem plain (b : Bool) (hlk : b = Tryz.pinned.checked.prog.looks []) (f : FuncId) (fn : Func) (hf : Tryz.pinned.checked.prog.funcNamed "burgage/burgagetop.WholeEnough" = some f) (hfn : Tryz.pinned.checked.prog.funcs[f]? = some fn) :
    b = Tryz.pinned.checked.prog.looks [] ∧ ∀ (j : Nat) t, fn.params[j]? = some t → Tryz.pinned.checked.prog.wantsStandIn t = false := by
  obtain rfl : f = 9 := Option.some.inj ((show Tryz.prog.funcNamed "burgage/burgagetop.WholeEnough" = some 9 by kernel_rfl).symm.trans hf) |>.symm
  obtain rfl : fn = Tryz.f9 := (Option.some.inj (Tryz.func9.symm.trans hfn)).symm
  refine ⟨hlk, fun j t ht => ?_⟩
  have hall : ∀ t ∈ Tryz.f9.params.toList, Tryz.prog.wantsStandIn t = false := of_decide_eq_true (by kernel_rfl)
  exact hall t (Array.mem_toList_iff.2 (Array.mem_of_getElem? ht))

set_option maxHeartbeats 0 in
theorem card : Rows.WholeEnoughCardSaid :=
  Claim7.holds_tied_plain_at .later [] _ _ _ _ said (fun _ h => by cases h) (by as_aux_lemma => kernel_rfl) (fun _ h => by cases h) wholeEnough_row_tie rfl ⟨rfl, rfl⟩ (by as_aux_lemma => kernel_rfl) rfl (plain _ (by as_aux_lemma => kernel_rfl)) (by as_aux_lemma => kernel_rfl)
end Go.Proofs.YtnhkjehfmbfmmaaGreatDoor.lawWholeEnough
