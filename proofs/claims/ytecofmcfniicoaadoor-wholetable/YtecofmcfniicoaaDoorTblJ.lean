/- The walk of the law on the order of the levels. Conditions: the table of the levels lies where it is laid. -/
import Derived.Test.YtecofmcfniicoaaDoorTblG
namespace Go.Proofs.YtecofmcfniicoaaDoor
set_option maxRecDepth 100000
open Go.RowKit

theorem imp_self : ∀ x : Fin 12, impB (x.val : Int) (x.val : Int) = true := by decide +kernel
theorem imp_trans : ∀ x y z : Fin 12, impB (x.val : Int) (y.val : Int) = true → impB (y.val : Int) (z.val : Int) = true → impB (x.val : Int) (z.val : Int) = true := by decide +kernel
theorem imp_anti : ∀ x y : Fin 12, impB (x.val : Int) (y.val : Int) = true → impB (y.val : Int) (x.val : Int) = true → x = y := by decide +kernel
set_option maxHeartbeats 2000000 in
theorem order10_walk (a b c : Nat) (w : World) (ha : a < 256) (hb : b < 256) (hc : c < 256) (hK : Kinds w) : Calls Tryd.prog 7 #[.int .u8 a, .int .u8 b, .int .u8 c] w fun e w' => e = .returned (.bool true) ∧ Below w.heap.size w w' := by
  have HK := Lib.hid (fun wx (hb : Below w.heap.size w wx) => hK.below hb)
  have CS := Lib.hid (speaks10_any w hK)
  clear hK
  have ma : (a : Int) % 12 = ((a % 12 : Nat) : Int) := by omega
  have mb : (b : Int) % 12 = ((b % 12 : Nat) : Int) := by omega
  have mc : (c : Int) % 12 = ((c % 12 : Nat) : Int) := by omega
  have la : a % 12 < 12 := Nat.mod_lt _ (by omega)
  have lb : b % 12 < 12 := Nat.mod_lt _ (by omega)
  have lc : c % 12 < 12 := Nat.mod_lt _ (by omega)
  generalize a % 12 = x at *
  generalize b % 12 = y at *
  generalize c % 12 = z at *
  have hxx : impB (x : Int) (x : Int) = true := imp_self ⟨x, la⟩
  have HT : Hid (impB (x : Int) (y : Int) = true → impB (y : Int) (z : Int) = true → impB (x : Int) (z : Int) = true) := Lib.hid (imp_trans ⟨x, la⟩ ⟨y, lb⟩ ⟨z, lc⟩)
  have HA : Hid (impB (x : Int) (y : Int) = true → impB (y : Int) (x : Int) = true → x = y) := Lib.hid (fun h1 h2 => by have h := imp_anti ⟨x, la⟩ ⟨y, lb⟩ h1 h2; simpa using h)
  have CI := Lib.hid (fun p q wx hx => limp_any p q wx (HK.out wx hx))
  go_enter Tryd.func7, Tryd.ntmps7
  go_wp2_with fail
  refine (CS.out).mono ?_
  rintro e w1 ⟨rfl, hb1⟩
  clear CS
  have hfin : ((x : Int) == (y : Int)) = true ∨ (((x : Int) == (y : Int)) = false ∧ (impB (x : Int) (y : Int) = false ∨ impB (y : Int) (x : Int) = false)) := by
    by_cases e : x = y
    · left; rw [beq_iff_eq]; omega
    · right
      refine ⟨by rw [beq_eq_false_iff_ne]; omega, ?_⟩
      cases h1 : impB (x : Int) (y : Int)
      · exact .inl rfl
      · cases h2 : impB (y : Int) (x : Int)
        · exact .inr rfl
        · exact absurd (HA.out h1 h2) e
  have hmid : impB (x : Int) (y : Int) = false ∨ (impB (x : Int) (y : Int) = true ∧ (impB (y : Int) (z : Int) = false ∨ (impB (y : Int) (z : Int) = true ∧ impB (x : Int) (z : Int) = true))) := by
    cases h1 : impB (x : Int) (y : Int)
    · exact .inl rfl
    · cases h2 : impB (y : Int) (z : Int)
      · exact .inr ⟨rfl, .inl rfl⟩
      · exact .inr ⟨rfl, .inr ⟨rfl, HT.out h1 h2⟩⟩
  clear HT HA
  rcases hmid with m1 | ⟨m1, m2 | ⟨m2, m3⟩⟩ <;> rcases hfin with f1 | ⟨f1, f2 | f2⟩
  all_goals first
    | (exfalso; rw [m1] at f2; cases f2; done)
    | (go_wp2_with (go_at_call 19; refine (CI.out _ _ _ hb1).mono ?_; rintro e w' ⟨rfl, rfl⟩)
       go_ret
       exact ⟨rfl, hb1⟩)
end Go.Proofs.YtecofmcfniicoaaDoor
