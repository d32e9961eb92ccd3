/- The walk of what rises: a map's operations of one kind, sorted by keys. Conditions: each operation lies at its own key; there are at most 100000. -/
import Derived.Test.YtlkdojcimlfmdaaTxnD
import Derived.Test.YtlkdojcimlfmdaaShelfS
namespace Go.Proofs.Ytlkdojcimlfmdaa
set_option maxRecDepth 100000
open Go.RowKit Go.Lib Go.Sort Go.Shelf

theorem nan_any (a : Int) (w : World) : Calls Try.prog 85 #[.int .i64 a] w fun e w' => e = .returned (.bool false) ∧ w = w' := by
  go_enter Try.func85, Try.ntmps85
  go_wp2_with fail
  go_ret
  exact ⟨rfl, rfl⟩
theorem compare_any (a b : Int) (w : World) : Calls Try.prog 81 #[.int .i64 a, .int .i64 b] w fun e w' => e = .returned (.int .i64 (compareInt a b)) ∧ w = w' := by
  have CA := Lib.hid (nan_any a w)
  have CB := Lib.hid (nan_any b w)
  have H1 : Hid (a < b → (-1 : Int) = compareInt a b) := Lib.hid (fun h => by unfold compareInt; simp [h])
  have H2 : Hid (¬ a < b → b < a → (1 : Int) = compareInt a b) := Lib.hid (fun h h' => by unfold compareInt; simp [h, h'])
  have H3 : Hid (¬ a < b → ¬ b < a → (0 : Int) = compareInt a b) := Lib.hid (fun h h' => by unfold compareInt; simp [h, h'])
  go_enter Try.func81, Try.ntmps81
  go_wp2_with fail
  refine (CA.out).mono ?_
  rintro e w1 ⟨rfl, rfl⟩
  go_wp2_with fail
  refine (CB.out).mono ?_
  rintro e w1 ⟨rfl, rfl⟩
  by_cases h1 : a < b
  · have H := Lib.hid (H1.out h1)
    clear H1 H2 H3 CA CB
    go_wp2_with fail
    go_ret
    exact ⟨ret_i H.out, rfl⟩
  · by_cases h2 : b < a
    · have H := Lib.hid (H2.out (by omega) h2)
      clear H1 H2 H3 CA CB
      go_wp2_with fail
      go_ret
      exact ⟨ret_i H.out, rfl⟩
    · have H := Lib.hid (H3.out (by omega) (by omega))
      clear H1 H2 H3 CA CB
      go_wp2_with fail
      go_ret
      exact ⟨ret_i H.out, rfl⟩
def encO (o : OpV) : List Value := [.bool o.wr, .int .i64 o.key, .int .i64 o.val]
def cmpO (x y : OpV) : Int := compareInt x.key y.key
instance : Inhabited OpV := ⟨opZ⟩
theorem cmp_lt (x y : OpV) : ltOf cmpO x y = decide (x.key < y.key) := by
  unfold ltOf cmpO compareInt
  by_cases h1 : x.key < y.key
  · simp [h1]
  · by_cases h2 : y.key < x.key <;> simp [h1, h2]
theorem cmp_swo : SWO (ltOf cmpO) where
  irrefl x := by rw [cmp_lt]; simp
  trans x y z h1 h2 := by rw [cmp_lt] at *; simp at *; omega
  ntrans x y z h1 h2 := by rw [cmp_lt] at *; simp at *; omega
theorem closure_any (x y : OpV) (w : World) : Calls Try.prog 80 #[.agg #[.bool x.wr, .int .i64 x.key, .int .i64 x.val], .agg #[.bool y.wr, .int .i64 y.key, .int .i64 y.val]] w fun e w' => e = .returned (.int .i64 (cmpO x y)) ∧ ∃ q os', w' = grow (w.drewN q) os' := by
  obtain ⟨xw, xk, xv⟩ := x
  obtain ⟨yw, yk, yv⟩ := y
  have CC := fun w => Lib.hid (compare_any xk yk w)
  show Calls _ _ _ _ fun e w' => e = .returned (.int .i64 (compareInt xk yk)) ∧ _
  generalize compareInt xk yk = r at *
  go_enter Try.func80, Try.ntmps80
  go_wp2_with fail
  refine ((CC _).out).mono ?_
  rintro e w' ⟨rfl, rfl⟩
  go_wp2_with fail
  go_ret
  exact ⟨rfl, 0, _, by rw [alloc_eq_grow, alloc_eq_grow, grow_grow]; rfl⟩
theorem cmp_lays (blk off size : Nat) (w : World) : CmpLays Try.prog 80 #[] encO 3 cmpO blk off size w := fun _ _ _ _ x y => closure_any x y _
theorem sort_any (blk off cap : Nat) (d : Array OpV) (w : World) (hH : HoldsK encO 3 w blk off d) (hblk : blk < w.heap.size) (hsz : d.size < 4611686018427387904) :
    Calls Try.prog 79 #[.slice (some ⟨blk, off, none⟩) d.size cap, .func (.func 80) #[] #[]] w fun e w' => e = .returned (.tuple #[]) ∧ ∃ d' n os, PermIn 0 d.size d d' ∧ SortedIn (ltOf cmpO) 0 d.size d' ∧ w' = sortWorldK encO 3 w blk off n d' os := by
  have eg : ∀ args w, (callFunc 80 args).run Try.prog w = .ok (.enter 80 args) w := enters_of Try.func80 (by kernel_rfl) rfl
  exact AnyQ.slices_SortFunc Try.sortOp 3 Try.isAgg31 Try.sizeOf31 encO (fun _ => rfl) (fun x v hv => by simp [encO] at hv; rcases hv with rfl | rfl | rfl <;> rfl) cmpO cmp_swo 80 #[] blk off cap d w eg (cmp_lays blk off d.size w) hH hblk hsz
theorem insNone (p : Option Addr) (cap : Nat) (fv : Value) (w : World) : Calls Try.prog 86 #[.slice p 0 cap, .int .i64 0, .int .i64 0, fv] w fun e w' => e = .returned (.tuple #[]) ∧ w = w' := by
  go_enter Try.func86, Try.ntmps86
  go_wp2_with fail
  refine wp_loop_rounds 1 ?_
  rw [rounds_succ]
  go_wp2_with fail
  go_end0
  exact ⟨rfl, rfl⟩
theorem pdqNone (p : Option Addr) (cap : Nat) (lim : Int) (fv : Value) (w : World) : Calls Try.prog 83 #[.slice p 0 cap, .int .i64 0, .int .i64 0, .int .i64 lim, fv] w fun e w' => e = .returned (.tuple #[]) ∧ w = w' := by
  have CI := Lib.hid (fun w => insNone p cap fv w)
  go_enter Try.func83, Try.ntmps83
  go_wp2_with fail
  refine wp_loop_rounds 1 ?_
  rw [rounds_succ]
  go_wp2_with fail
  refine (CI.out _).mono ?_
  rintro e w' ⟨rfl, rfl⟩
  go_wp2_with fail
  (try simp only [Exit.inBlock, Exit.then]); refine bodyPost_ret (results_none rfl _ _ _) rfl ?_
  exact ⟨rfl, rfl⟩
theorem sort_none (p : Option Addr) (cap : Nat) (fv : Value) (w : World) : Calls Try.prog 79 #[.slice p 0 cap, fv] w fun e w' => e = .returned (.tuple #[]) ∧ w = w' := by
  have CP := Lib.hid (fun lim w => pdqNone p cap lim fv w)
  have hl : ∀ W, Calls Try.prog 84 #[.int .u64 0] W fun e w' => e = .returned (.int .i64 (Lib.bitLen 0 : Nat)) ∧ w' = W := fun W =>
    Any.bits_Len (SlLaysF0.n15.bits (P := Try.prog) (ρ := Try.sortOp_ren) { Try.sortOp with }) 0 W (by omega) (by omega)
  have CL := Lib.hid hl
  clear hl
  go_enter Try.func79, Try.ntmps79
  go_wp2_with fail
  refine (CL.out _).mono ?_
  rintro e w' ⟨rfl, rfl⟩
  go_wp2_with fail
  refine (CP.out _ _).mono ?_
  rintro e w' ⟨rfl, rfl⟩
  go_wp2_with fail
  go_end0
  exact ⟨rfl, rfl⟩
end Go.Proofs.Ytlkdojcimlfmdaa
