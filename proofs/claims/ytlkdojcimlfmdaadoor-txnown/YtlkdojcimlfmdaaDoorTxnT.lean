/- The walk of the statement on a read that is put in: it answers true. Conditions: the library's table of tens lies as it is laid; a slice's cells are known, and hold operations of ints. -/
import Derived.Test.YtlkdojcimlfmdaaDoorTxnS
import Derived.Test.YtlkdojcimlfmdaaDoorAppS
import Derived.Deep.CutRange
import Derived.Deep.RegionLaw
namespace Go.Proofs.YtlkdojcimlfmdaaDoor
set_option maxRecDepth 100000
open Go.RowKit

theorem opV_take : ∀ (l : List OpV) (k : Nat), opV (l.take k) = (opV l).take (k * 3)
  | [], _ => by simp [opV]
  | t :: h, 0 => by simp [opV]
  | t :: h, k + 1 => by
    have := opV_take h k
    have e : (k + 1) * 3 = k * 3 + 1 + 1 + 1 := by omega
    unfold opV at this ⊢
    rw [e, List.take_succ_cons, List.flatMap_cons, List.flatMap_cons, this]
    simp
theorem opV_drop : ∀ (l : List OpV) (k : Nat), opV (l.drop k) = (opV l).drop (k * 3)
  | [], _ => by simp [opV]
  | t :: h, 0 => by simp [opV]
  | t :: h, k + 1 => by
    have := opV_drop h k
    have e : (k + 1) * 3 = k * 3 + 1 + 1 + 1 := by omega
    unfold opV at this ⊢
    rw [e, List.drop_succ_cons, List.flatMap_cons, this]
    simp
theorem Ops.tail {w : World} {g o cap : Nat} {l : List OpV} (h : Ops w (.slice (some ⟨g, o, none⟩) l.length cap) l) (k : Nat) :
    ∀ j u, (opV (l.drop k))[j]? = some u → w.cell? ((⟨g, o + k * 3, none⟩ : Addr).add j) = some u := fun j u hu => by
  rw [opV_drop] at hu
  exact Row.part h k j u hu
theorem Ops.head {w : World} {g o cap : Nat} {l : List OpV} (h : Ops w (.slice (some ⟨g, o, none⟩) l.length cap) l) (k : Nat) :
    ∀ j u, (opV (l.take k))[j]? = some u → w.cell? ((⟨g, o, none⟩ : Addr).add j) = some u := fun j u hu => by
  rw [opV_take, List.getElem?_take] at hu
  split at hu
  · have := Row.part h 0 j u (by simpa using hu)
    simpa using this
  · cases hu
theorem own_made {w : World} {e : TypeId} {B base : Nat} (hB : base ≤ w.heap.size) (hb : B = w.heap.size) : (w.alloc (.cells #[] e)).ownsRow base e 3 (.slice (some ⟨B, 0, none⟩) 0 0) 0 [] := by
  subst hb; exact World.ownsRow_made w #[] 0 hB (by decide) rfl
theorem lit_of {w : World} {B : Nat} {x y z : Value} (c0 : w.cell? ⟨B, 0, none⟩ = some x) (c1 : w.cell? ⟨B, 1, none⟩ = some y) (c2 : w.cell? ⟨B, 2, none⟩ = some z) : ∀ j u, [x, y, z][j]? = some u → w.cell? ((⟨B, 0, none⟩ : Addr).add j) = some u := fun j u hu => by
  match j, hu with
  | 0, hu => simp at hu; subst hu; exact c0
  | 1, hu => simp at hu; subst hu; exact c1
  | 2, hu => simp at hu; subst hu; exact c2
  | j + 3, hu => simp at hu
theorem lit_new (w : World) (x y z : Value) (t : TypeId) : ∀ j u, [x, y, z][j]? = some u → (w.alloc (.cells #[x, y, z] t)).cell? ((⟨w.heap.size, 0, none⟩ : Addr).add j) = some u := by
  obtain ⟨c0, c1, c2⟩ := opBlock w x y z t
  exact lit_of c0 c1 c2
theorem drew_own {w : World} {base : Nat} {e : TypeId} {size : Nat} {v : Value} {n : Nat} {cs : List Value} (h : w.ownsRow base e size v n cs) : w.drew.ownsRow base e size v n cs := owns_below h (Below.refl _ _).drew
theorem box_drew {w w1 : World} {x y z : Value} {t : TypeId} (h : Below (w.alloc (.cells #[x, y, z] t)).drew.heap.size (w.alloc (.cells #[x, y, z] t)).drew w1) : Below (w.heap.size + 1) (w.alloc (.cells #[x, y, z] t)) w1 :=
  ⟨h.os, h.tape, h.output, h.size, fun k hk => h.block k (by have : (w.alloc (.cells #[x, y, z] t)).drew.heap.size = w.heap.size + 1 := by simp [World.drew]
                                                             omega)⟩
set_option maxHeartbeats 8000000 in
theorem own5_walk (va : Value) (l : List OpV) (x : Int) (w : World) (he : Ten w) (ha : Ops w va l) (hok : ∀ o ∈ l, o.ok) (hx : 0 ≤ x ∧ x ≤ 255) :
    Calls Tryd.prog 3 #[va, .int .u8 x] w fun e w' => e = .returned (.bool true) ∧ Below w.heap.size w w' := by
  obtain ⟨i0, hi, hz0, hz1, hz2⟩ := info_parts infoOp
  obtain ⟨ao, cap, rfl, hal⟩ := ha.form
  have CS := Lib.hid (speaks5_any w he)
  have HOK := Lib.hid hok
  clear he hok
  go_enter Tryd.func3, Tryd.ntmps3
  go_wp2_with fail
  refine (CS.out).mono ?_
  rintro e w1 ⟨rfl, hb1⟩
  clear CS
  by_cases hsm : l.length < 1
  · have hsm' : (l.length : Int) < 1 := by omega
    go_wp2_with fail
    go_ret
    exact ⟨rfl, hb1⟩
  have hsm' : ¬ (l.length : Int) < 1 := by omega
  by_cases hbig : 60 < l.length
  · have hbig' : (60 : Int) < (l.length : Int) := by omega
    go_wp2_with fail
    go_ret
    exact ⟨rfl, hb1⟩
  have hbig' : ¬ (60 : Int) < (l.length : Int) := by omega
  have CM := Lib.hid (may5_any _ l w1 (ha.below hb1))
  cases hall : allM l
  · rw [hall] at CM
    change Hid (Calls _ _ _ _ fun e w' => e = .returned (.int .i64 0) ∧ _) at CM
    clear hall
    go_wp2_with fail
    refine (CM.out).mono ?_
    rintro e w2 ⟨rfl, hb2⟩
    have hb3 := below_then hb1 hb2
    go_wp2_with fail
    go_ret
    exact ⟨rfl, hb3⟩
  rw [hall] at CM
  change Hid (Calls _ _ _ _ fun e w' => e = .returned (.int .i64 1) ∧ _) at CM
  have HK := Lib.hid (allM_keys hall)
  clear hall
  go_wp2_with fail
  refine (CM.out).mono ?_
  rintro e w2 ⟨rfl, hb2⟩
  have hb3 := below_then hb1 hb2
  have HA := Lib.hid (fun wx (h : Below w.heap.size w wx) => ha.below h)
  have hne : ¬ (l.length : Int) = 0 := by omega
  obtain ⟨k, hk, hkx⟩ : ∃ k : Nat, k < l.length ∧ Int.tmod x (l.length : Int) = (k : Int) := by
    refine ⟨(Int.tmod x (l.length : Int)).toNat, ?_, ?_⟩
    · have h1 := Int.tmod_lt_of_pos x (show (0 : Int) < (l.length : Int) by omega)
      have h2 := Int.tmod_nonneg (l.length : Int) hx.1
      omega
    · have h2 := Int.tmod_nonneg (l.length : Int) hx.1
      omega
  clear CM hb1 hb2 ha
  have hwx : IntKind.i64.wrap x = x := by rw [IntKind.wrap_i64]; omega
  obtain ⟨g, o, hao, c0, c1, c2⟩ := (HA.out _ hb3).at hk
  cases hao
  have hlg : g < w2.heap.size := block_lt c0
  have n2 : w2.heap.size ≠ g := World.new_ne w2 _ c1
  have hk0 : (0 : Int) ≤ (k : Int) := by omega
  have hk1 : (k : Int) < (l.length : Int) := by omega
  have HMO := Lib.hid (more_ok hk HOK.out)
  have HMK := Lib.hid (more_keys hk HK.out)
  have HML := Lib.hid (more_len l k hk)
  have HMR := Lib.hid (more_reads l k hk)
  have HMW := Lib.hid (more_writes l k hk)
  have HMS := Lib.hid (more_steady l k hk)
  have HMD : Hid (moreL l k hk = (l.take (k + 1) ++ [⟨false, l[k].key, l[k].val⟩]) ++ l.drop (k + 1)) := Lib.hid rfl
  generalize moreL l k hk = M at *
  generalize hkey : l[k].key = key at *
  generalize hval : l[k].val = val at *
  have kk := Below.refl w2.heap.size w2
  go_upto_region 6 with fail
  go_cut [6] from 30 to 40 (fun v wx => ∃ g2, v = .pointer (some ⟨g2, 0, none⟩) ∧ w2.heap.size ≤ g2 ∧ (wx.cell? ⟨g2, 0, none⟩ = some (.bool false) ∧ wx.cell? ⟨g2, 1, none⟩ = some (.int .i64 key) ∧ wx.cell? ⟨g2, 2, none⟩ = some (.int .i64 val)) ∧ Below w2.heap.size w2 wx)
  case first =>
    go_wp2_with fail
    go_region_held3 (fun w' => w'.cell? ⟨g, o + k * 3 + 1, none⟩ = some (.int .i64 key) ∧ w'.cell? ⟨g, o + k * 3 + 2, none⟩ = some (.int .i64 val))
      (go_keep)
      (first
        | (go_at_call 9; refine (read_any key val _).mono ?_; rintro e wx ⟨rfl, hbx⟩; have kk : Below w2.heap.size w2 wx := (by first | exact below_then kk hbx | exact below_then kk ⟨hbx.os, hbx.tape, hbx.output, hbx.size, hbx.block⟩ | exact below_then (kk.alloc (Nat.le_refl _) _) hbx | exact below_then (kk.alloc (Nat.le_refl _) _) ⟨hbx.os, hbx.tape, hbx.output, hbx.size, hbx.block⟩); have a1 := (kk.cell (p := ⟨g, o + k * 3 + 1, none⟩) hlg).trans c1; have a2 := (kk.cell (p := ⟨g, o + k * 3 + 2, none⟩) hlg).trans c2; have n1 : wx.heap.size ≠ g := World.new_ne wx _ a1; first | (have hq : Below (w2.heap.size + 1) (w2.alloc (.cells #[.bool false, .int .i64 0, .int .i64 0] 26)) wx := (by first | exact box_drew hbx); have hc := op_cells hq; obtain ⟨⟨b0, b1, b2⟩, f0, f1, f2⟩ := hc) | skip))
    · go_wp2_with fail
      go_meet
      exact ⟨_, rfl, kk.size, opBlock _ _ _ _ _, kk.alloc kk.size _⟩
    · go_wp2_with fail
      go_meet
      exact ⟨_, rfl, Nat.le_refl _, put_three _ _ _ b0 b1 b2, below_three _ _ _ kk (Nat.le_refl _)⟩
  case rest =>
  obtain ⟨gb, rfl, hgb, ⟨x0, x1, x2⟩, hbc⟩ := hcut
  have hb6 := below_then hb3 hbc
  generalize wc = w6 at *
  have HA6 := Lib.hid (HA.out _ hb6)
  have HB6 := Lib.hid (fun wx (h : Below w6.heap.size w6 wx) => HA.out wx (below_then hb6 h))
  have hcapk : k + 1 ≤ cap := by
    obtain ⟨_, _, _, e, hm, _, _⟩ := HA6.out
    cases e; omega
  have hc1 : (k : Int) + 1 ≤ (cap : Int) := by omega
  have hp0 : (0 : Int) ≤ (k : Int) + 1 := by omega
  have hp1 : (k : Int) + 1 ≤ (l.length : Int) := by omega
  have hp2 : ((k : Int) + 1).toNat = k + 1 := by omega
  have hwr : IntKind.i64.wrap ((k : Int) + 1) = (k : Int) + 1 := by rw [IntKind.wrap_i64]; omega
  clear c0 c1 c2 hlg n2 kk hbc hb3
  go_upto_region 7 with fail
  go_cut [7] from 41 to 54 (fun v wx => Ops wx v M ∧ Below w6.heap.size w6 wx)
  case first =>
    have KA := Lib.hid ((Below.refl w6.heap.size w6).alloc (Nat.le_refl _) (.cells #[] 26))
    have hsE : (w6.alloc (.cells #[] 26)).heap.size = w6.heap.size + 1 := by simp
    have hsX : (w6.alloc (.cells #[.bool false, .int .i64 key, .int .i64 val] 26)).heap.size = w6.heap.size + 1 := by simp
    have KB := Lib.hid (((Below.refl w6.heap.size w6).alloc (Nat.le_refl _) (.cells #[] 26)).alloc (by rw [hsE]; exact Nat.le_succ _) (.cells #[.bool false, .int .i64 key, .int .i64 val] 26))
    have KC := Lib.hid (((Below.refl w6.heap.size w6).alloc (Nat.le_refl _) (.cells #[.bool false, .int .i64 key, .int .i64 val] 26)).alloc (by rw [hsX]; exact Nat.le_succ _) (.cells #[] 26))
    have OB : Hid (((w6.alloc (.cells #[] 26)).alloc (.cells #[.bool false, .int .i64 key, .int .i64 val] 26)).drew.ownsRow w6.heap.size 26 3 (.slice (some ⟨w6.heap.size, 0, none⟩) 0 0) 0 []) := Lib.hid (drew_own ((own_made (Nat.le_refl _) rfl).alloc _))
    have OC : Hid (((w6.alloc (.cells #[.bool false, .int .i64 key, .int .i64 val] 26)).alloc (.cells #[] 26)).drew.ownsRow w6.heap.size 26 3 (.slice (some ⟨w6.heap.size + 1, 0, none⟩) 0 0) 0 []) := Lib.hid (drew_own (own_made (by rw [hsX]; exact Nat.le_succ _) hsX.symm))
    have PB : Hid (((w6.alloc (.cells #[] 26)).alloc (.cells #[.bool false, .int .i64 key, .int .i64 val] 26)).drew.cell? ⟨w6.heap.size + 1, 0, none⟩ = some (.bool false) ∧ ((w6.alloc (.cells #[] 26)).alloc (.cells #[.bool false, .int .i64 key, .int .i64 val] 26)).drew.cell? ⟨w6.heap.size + 1, 1, none⟩ = some (.int .i64 key) ∧ ((w6.alloc (.cells #[] 26)).alloc (.cells #[.bool false, .int .i64 key, .int .i64 val] 26)).drew.cell? ⟨w6.heap.size + 1, 2, none⟩ = some (.int .i64 val)) := Lib.hid (by
      have h := opBlock (w6.alloc (.cells #[] 26)) (.bool false) (.int .i64 key) (.int .i64 val) 26
      rw [hsE] at h
      exact h)
    have PC : Hid (((w6.alloc (.cells #[.bool false, .int .i64 key, .int .i64 val] 26)).alloc (.cells #[] 26)).drew.cell? ⟨w6.heap.size, 0, none⟩ = some (.bool false) ∧ ((w6.alloc (.cells #[.bool false, .int .i64 key, .int .i64 val] 26)).alloc (.cells #[] 26)).drew.cell? ⟨w6.heap.size, 1, none⟩ = some (.int .i64 key) ∧ ((w6.alloc (.cells #[.bool false, .int .i64 key, .int .i64 val] 26)).alloc (.cells #[] 26)).drew.cell? ⟨w6.heap.size, 2, none⟩ = some (.int .i64 val)) := Lib.hid (by
      have h := opBlock w6 (.bool false) (.int .i64 key) (.int .i64 val) 26
      have hb := box_below (w6.alloc (.cells #[.bool false, .int .i64 key, .int .i64 val] 26)) (.cells #[] 26)
      have hl : w6.heap.size < (w6.alloc (.cells #[.bool false, .int .i64 key, .int .i64 val] 26)).heap.size := by rw [hsX]; exact Nat.lt_succ_self _
      exact ⟨(hb.cell (p := ⟨w6.heap.size, 0, none⟩) hl).trans h.1, (hb.cell (p := ⟨w6.heap.size, 1, none⟩) hl).trans h.2.1, (hb.cell (p := ⟨w6.heap.size, 2, none⟩) hl).trans h.2.2⟩)
    have nB : Hid (some (w6.heap.size + 1) ≠ some w6.heap.size) := Lib.hid (by simp)
    have nC : Hid (some w6.heap.size ≠ some (w6.heap.size + 1)) := Lib.hid (by simp)
    clear hsE hsX
    have HC1 : Hid (∀ wx, Below w6.heap.size w6 wx → ∀ j u, (opV (l.take (k + 1)))[j]? = some u → wx.cell? ((⟨g, o, none⟩ : Addr).add j) = some u) := Lib.hid (fun wx h => (HB6.out wx h).head (k + 1))
    have HC2 : (∀ wx, Below w6.heap.size w6 wx → ∀ j u, (opV (l.drop (k + 1)))[j]? = some u → wx.cell? ((⟨g, o + (k + 1) * 3, none⟩ : Addr).add j) = some u) := (fun wx h => (HB6.out wx h).tail (k + 1))
    have s1 : Hid ((opV (l.take (k + 1))).length = (k + 1) * 3) := Lib.hid (by rw [opV_len, List.length_take]; congr 1; omega)
    have s2 := Lib.hid (opV_one (l.take (k + 1)))
    have t1 : Hid ((opV (l.drop (k + 1))).length = (l.length - (k + 1)) * 3) := Lib.hid (by rw [opV_len, List.length_drop])
    have t2 := Lib.hid (opV_one (l.drop (k + 1)))
    have u2 : Hid (∀ u ∈ [Value.bool false, .int .i64 key, .int .i64 val], u.oneCell' = true) := Lib.hid (opV_one [⟨false, key, val⟩])
    have n4 : Hid (0 + (k + 1) + 1 ≤ maxLen) := Lib.hid (by unfold maxLen; omega)
    have n7 : Hid ((0 + (k + 1) + 1) * 24 ≤ 140737488355328) := Lib.hid (by omega)
    have n5 : Hid (0 + (k + 1) + 1 + (l.length - (k + 1)) ≤ maxLen) := Lib.hid (by unfold maxLen; omega)
    have n6 : Hid ((0 + (k + 1) + 1 + (l.length - (k + 1))) * 24 ≤ 140737488355328) := Lib.hid (by omega)
    have HG2 : Hid (∀ wx wy row, Below w6.heap.size w6 wx → wx.grownBy wy row → (∀ j, row = some j → w6.heap.size ≤ j) → Below w6.heap.size w6 wy) := Lib.hid (fun wx wy row h hg hB => h.grown hg h.size hB)
    obtain ⟨A, hA, HC2⟩ : ∃ A : Addr, (if cap = k + 1 then some (⟨g, o, none⟩ : Addr) else some ⟨g, o + (k + 1) * 3, none⟩) = some A ∧ Hid (∀ w7, Below w6.heap.size w6 w7 → ∀ i u, (opV (l.drop (k + 1)))[i]? = some u → w7.cell? (A.add i) = some u) := by
      by_cases h : cap = k + 1
      · refine ⟨⟨g, o, none⟩, by simp [h], fun w7 hb7 i u hu => ?_⟩
        have hlc : l.length ≤ cap := by
          obtain ⟨_, _, _, e, hm, _, _⟩ := HA6.out
          cases e; omega
        rw [List.drop_eq_nil_of_le (by omega)] at hu
        simp [opV] at hu
      · exact ⟨⟨g, o + (k + 1) * 3, none⟩, by simp [h], HC2⟩
    have HF : Hid (∀ w9 v9, World.ownsRow w9 w6.heap.size 26 3 v9 (0 + (k + 1) + 1 + (l.length - (k + 1))) ((([] ++ opV (l.take (k + 1))) ++ [Value.bool false, .int .i64 key, .int .i64 val]) ++ opV (l.drop (k + 1))) → Ops w9 v9 M) := Lib.hid (fun w9 v9 h => by
      have h2 := Row.of_owns h
      unfold Ops
      rw [HML.out, HMD.out, opV_app, opV_app]
      have e : 0 + (k + 1) + 1 + (l.length - (k + 1)) = l.length + 1 := by omega
      rw [e] at h2
      exact h2)
    have HG : Hid (∀ wx wy B, Below w6.heap.size w6 wx → wx.grownBy wy (some B) → w6.heap.size ≤ B → Below w6.heap.size w6 wy) := Lib.hid (fun wx wy B h hg hB => h.grown hg h.size (fun j hj => by cases hj; exact hB))
    have hgb6 : gb < w6.heap.size := block_lt x0
    have hgn : w6.heap.size ≠ gb := World.new_ne w6 _ x0
    have OA : Hid ((w6.alloc (.cells #[] 26)).drew.ownsRow w6.heap.size 26 3 (.slice (some ⟨w6.heap.size, 0, none⟩) 0 0) 0 []) := Lib.hid (owns_below (own_made (Nat.le_refl _) rfl) (Below.refl _ _).drew)
    have CA := Lib.hid (HC1.out _ KA.out.drew)
    have CB := Lib.hid (HC1.out _ KB.out.drew)
    have CC := Lib.hid (HC1.out _ KC.out.drew)
    have n1 : Hid (0 + (k + 1) ≤ maxLen) := Lib.hid (by unfold maxLen; omega)
    have n2 : Hid ((0 + (k + 1)) * 24 ≤ 140737488355328) := Lib.hid (by omega)
    have n3 : Hid (w6.heap.size ≤ (w6.alloc (.cells #[] 26)).drew.heap.size) := Lib.hid KA.out.size
    go_wp2_with fail
    go_region_law (first
      | (refine step_app _ rfl (.tmp 49) (.tmp 53) 22 rfl w6.heap.size 26 i0 (.agg #[.bool false, .int .i64 0, .int .i64 0]) 3 24 Tryd.underlying22 hi hz0 hz1 hz2 rfl (by decide) v8 (0 + (k + 1) + 1) _ (by simp [Act.eval]) (by first | exact hown8 | exact drew_own hown8 | exact drew_own (drew_own hown8)) A (l.length - (k + 1)) (cap - (k + 1)) (opV (l.drop (k + 1))) (by simp [Act.eval]) t1.out (by first | exact HC2.out _ k8 | exact HC2.out _ k8.drew | exact HC2.out _ k8.drew.drew) t2.out n5.out n6.out k8.size ?_
         intro v9 w9 hown9 hg9; have k9 := HG2.out _ _ _ k8 (by exact hg9) hL8)
      | (refine step_app _ rfl (.tmp 46) (.tmp 48) 22 rfl w6.heap.size 26 i0 (.agg #[.bool false, .int .i64 0, .int .i64 0]) 3 24 Tryd.underlying22 hi hz0 hz1 hz2 rfl (by decide) v7 (0 + (k + 1)) _ (by simp [Act.eval]) (by first | exact hown7 | exact hown7.alloc _ | exact drew_own hown7 | exact drew_own (hown7.alloc _) | exact (drew_own hown7).alloc _ | exact drew_own ((drew_own hown7).alloc _)) ⟨_, 0, none⟩ 1 1 [.bool false, .int .i64 key, .int .i64 val] (by rfl) rfl (by first | exact lit_of p0 p1 p2 | exact lit_new _ _ _ _ _) u2.out n4.out n7.out (by first | exact k7.size | exact (k7.alloc k7.size _).size) ?_
         intro v8 w8 hown8 hg8; have k8 : Below w6.heap.size w6 w8 := (by first | exact HG2.out _ _ _ k7 hg8 hL7 | exact HG2.out _ _ _ (k7.alloc k7.size _) hg8 hL7); have hL8 := fun j hj => (hown8.lt j hj).1)
      | (refine step_app (w6.alloc (.cells #[] 26)).drew rfl (.tmp 41) (.tmp 45) 22 rfl w6.heap.size 26 i0 (.agg #[.bool false, .int .i64 0, .int .i64 0]) 3 24 Tryd.underlying22 hi hz0 hz1 hz2 rfl (by decide) (.slice (some ⟨w6.heap.size, 0, none⟩) 0 0) 0 [] (by simp [Act.eval]) OA.out ⟨g, o, none⟩ (k + 1) cap (opV (l.take (k + 1))) (by simp [Act.eval]) s1.out CA.out s2.out n1.out n2.out n3.out ?_
         intro v7 w7 hown7 hg7; have k7 := HG.out _ _ _ KA.out.drew hg7 (Nat.le_refl _); have hL7 := fun j hj => (hown7.lt j hj).1; have y0 := (k7.cell (p := ⟨gb, 0, none⟩) hgb6).trans x0; have y1 := (k7.cell (p := ⟨gb, 1, none⟩) hgb6).trans x1; have y2 := (k7.cell (p := ⟨gb, 2, none⟩) hgb6).trans x2)
      | (refine step_app ((w6.alloc (.cells #[] 26)).alloc (.cells #[.bool false, .int .i64 key, .int .i64 val] 26)).drew rfl (.tmp 41) (.tmp 45) 22 rfl w6.heap.size 26 i0 (.agg #[.bool false, .int .i64 0, .int .i64 0]) 3 24 Tryd.underlying22 hi hz0 hz1 hz2 rfl (by decide) (.slice (some ⟨w6.heap.size, 0, none⟩) 0 0) 0 [] (by simp [Act.eval]) OB.out ⟨g, o, none⟩ (k + 1) cap (opV (l.take (k + 1))) (by simp [Act.eval]) s1.out CB.out s2.out n1.out n2.out KB.out.size ?_
         intro v7 w7 hown7 hg7; have k7 := HG.out _ _ _ KB.out.drew hg7 (Nat.le_refl _); have hL7 := fun j hj => (hown7.lt j hj).1; have y0 := (k7.cell (p := ⟨gb, 0, none⟩) hgb6).trans x0; have y1 := (k7.cell (p := ⟨gb, 1, none⟩) hgb6).trans x1; have y2 := (k7.cell (p := ⟨gb, 2, none⟩) hgb6).trans x2; have p0 := hg7.cell PB.out.1 nB.out; have p1 := hg7.cell PB.out.2.1 nB.out; have p2 := hg7.cell PB.out.2.2 nB.out)
      | (refine step_app ((w6.alloc (.cells #[.bool false, .int .i64 key, .int .i64 val] 26)).alloc (.cells #[] 26)).drew rfl (.tmp 41) (.tmp 45) 22 rfl w6.heap.size 26 i0 (.agg #[.bool false, .int .i64 0, .int .i64 0]) 3 24 Tryd.underlying22 hi hz0 hz1 hz2 rfl (by decide) (.slice (some ⟨w6.heap.size + 1, 0, none⟩) 0 0) 0 [] (by simp [Act.eval]) OC.out ⟨g, o, none⟩ (k + 1) cap (opV (l.take (k + 1))) (by simp [Act.eval]) s1.out CC.out s2.out n1.out n2.out KC.out.size ?_
         intro v7 w7 hown7 hg7; have k7 := HG.out _ _ _ KC.out.drew hg7 (Nat.le_succ _); have hL7 := fun j hj => (hown7.lt j hj).1; have y0 := (k7.cell (p := ⟨gb, 0, none⟩) hgb6).trans x0; have y1 := (k7.cell (p := ⟨gb, 1, none⟩) hgb6).trans x1; have y2 := (k7.cell (p := ⟨gb, 2, none⟩) hgb6).trans x2; have p0 := hg7.cell PC.out.1 nC.out; have p1 := hg7.cell PC.out.2.1 nC.out; have p2 := hg7.cell PC.out.2.2 nC.out))
    all_goals (go_simp; go_wp2; go_meet; exact ⟨HF.out _ _ hown9, k9⟩)
  case rest =>
  obtain ⟨hOM, hbc⟩ := hcut
  have hb7 := below_then hb6 hbc
  generalize wc = w7 at *
  clear x0 x1 x2 hbc hgb
  obtain ⟨am, cm, rfl, hml⟩ := hOM.form
  have hAl := HA.out _ hb7
  obtain ⟨x0, x1, x2, x3⟩ := txnBlock w7 (.int .i64 0) (.int .i64 0) (.int .i64 0) (.slice (some ⟨g, o, none⟩) l.length cap) 29
  have hbA := box_below w7 (.cells #[.int .i64 0, .int .i64 0, .int .i64 0, .slice (some ⟨g, o, none⟩) l.length cap] 29)
  have hsA : (w7.alloc (.cells #[.int .i64 0, .int .i64 0, .int .i64 0, .slice (some ⟨g, o, none⟩) l.length cap] 29)).heap.size = w7.heap.size + 1 := by simp
  obtain ⟨y0, y1, y2, y3⟩ := txnBlock (w7.alloc (.cells #[.int .i64 0, .int .i64 0, .int .i64 0, .slice (some ⟨g, o, none⟩) l.length cap] 29)) (.int .i64 0) (.int .i64 0) (.int .i64 0) (.slice am M.length cm) 29
  have hbB := box_below (w7.alloc (.cells #[.int .i64 0, .int .i64 0, .int .i64 0, .slice (some ⟨g, o, none⟩) l.length cap] 29)) (.cells #[.int .i64 0, .int .i64 0, .int .i64 0, .slice am M.length cm] 29)
  have hlA : w7.heap.size < (w7.alloc (.cells #[.int .i64 0, .int .i64 0, .int .i64 0, .slice (some ⟨g, o, none⟩) l.length cap] 29)).heap.size := by rw [hsA]; exact Nat.lt_succ_self _
  have z0 := (hbB.cell (p := ⟨w7.heap.size, 0, none⟩) hlA).trans x0
  have z1 := (hbB.cell (p := ⟨w7.heap.size, 1, none⟩) hlA).trans x1
  have z2 := (hbB.cell (p := ⟨w7.heap.size, 2, none⟩) hlA).trans x2
  have z3 := (hbB.cell (p := ⟨w7.heap.size, 3, none⟩) hlA).trans x3
  have hAB := below_then hbA hbB
  rw [hsA] at y0 y1 y2 y3
  have hO8 := hOM.below hAB
  have hA8 := hAl.below hAB
  have hb8 := below_then hb7 hAB
  clear hbA hbB hlA hsA x0 x1 x2 x3 hOM hAl hAB
  go_upto_region 9 with fail
  generalize (w7.alloc (.cells #[.int .i64 0, .int .i64 0, .int .i64 0, .slice (some ⟨g, o, none⟩) l.length cap] 29)).alloc (.cells #[.int .i64 0, .int .i64 0, .int .i64 0, .slice am M.length cm] 29) = w8 at *
  generalize w7.heap.size = p at *
  have HS8 : Hid (∀ wx, Below w8.heap.size w8 wx → (wx.cell? ⟨p, 0, none⟩ = some (.int .i64 0) ∧ wx.cell? ⟨p, 1, none⟩ = some (.int .i64 0) ∧ wx.cell? ⟨p, 2, none⟩ = some (.int .i64 0) ∧ wx.cell? ⟨p, 3, none⟩ = some (.slice (some ⟨g, o, none⟩) l.length cap) ∧ wx.cell? ⟨p + 1, 0, none⟩ = some (.int .i64 0) ∧ wx.cell? ⟨p + 1, 1, none⟩ = some (.int .i64 0) ∧ wx.cell? ⟨p + 1, 2, none⟩ = some (.int .i64 0) ∧ wx.cell? ⟨p + 1, 3, none⟩ = some (.slice am M.length cm))) := Lib.hid (fun wx h => ⟨(h.cell (p := ⟨p, 0, none⟩) (block_lt z0)).trans z0, (h.cell (p := ⟨p, 1, none⟩) (block_lt z1)).trans z1, (h.cell (p := ⟨p, 2, none⟩) (block_lt z2)).trans z2, (h.cell (p := ⟨p, 3, none⟩) (block_lt z3)).trans z3, (h.cell (p := ⟨p + 1, 0, none⟩) (block_lt y0)).trans y0, (h.cell (p := ⟨p + 1, 1, none⟩) (block_lt y1)).trans y1, (h.cell (p := ⟨p + 1, 2, none⟩) (block_lt y2)).trans y2, (h.cell (p := ⟨p + 1, 3, none⟩) (block_lt y3)).trans y3⟩)
  have CR1 : Hid (∀ wx, Below w8.heap.size w8 wx → Calls Tryd.prog 11 #[.agg #[.int .i64 0, .int .i64 0, .int .i64 0, .slice (some ⟨g, o, none⟩) l.length cap]] wx fun e w' => ∃ v, e = .returned v ∧ Ops w' v (refReads l) ∧ Below wx.heap.size wx w') := Lib.hid (fun wx h => (reads_ref 0 0 0 _ l wx (hA8.below h) HOK.out (by omega) HK.out).mono fun e w' ⟨v, h1, h2, h3⟩ => ⟨v, h1, h2.ops, h3⟩)
  have CR2 : Hid (∀ wx, Below w8.heap.size w8 wx → Calls Tryd.prog 11 #[.agg #[.int .i64 0, .int .i64 0, .int .i64 0, .slice am M.length cm]] wx fun e w' => ∃ v, e = .returned v ∧ Ops w' v (refReads l) ∧ Below wx.heap.size wx w') := Lib.hid (fun wx h => (reads_ref 0 0 0 _ M wx (hO8.below h) HMO.out (by rw [HML.out]; omega) HMK.out).mono fun e w' ⟨v, h1, h2, h3⟩ => ⟨v, h1, by rw [HMR.out] at h2; exact h2.ops, h3⟩)
  have CW1 : Hid (∀ wx, Below w8.heap.size w8 wx → Calls Tryd.prog 12 #[.agg #[.int .i64 0, .int .i64 0, .int .i64 0, .slice (some ⟨g, o, none⟩) l.length cap]] wx fun e w' => ∃ v, e = .returned v ∧ Ops w' v (refWrites l) ∧ Below wx.heap.size wx w') := Lib.hid (fun wx h => (writes_ref 0 0 0 _ l wx (hA8.below h) HOK.out (by omega) HK.out).mono fun e w' ⟨v, h1, h2, h3⟩ => ⟨v, h1, h2.ops, h3⟩)
  have CW2 : Hid (∀ wx, Below w8.heap.size w8 wx → Calls Tryd.prog 12 #[.agg #[.int .i64 0, .int .i64 0, .int .i64 0, .slice am M.length cm]] wx fun e w' => ∃ v, e = .returned v ∧ Ops w' v (refWrites l) ∧ Below wx.heap.size wx w') := Lib.hid (fun wx h => (writes_ref 0 0 0 _ M wx (hO8.below h) HMO.out (by rw [HML.out]; omega) HMK.out).mono fun e w' ⟨v, h1, h2, h3⟩ => ⟨v, h1, by rw [HMW.out] at h2; exact h2.ops, h3⟩)
  have CT1 : Hid (∀ wx, Below w8.heap.size w8 wx → Calls Tryd.prog 13 #[.agg #[.int .i64 0, .int .i64 0, .int .i64 0, .slice (some ⟨g, o, none⟩) l.length cap]] wx fun e w' => e = .returned (.bool (steadyL l)) ∧ Below wx.heap.size wx w') := Lib.hid (fun wx h => steady_any 0 0 0 _ l wx (hA8.below h) HOK.out (by omega))
  have CT2 : Hid (∀ wx, Below w8.heap.size w8 wx → Calls Tryd.prog 13 #[.agg #[.int .i64 0, .int .i64 0, .int .i64 0, .slice am M.length cm]] wx fun e w' => e = .returned (.bool (steadyL l)) ∧ Below wx.heap.size wx w') := Lib.hid (fun wx h => by
    have := steady_any 0 0 0 _ M wx (hO8.below h) HMO.out (by rw [HML.out]; omega)
    rwa [HMS.out] at this)
  have CS : Hid (∀ wx va vb R, Ops wx va R → Ops wx vb R → Calls Tryd.prog 10 #[va, vb] wx fun e w' => e = .returned (.int .i64 1) ∧ Below wx.heap.size wx w') := Lib.hid (fun wx va vb R h1 h2 => by
    have := same5_any va vb R R wx h1 h2
    rwa [sameI_refl] at this)
  obtain ⟨a0, a1, a2, a3, a4, a5, a6, a7⟩ := HS8.out _ (Below.refl _ _)
  clear z0 z1 z2 z3 y0 y1 y2 y3 hO8 hA8 HOK HK HMO HMK HML HMR HMW HMS HMD HA HA6 HB6
  generalize refReads l = R1 at *
  generalize refWrites l = R2 at *
  generalize steadyL l = st at *
  have kk := Below.refl w8.heap.size w8
  go_region_held3 (fun w' => w'.cell? ⟨p, 0, none⟩ = some (.int .i64 0) ∧ w'.cell? ⟨p, 1, none⟩ = some (.int .i64 0) ∧ w'.cell? ⟨p, 2, none⟩ = some (.int .i64 0) ∧ w'.cell? ⟨p, 3, none⟩ = some (.slice (some ⟨g, o, none⟩) l.length cap) ∧ w'.cell? ⟨p + 1, 0, none⟩ = some (.int .i64 0) ∧ w'.cell? ⟨p + 1, 1, none⟩ = some (.int .i64 0) ∧ w'.cell? ⟨p + 1, 2, none⟩ = some (.int .i64 0) ∧ w'.cell? ⟨p + 1, 3, none⟩ = some (.slice am M.length cm))
    (first | exact HS8.out _ kk | exact HS8.out _ kk.drew | exact HS8.out _ (below_drewN kk _) | go_keep)
    (first
      | (go_at_call 11; have hmark := ho1; clear hmark; refine (CR2.out _ (by first | exact kk | exact kk.drew | exact below_drewN kk _)).mono ?_; rintro e wx ⟨v2, rfl, ho2, hbx⟩; have ho1 := ho1.below (w' := wx) (by first | exact hbx | exact ⟨hbx.os, hbx.tape, hbx.output, hbx.size, hbx.block⟩); have kk : Below w8.heap.size w8 wx := (by first | exact below_then kk hbx | exact below_then kk ⟨hbx.os, hbx.tape, hbx.output, hbx.size, hbx.block⟩))
      | (go_at_call 11; refine (CR1.out _ (by first | exact kk | exact kk.drew | exact below_drewN kk _)).mono ?_; rintro e wx ⟨v1, rfl, ho1, hbx⟩; have kk : Below w8.heap.size w8 wx := (by first | exact below_then kk hbx | exact below_then kk ⟨hbx.os, hbx.tape, hbx.output, hbx.size, hbx.block⟩))
      | (go_at_call 12; have hmark := hq1; clear hmark; refine (CW2.out _ (by first | exact kk | exact kk.drew | exact below_drewN kk _)).mono ?_; rintro e wx ⟨v4, rfl, hq2, hbx⟩; have hq1 := hq1.below (w' := wx) (by first | exact hbx | exact ⟨hbx.os, hbx.tape, hbx.output, hbx.size, hbx.block⟩); have kk : Below w8.heap.size w8 wx := (by first | exact below_then kk hbx | exact below_then kk ⟨hbx.os, hbx.tape, hbx.output, hbx.size, hbx.block⟩))
      | (go_at_call 12; refine (CW1.out _ (by first | exact kk | exact kk.drew | exact below_drewN kk _)).mono ?_; rintro e wx ⟨v3, rfl, hq1, hbx⟩; have kk : Below w8.heap.size w8 wx := (by first | exact below_then kk hbx | exact below_then kk ⟨hbx.os, hbx.tape, hbx.output, hbx.size, hbx.block⟩))
      | (go_at_call 13; have hmark := hst; clear hmark; refine (CT2.out _ (by first | exact kk | exact kk.drew | exact below_drewN kk _)).mono ?_; rintro e wx ⟨rfl, hbx⟩; have kk : Below w8.heap.size w8 wx := (by first | exact below_then kk hbx | exact below_then kk ⟨hbx.os, hbx.tape, hbx.output, hbx.size, hbx.block⟩))
      | (go_at_call 13; refine (CT1.out _ (by first | exact kk | exact kk.drew | exact below_drewN kk _)).mono ?_; rintro e wx ⟨rfl, hbx⟩; have hst := True.intro; have kk : Below w8.heap.size w8 wx := (by first | exact below_then kk hbx | exact below_then kk ⟨hbx.os, hbx.tape, hbx.output, hbx.size, hbx.block⟩))
      | (go_at_call 10; refine (CS.out _ _ _ _ (by first | exact hq1 | exact hq1.drewN _ | exact hq1.drewN 1) (by first | exact hq2 | exact hq2.drewN _ | exact hq2.drewN 1)).mono ?_; rintro e wx ⟨rfl, hbx⟩; have kk : Below w8.heap.size w8 wx := (by first | exact below_then kk hbx | exact below_then kk ⟨hbx.os, hbx.tape, hbx.output, hbx.size, hbx.block⟩))
      | (go_at_call 10; refine (CS.out _ _ _ _ (by first | exact ho1 | exact ho1.drewN _ | exact ho1.drewN 1) (by first | exact ho2 | exact ho2.drewN _ | exact ho2.drewN 1)).mono ?_; rintro e wx ⟨rfl, hbx⟩; have kk : Below w8.heap.size w8 wx := (by first | exact below_then kk hbx | exact below_then kk ⟨hbx.os, hbx.tape, hbx.output, hbx.size, hbx.block⟩)))
  have hbe := below_then hb8 kk
  have hst2 : (st == st) = true := by simp
  go_wp2_with fail
  go_ret
  exact ⟨rfl, hbe⟩
end Go.Proofs.YtlkdojcimlfmdaaDoor
