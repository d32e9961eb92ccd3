/- Walks and plain facts that the proof of the statement LeastMore uses, joined: LeaG LeaJ. Conditions: each theorem's own. -/
import Derived.Test.YtfekcmhjdjifgaaDoorPLeastMore5
namespace Go.Proofs.YtfekcmhjdjifgaaDoor
set_option maxRecDepth 100000
open Go.RowKit

theorem perm_take (O L : List Nat) (j : Nat) (hj : j < L.length) : (O ++ [L[j]] ++ (L.take j ++ L.drop (j + 1))).Perm (O ++ L) := by
  have e : L = L.take j ++ L[j] :: L.drop (j + 1) := by rw [← List.drop_eq_getElem_cons hj, List.take_append_drop]
  have h1 : (L.take j ++ L[j] :: L.drop (j + 1)).Perm (L[j] :: (L.take j ++ L.drop (j + 1))) := List.perm_middle
  rw [← e] at h1
  rw [List.append_assoc, List.singleton_append]
  exact (h1.symm).append_left O
theorem bytes_at {w : World} {ao : Option Addr} {n cap : Nat} {xs : List Int} (h : Row w (.slice ao n cap) xs.length 1 (xs.map (Value.int .u8))) {k : Nat} (hk : k < xs.length) :
    ∃ b off, ao = some ⟨b, off, none⟩ ∧ w.cell? ⟨b, off + k, none⟩ = some (.int .u8 xs[k]) := by
  obtain ⟨_, ao', cap', e, _, _, hc⟩ := h
  cases e
  obtain ⟨b, off, rfl, hcell⟩ := hc (by omega)
  refine ⟨b, off, rfl, ?_⟩
  rw [hcell k (by omega)]
  simp [hk]
set_option maxHeartbeats 16000000 in
theorem lrow_any (n : Nat) (hn : n ≤ 1000) (vb : Value) (bs : List Int) (w : World) (hB : Row w vb bs.length 1 (bs.map (Value.int .u8))) (hbs : ∀ x ∈ bs, 0 ≤ x ∧ x < 256) :
    Calls Tryd.prog 10 #[.int .i64 n, vb] w fun e w' => (∃ (v : Value) (L : List Nat), e = .returned v ∧ Ints w' v (L.map Int.ofNat) ∧ L.Perm (List.range n)) ∧ Below w.heap.size w w' := by
  obtain ⟨i0, hi, hz0, hz1, hz2⟩ := info_parts infoInt
  have HB := Lib.hid (fun wx (hx : Below w.heap.size w wx) => hB.below hx)
  have HBS := Lib.hid hbs
  obtain ⟨_, bo, bcap, rfl, hbm, _, _⟩ := hB
  clear hbs
  go_enter Tryd.func10, Tryd.ntmps10
  go_wp2_with fail
  go_loopw [5, 11] (fun v i wr => ∃ k : Nat, k ≤ n ∧ i = .int .i64 k ∧ wr.ownsRow w.heap.size 3 1 v k ((List.range k).map fun i : Nat => Value.int .i64 (i : Int)) ∧ Below w.heap.size w wr) (fun _ i _ => n - (intOf i).toNat)
  case atStart => exact ⟨0, by omega, rfl, World.ownsRow_nil _ _ _ _, Below.refl _ _⟩
  case round =>
    obtain ⟨k, hk, rfl, hown, hb⟩ := hrel
    by_cases hlt : k < n
    · have hki : (k : Int) < (n : Int) := by omega
      have HR : Hid ((List.range (k + 1)).map (fun i : Nat => Value.int .i64 (i : Int)) = (List.range k).map (fun i : Nat => Value.int .i64 (i : Int)) ++ [.int .i64 (k : Int)]) := Lib.hid (by rw [List.range_succ, List.map_append]; rfl)
      generalize (List.range k).map (fun i : Nat => Value.int .i64 (i : Int)) = xs at *
      go_wp2_with (at_builtin; refine wpList_append_own _ rfl _ _ 32 rfl w.heap.size 3 i0 (.int .i64 0) 1 8 Tryd.underlying32 hi hz0 hz1 hz2 rfl (by decide) _ _ _ rfl (hown.alloc _) ⟨_, 0, none⟩ 1 1 [.int .i64 (k : Int)] rfl rfl ?c1 ?c2 ?c3 ?c4 ?c5 ?_)
      try case c1 => exact cell_one_new _ _ _
      case c2 => first | rfl | (intro u hu; simp at hu; subst hu; rfl)
      case c3 => unfold maxLen; omega
      case c4 => omega
      case c5 => have := hb.size; simp; omega
      intro v6 w6 hown6 hg6 _
      have hsz := hb.size
      have hb6 : Below w.heap.size w w6 := hb.trans (below_app (Below.refl _ _) hsz hown hg6)
      clear hown hg6 hb
      go_wp2_with fail
      go_roundw
      case rel => exact ⟨k + 1, by omega, by go_num, by rw [HR.out]; exact hown6, hb6⟩
      case measure => simp [intOf]; omega
    · have hkn : k = n := by omega
      subst hkn
      have hI : Ints wr u5 ((List.range k).map Int.ofNat) := Ints.of_nats hown
      have HP : Hid (([] ++ List.range k).Perm (List.range k)) := Lib.hid (List.Perm.refl _)
      have hll : (List.range k).length = k := List.length_range
      obtain ⟨L0, hL0⟩ : ∃ L, L = List.range k := ⟨_, rfl⟩
      rw [← hL0] at hI
      have HP0 : Hid (([] ++ L0).Perm (List.range k)) := Lib.hid (by rw [hL0]; exact List.Perm.refl _)
      have hl0 : L0.length = k := by rw [hL0]; exact hll
      clear hown HP hll hL0 hlt
      obtain ⟨av, cv, rfl⟩ : ∃ a c, u5 = .slice a k c := by
        obtain ⟨a, c, e, _⟩ := hI.form
        rw [List.length_map, hl0] at e
        exact ⟨a, c, e⟩
      have hl0 := Lib.hid hl0
      go_wp2_with fail
      go_loopw [5, 6, 8] (fun vl vo iv wx => ∃ (L O : List Nat) (i : Nat), iv = .int .i64 i ∧ O.length = i ∧ wx.ownsRow w.heap.size 3 1 vo O.length (O.map fun i : Nat => Value.int .i64 (i : Int)) ∧ Ints wx vl (L.map Int.ofNat) ∧ (∀ b, vo.ownBlock = some b → vl.ownBlock ≠ some b) ∧ (O ++ L).Perm (List.range k) ∧ Below w.heap.size w wx)
        (fun vl _ _ _ => lenV vl)
      case atStart => exact ⟨L0, [], 0, rfl, rfl, World.ownsRow_nil _ _ _ _, hI, fun b h => by simp [Value.ownBlock] at h, HP0.out, hb⟩
      case round =>
        obtain ⟨L, O, i, rfl, hOi, hown, hI, hap, hperm, hb⟩ := hrel
        have HP := Lib.hid hperm
        have hlen : O.length + L.length = k := by have := hperm.length_eq; simpa using this
        have hik : i ≤ k := by omega
        have hok : O.length ≤ k := by omega
        have hLk : L.length ≤ k := by omega
        clear hperm HP0
        obtain ⟨lo, lcap, rfl, ⟨hlc, hlm⟩, hno⟩ := hI.full
        rw [List.length_map] at hlc hno
        rw [List.length_map] at hI ⊢
        rcases Nat.eq_zero_or_pos L.length with h0 | h0
        · have hL : L = [] := List.eq_nil_of_length_eq_zero h0
          subst hL
          have HR : Hid (O.Perm (List.range k)) := Lib.hid (by have := HP.out; rwa [List.append_nil] at this)
          have hIO := Ints.of_nats hown
          clear hOi hlen hI HP hown hap
          go_wp2_with fail
          go_ret
          exact ⟨⟨_, O, rfl, hIO, HR.out⟩, hb⟩
        · have hL0i : (0 : Int) < (L.length : Int) := by omega
          have HOI := Lib.hid hOi
          have HLN := Lib.hid hlen
          clear hOi hlen hl0 hno
          by_cases hbi : i < bs.length
          · have hbii : (i : Int) < (bs.length : Int) := by omega
            obtain ⟨x, hx⟩ : ∃ x, x = bs[i] := ⟨_, rfl⟩
            have hxr := HBS.out bs[i] (List.getElem_mem hbi)
            obtain ⟨gb, ob, hao, e0⟩ := bytes_at (HB.out _ hb) hbi
            cases hao
            rw [← hx] at hxr e0
            obtain ⟨hx0, hx1⟩ := hxr
            obtain ⟨j, hj⟩ : ∃ j : Nat, x % (L.length : Int) = (j : Int) := ⟨(x % (L.length : Int)).toNat, by have := Int.emod_nonneg x (show (L.length : Int) ≠ 0 by omega); omega⟩
            have hjl : j < L.length := by have := Int.emod_lt_of_pos x hL0i; omega
            clear hx
            go_upto_region 13 with fail
            rw [hj]
            clear e0 hj hx0 hx1
            obtain ⟨g, o, hgo, hcj⟩ := ints_at hI hjl
            cases hgo
            have hji : (j : Int) < (L.length : Int) := by omega
            have HPM : Hid ((O ++ [L[j]] ++ (L.take j ++ L.drop (j + 1))).Perm (List.range k)) := Lib.hid ((perm_take O L j hjl).trans HP.out)
            have HLM : Hid ((L.take j ++ L.drop (j + 1)).length + 1 = L.length) := Lib.hid (by simp; omega)
            generalize L[j] = y at *
            have HI := Lib.hid hI
            have HAP := Lib.hid hap
            clear hI hap
            go_wp2_with (at_builtin; refine wpList_append_own _ rfl _ _ 32 rfl w.heap.size 3 i0 (.int .i64 0) 1 8 Tryd.underlying32 hi hz0 hz1 hz2 rfl (by decide) _ _ _ rfl (hown.alloc _) ⟨_, 0, none⟩ 1 1 [.int .i64 (y : Int)] rfl rfl ?c1 ?c2 ?c3 ?c4 ?c5 ?_)
            try case c1 => exact cell_one_new _ _ _
            case c2 => first | rfl | (intro u hu; simp at hu; subst hu; rfl)
            case c3 => unfold maxLen; omega
            case c4 => omega
            case c5 => have := hb.size; simp; omega
            intro v6 w6 hown6 hg6 _
            have hsz := hb.size
            have hb6 : Below w.heap.size w w6 := hb.trans (below_app (Below.refl _ _) hsz hown hg6)
            have hI6 : Ints w6 (.slice (some ⟨g, o, none⟩) L.length lcap) (L.map Int.ofNat) := by
              have h := (HI.out.below ((Below.refl _ _).alloc (Nat.le_refl _) _)).grown hg6 HAP.out
              exact h
            clear hown hg6 hb hcj HI HAP
            have hs6 := hb6.size
            have hW : Below w6.heap.size w6 (w6.drew.alloc (.cells #[] 3)) := (⟨rfl, rfl, rfl, Nat.le_refl _, fun _ _ => rfl⟩ : Below w6.heap.size w6 w6.drew).alloc (Nat.le_refl _) _
            have HOW := Lib.hid (World.ownsRow_made (base := w6.heap.size) (e := 3) (size := 1) w6.drew #[] 0 (Nat.le_refl _) (by decide) rfl)
            obtain ⟨A, hA, HC2⟩ : ∃ A : Addr, (if lcap = j + 1 then some (⟨g, o, none⟩ : Addr) else some ⟨g, o + (j + 1), none⟩) = some A ∧ Hid (∀ w7, Below w6.heap.size w6 w7 → ∀ i u, ((L.drop (j + 1)).map fun i : Nat => Value.int .i64 (i : Int))[i]? = some u → w7.cell? (A.add i) = some u) := by
              by_cases h : lcap = j + 1
              · refine ⟨⟨g, o, none⟩, by simp [h], fun w7 hb7 i u hu => ?_⟩
                rw [List.drop_eq_nil_of_le (by omega)] at hu
                simp at hu
              · exact ⟨⟨g, o + (j + 1), none⟩, by simp [h], fun w7 hb7 => (hI6.below hb7).news (j + 1)⟩
            have HC1 : Hid (∀ i u, ((L.take j).map fun i : Nat => Value.int .i64 (i : Int))[i]? = some u → (w6.drew.alloc (.cells #[] 3)).cell? ((⟨g, o, none⟩ : Addr).add i) = some u) := Lib.hid (fun i u hu => by
              have hi : i < j := by
                have := (List.getElem?_eq_some_iff.1 hu).1
                simp at this; omega
              refine (hI6.below hW).news 0 i u ?_
              rw [List.drop_zero, ← hu, List.map_take, List.getElem?_take, if_pos hi])
            have s1 : Hid (((L.take j).map fun i : Nat => Value.int .i64 (i : Int)).length = j * 1) := Lib.hid (by simp; omega)
            have s2 : Hid (∀ u ∈ ((L.take j).map fun i : Nat => Value.int .i64 (i : Int)), u.oneCell' = true) := Lib.hid (fun u hu => by
              obtain ⟨x, _, rfl⟩ := List.mem_map.1 hu
              rfl)
            have t1 : Hid (((L.drop (j + 1)).map fun i : Nat => Value.int .i64 (i : Int)).length = (L.length - (j + 1)) * 1) := Lib.hid (by simp)
            have t2 : Hid (∀ u ∈ ((L.drop (j + 1)).map fun i : Nat => Value.int .i64 (i : Int)), u.oneCell' = true) := Lib.hid (fun u hu => by
              obtain ⟨x, _, rfl⟩ := List.mem_map.1 hu
              rfl)
            have HS5 : Hid (w6.heap.size ≤ (w6.drew.alloc (.cells #[] 3)).heap.size) := Lib.hid hW.size
            have HB7 : Hid (∀ w7, (w6.drew.alloc (.cells #[] 3)).grownBy w7 (some w6.heap.size) → Below w6.heap.size w6 w7) := Lib.hid (fun w7 hg => hW.grown hg hW.size (fun k hk => by cases hk; exact Nat.le_refl _))
            have hjc : j ≤ lcap := by omega
            have hwr : IntKind.i64.wrap ((j : Int) + 1) = (j : Int) + 1 := by rw [IntKind.wrap_i64]; omega
            have hp0 : (0 : Int) ≤ (j : Int) + 1 := by omega
            have hp1 : (j : Int) + 1 ≤ (L.length : Int) := by omega
            have hp2 : ((j : Int) + 1).toNat = j + 1 := by omega
            have HI6 := Lib.hid hI6
            have HO6 := Lib.hid hown6
            clear hI6 hown6 hW
            go_wp2_with fail
            go_region_law (first
              | (refine step_append_own _ rfl (.tmp 47) (.tmp 51) 32 rfl w6.heap.size 3 i0 (.int .i64 0) 1 8 Tryd.underlying32 hi hz0 hz1 hz2 rfl (by decide) v7 (0 + j) _ (by simp [Act.eval]) hown7 A (L.length - (j + 1)) (lcap - (j + 1)) _ (by simp [Act.eval]) t1.out (HC2.out _ (HB7.out _ hg7)) t2.out (by unfold maxLen; omega) (by omega) (Nat.le_trans HS5.out hg7.size) ?_
                 intro v8 w8 hown8 hg8)
              | (refine step_append_own _ rfl (.tmp 43) (.tmp 46) 32 rfl w6.heap.size 3 i0 (.int .i64 0) 1 8 Tryd.underlying32 hi hz0 hz1 hz2 rfl (by decide) _ 0 [] (by simp [Act.eval]) HOW.out ⟨g, o, none⟩ j lcap _ (by simp [Act.eval]) s1.out HC1.out s2.out (by unfold maxLen; omega) (by omega) HS5.out ?_
                 intro v7 w7 hown7 hg7))
            have hb8 : Below w6.heap.size w6 w8 := (HB7.out _ hg7).trans ((Below.refl _ _).grown hg8 (Nat.le_trans HS5.out hg7.size) (fun k hk => (hown7.lt k hk).1))
            have hI8 : Ints w8 v8 ((L.take j ++ L.drop (j + 1)).map Int.ofNat) := by
              refine Ints.of_nats (base := w6.heap.size) (e := 3) (n := 0 + j + (L.length - (j + 1))) ?_
              rw [List.map_append]
              exact hown8
            have hlv := owns_lenV hown8
            have hap8 : ∀ b, v6.ownBlock = some b → v8.ownBlock ≠ some b := fun b h6 h8 => by
              have := (HO6.out.lt b h6).2
              have := (hown8.lt b h8).1
              omega
            have ho8 := owns_below HO6.out hb8
            have hbe := hb6.trans (hb8.mono hs6)
            clear HB7 HC1 HC2 HOW HI6 HO6 hown7 hg7 hown8 hg8 hb8
            go_simp
            go_wp2
            go_roundw
            case rel => exact ⟨L.take j ++ L.drop (j + 1), O ++ [y], i + 1, by go_num, by have := HOI.out; rw [List.length_append]; simp; omega, by simpa using ho8, hI8, hap8, HPM.out, hbe⟩
            case measure => rw [hlv]; simp [lenV]; omega
          · have hbii : ¬ (i : Int) < (bs.length : Int) := by omega
            obtain ⟨j, hj⟩ : ∃ j : Nat, (0 : Int) = (j : Int) ∧ j < L.length := ⟨0, rfl, h0⟩
            obtain ⟨hj0, hjl⟩ := hj
            go_upto_region 13 with fail
            rw [hj0]
            clear hj0
            obtain ⟨g, o, hgo, hcj⟩ := ints_at hI hjl
            cases hgo
            have hji : (j : Int) < (L.length : Int) := by omega
            have HPM : Hid ((O ++ [L[j]] ++ (L.take j ++ L.drop (j + 1))).Perm (List.range k)) := Lib.hid ((perm_take O L j hjl).trans HP.out)
            have HLM : Hid ((L.take j ++ L.drop (j + 1)).length + 1 = L.length) := Lib.hid (by simp; omega)
            generalize L[j] = y at *
            have HI := Lib.hid hI
            have HAP := Lib.hid hap
            clear hI hap
            go_wp2_with (at_builtin; refine wpList_append_own _ rfl _ _ 32 rfl w.heap.size 3 i0 (.int .i64 0) 1 8 Tryd.underlying32 hi hz0 hz1 hz2 rfl (by decide) _ _ _ rfl (hown.alloc _) ⟨_, 0, none⟩ 1 1 [.int .i64 (y : Int)] rfl rfl ?c1 ?c2 ?c3 ?c4 ?c5 ?_)
            try case c1 => exact cell_one_new _ _ _
            case c2 => first | rfl | (intro u hu; simp at hu; subst hu; rfl)
            case c3 => unfold maxLen; omega
            case c4 => omega
            case c5 => have := hb.size; simp; omega
            intro v6 w6 hown6 hg6 _
            have hsz := hb.size
            have hb6 : Below w.heap.size w w6 := hb.trans (below_app (Below.refl _ _) hsz hown hg6)
            have hI6 : Ints w6 (.slice (some ⟨g, o, none⟩) L.length lcap) (L.map Int.ofNat) := by
              have h := (HI.out.below ((Below.refl _ _).alloc (Nat.le_refl _) _)).grown hg6 HAP.out
              exact h
            clear hown hg6 hb hcj HI HAP
            have hs6 := hb6.size
            have hW : Below w6.heap.size w6 (w6.drew.alloc (.cells #[] 3)) := (⟨rfl, rfl, rfl, Nat.le_refl _, fun _ _ => rfl⟩ : Below w6.heap.size w6 w6.drew).alloc (Nat.le_refl _) _
            have HOW := Lib.hid (World.ownsRow_made (base := w6.heap.size) (e := 3) (size := 1) w6.drew #[] 0 (Nat.le_refl _) (by decide) rfl)
            obtain ⟨A, hA, HC2⟩ : ∃ A : Addr, (if lcap = j + 1 then some (⟨g, o, none⟩ : Addr) else some ⟨g, o + (j + 1), none⟩) = some A ∧ Hid (∀ w7, Below w6.heap.size w6 w7 → ∀ i u, ((L.drop (j + 1)).map fun i : Nat => Value.int .i64 (i : Int))[i]? = some u → w7.cell? (A.add i) = some u) := by
              by_cases h : lcap = j + 1
              · refine ⟨⟨g, o, none⟩, by simp [h], fun w7 hb7 i u hu => ?_⟩
                rw [List.drop_eq_nil_of_le (by omega)] at hu
                simp at hu
              · exact ⟨⟨g, o + (j + 1), none⟩, by simp [h], fun w7 hb7 => (hI6.below hb7).news (j + 1)⟩
            have HC1 : Hid (∀ i u, ((L.take j).map fun i : Nat => Value.int .i64 (i : Int))[i]? = some u → (w6.drew.alloc (.cells #[] 3)).cell? ((⟨g, o, none⟩ : Addr).add i) = some u) := Lib.hid (fun i u hu => by
              have hi : i < j := by
                have := (List.getElem?_eq_some_iff.1 hu).1
                simp at this; omega
              refine (hI6.below hW).news 0 i u ?_
              rw [List.drop_zero, ← hu, List.map_take, List.getElem?_take, if_pos hi])
            have s1 : Hid (((L.take j).map fun i : Nat => Value.int .i64 (i : Int)).length = j * 1) := Lib.hid (by simp; omega)
            have s2 : Hid (∀ u ∈ ((L.take j).map fun i : Nat => Value.int .i64 (i : Int)), u.oneCell' = true) := Lib.hid (fun u hu => by
              obtain ⟨x, _, rfl⟩ := List.mem_map.1 hu
              rfl)
            have t1 : Hid (((L.drop (j + 1)).map fun i : Nat => Value.int .i64 (i : Int)).length = (L.length - (j + 1)) * 1) := Lib.hid (by simp)
            have t2 : Hid (∀ u ∈ ((L.drop (j + 1)).map fun i : Nat => Value.int .i64 (i : Int)), u.oneCell' = true) := Lib.hid (fun u hu => by
              obtain ⟨x, _, rfl⟩ := List.mem_map.1 hu
              rfl)
            have HS5 : Hid (w6.heap.size ≤ (w6.drew.alloc (.cells #[] 3)).heap.size) := Lib.hid hW.size
            have HB7 : Hid (∀ w7, (w6.drew.alloc (.cells #[] 3)).grownBy w7 (some w6.heap.size) → Below w6.heap.size w6 w7) := Lib.hid (fun w7 hg => hW.grown hg hW.size (fun k hk => by cases hk; exact Nat.le_refl _))
            have hjc : j ≤ lcap := by omega
            have hwr : IntKind.i64.wrap ((j : Int) + 1) = (j : Int) + 1 := by rw [IntKind.wrap_i64]; omega
            have hp0 : (0 : Int) ≤ (j : Int) + 1 := by omega
            have hp1 : (j : Int) + 1 ≤ (L.length : Int) := by omega
            have hp2 : ((j : Int) + 1).toNat = j + 1 := by omega
            have HI6 := Lib.hid hI6
            have HO6 := Lib.hid hown6
            clear hI6 hown6 hW
            go_wp2_with fail
            go_region_law (first
              | (refine step_append_own _ rfl (.tmp 47) (.tmp 51) 32 rfl w6.heap.size 3 i0 (.int .i64 0) 1 8 Tryd.underlying32 hi hz0 hz1 hz2 rfl (by decide) v7 (0 + j) _ (by simp [Act.eval]) hown7 A (L.length - (j + 1)) (lcap - (j + 1)) _ (by simp [Act.eval]) t1.out (HC2.out _ (HB7.out _ hg7)) t2.out (by unfold maxLen; omega) (by omega) (Nat.le_trans HS5.out hg7.size) ?_
                 intro v8 w8 hown8 hg8)
              | (refine step_append_own _ rfl (.tmp 43) (.tmp 46) 32 rfl w6.heap.size 3 i0 (.int .i64 0) 1 8 Tryd.underlying32 hi hz0 hz1 hz2 rfl (by decide) _ 0 [] (by simp [Act.eval]) HOW.out ⟨g, o, none⟩ j lcap _ (by simp [Act.eval]) s1.out HC1.out s2.out (by unfold maxLen; omega) (by omega) HS5.out ?_
                 intro v7 w7 hown7 hg7))
            have hb8 : Below w6.heap.size w6 w8 := (HB7.out _ hg7).trans ((Below.refl _ _).grown hg8 (Nat.le_trans HS5.out hg7.size) (fun k hk => (hown7.lt k hk).1))
            have hI8 : Ints w8 v8 ((L.take j ++ L.drop (j + 1)).map Int.ofNat) := by
              refine Ints.of_nats (base := w6.heap.size) (e := 3) (n := 0 + j + (L.length - (j + 1))) ?_
              rw [List.map_append]
              exact hown8
            have hlv := owns_lenV hown8
            have hap8 : ∀ b, v6.ownBlock = some b → v8.ownBlock ≠ some b := fun b h6 h8 => by
              have := (HO6.out.lt b h6).2
              have := (hown8.lt b h8).1
              omega
            have ho8 := owns_below HO6.out hb8
            have hbe := hb6.trans (hb8.mono hs6)
            clear HB7 HC1 HC2 HOW HI6 HO6 hown7 hg7 hown8 hg8 hb8
            go_simp
            go_wp2
            go_roundw
            case rel => exact ⟨L.take j ++ L.drop (j + 1), O ++ [y], i + 1, by go_num, by have := HOI.out; rw [List.length_append]; simp; omega, by simpa using ho8, hI8, hap8, HPM.out, hbe⟩
            case measure => rw [hlv]; simp [lenV]; omega
end Go.Proofs.YtfekcmhjdjifgaaDoor

namespace Go.Proofs.YtfekcmhjdjifgaaDoor
set_option maxRecDepth 100000
open Go.RowKit

theorem yields_eql2 {ops : Array Oper} {S : World → Prop} {o : Oper} {a : Act} {R T : Mat} (hw : Region.wanted o (yielded ops a.tmps) = true) (x y : Operand) (ho : o.op = .binOp .eql 37 x y 37)
    (hx : a.eval x = .agg (rowsA R)) (hy : a.eval y = .agg (rowsA T)) (hf : rowsA R = rowsA T) : YieldsIf Tryd.prog ops S o (.bool true) a :=
  .inl ⟨hw, fun w _ => by
    unfold execOp
    simp only [ho, hx, hy, Sem.run_bind, run_guard_rel, run_eql_yes R T hf, Result.andThen_ok, Sem.run_pure]⟩
/-- What lies in the block of the case that is handed in. -/
def CaseS (p : Nat) (vh : Value) (a : Nat) (vb : Value) (w : World) : Prop := w.cell? ⟨p, 0, none⟩ = some vh ∧ w.cell? ⟨p, 1, none⟩ = some (.int .u8 a) ∧ w.cell? ⟨p, 2, none⟩ = some vb
theorem CaseS.below {p a : Nat} {vh vb : Value} {w w' : World} (h : CaseS p vh a vb w) (hb : Below w.heap.size w w') : CaseS p vh a vb w' := by
  obtain ⟨h0, h1, h2⟩ := h
  exact ⟨(hb.cell (p := ⟨p, 0, none⟩) (block_lt h0)).trans h0, (hb.cell (p := ⟨p, 1, none⟩) (block_lt h1)).trans h1, (hb.cell (p := ⟨p, 2, none⟩) (block_lt h2)).trans h2⟩
theorem or_u8 (a b : Nat) (ha : a < 256) (hb : b < 256) : bits .or .u8 (a : Int) (b : Int) = ((a ||| b : Nat) : Int) := by
  have hx : (a ||| b) < 256 := Nat.or_lt_two_pow (n := 8) ha hb
  have h1 : (BitVec.ofInt 8 (a : Int)).toNat = a := by
    rw [BitVec.ofInt_natCast, BitVec.toNat_ofNat]; exact Nat.mod_eq_of_lt (by omega)
  have h2 : (BitVec.ofInt 8 (b : Int)).toNat = b := by
    rw [BitVec.ofInt_natCast, BitVec.toNat_ofNat]; exact Nat.mod_eq_of_lt (by omega)
  show IntKind.u8.wrap ((BitVec.ofInt 8 (a : Int) ||| BitVec.ofInt 8 (b : Int)).toNat : Int) = _
  rw [BitVec.toNat_or, h1, h2, IntKind.wrap_u8]
  omega
set_option maxRecDepth 100000 in
set_option maxHeartbeats 32000000 in
theorem more11_walk (vh vb : Value) (h : List TxnV) (bs : List Int) (a m : Nat) (w : World) (ht : Tab w) (hT : Txns w vh h) (hok : ∀ t ∈ h, t.ok) (hsh : Short h) (hB : Row w vb bs.length 1 (bs.map (Value.int .u8))) (hbs : ∀ x ∈ bs, 0 ≤ x ∧ x < 256) (ha : a < 256) (hm : m < 256) :
    Calls Tryd.prog 3 #[.agg #[vh, .int .u8 a, vb], .int .u8 m] w fun e w' => e = .returned (.bool true) ∧ Below w.heap.size w w' := by
  have hg := ht.pos
  have HT : Hid (∀ wx, Below w.heap.size w wx → Tab wx) := Lib.hid (fun wx hb => ht.below hb hg)
  have HH := Lib.hid (fun wx (hx : Below w.heap.size w wx) => hT.below hx)
  have HBY := Lib.hid (fun wx (hx : Below w.heap.size w wx) => hB.below hx)
  obtain ⟨ao, cap, rfl, hal⟩ := hT.form
  have HOK := Lib.hid hok
  have HSH := Lib.hid hsh
  have HBS := Lib.hid hbs
  have hbx := box_below w (.cells #[.slice ao h.length cap, .int .u8 a, vb] 25)
  have hC0 : CaseS w.heap.size (.slice ao h.length cap) a vb (w.alloc (.cells #[.slice ao h.length cap, .int .u8 a, vb] 25)) := by
    refine ⟨?_, ?_, ?_⟩ <;> (rw [cell_of_row _ _ _ _ _ _ (heap_alloc_new w _)]; rfl)
  obtain ⟨bo, bcap, rfl⟩ : ∃ bo bcap, vb = .slice bo bs.length bcap := by
    obtain ⟨_, bo, bcap, e, _⟩ := hB
    exact ⟨bo, bcap, e⟩
  clear ht hT hok hB hbs
  go_enter Tryd.func3, Tryd.ntmps3
  go_upto_region 1 with fail
  generalize w.alloc (.cells #[.slice ao h.length cap, .int .u8 a, .slice bo bs.length bcap] 25) = w0 at *
  go_wp2_with fail
  refine (speaks11_any _ (HT.out _ hbx)).mono ?_
  rintro e w1 ⟨rfl, hb1⟩
  have hC1 := hC0.below hb1
  have hb1 := below_then hbx hb1
  obtain ⟨n0, n1, n2⟩ := hC1
  go_wp2_with fail
  refine (small_any _ h _ (HH.out _ hb1) HSH.out).mono ?_
  rintro e w2 ⟨rfl, hb2⟩
  have hC2 := CaseS.below ⟨n0, n1, n2⟩ hb2
  have hb2 := below_then hb1 hb2
  clear n0 n1 n2 hb1 hC0 hbx
  by_cases hs : smallI h = 0
  · rw [hs]
    go_wp2_with fail
    go_ret
    exact ⟨rfl, hb2⟩
  obtain ⟨h7, hc, h1⟩ := small_no hs
  rw [h1]
  have CO := Lib.hid (of_done _ h w2 (HH.out _ hb2) HOK.out HSH.out hc)
  have HC := Lib.hid hc
  clear hs h1 hc hsh
  obtain ⟨n0, n1, n2⟩ := hC2
  go_wp2_with fail
  refine (CO.out).mono ?_
  rintro e w3 ⟨⟨B, rfl, hB, hO⟩, hb3⟩
  have hC3 := CaseS.below ⟨n0, n1, n2⟩ hb3
  have hb3' := hb3
  have hb3 := below_then hb2 hb3
  clear n0 n1 n2 hb2 CO hB hb3'
  have CR := Lib.hid (lrow_any h.length (by omega) _ bs w3 (HBY.out _ hb3) HBS.out)
  obtain ⟨n0, n1, n2⟩ := hC3
  go_wp2_with fail
  refine (CR.out).mono ?_
  rintro e w4 ⟨⟨vr, L, rfl, hI, hP⟩, hb4⟩
  have hO4 := hO.below hb4
  have hC4 := CaseS.below ⟨n0, n1, n2⟩ hb4
  have hb4 := below_then hb3 hb4
  have hnd : (L.map Int.ofNat).Nodup := nodup_ofNat (hP.nodup_iff.2 List.nodup_range)
  clear n0 n1 n2 hb3 hO CR hP
  have HND := Lib.hid hnd
  have ha2 : a < 9223372036854775808 := by omega
  have hm2 : (a ||| m) < 9223372036854775808 := by have : (a ||| m) < 256 := Nat.or_lt_two_pow (n := 8) ha hm; omega
  have HMN : Hid (∀ R1 R2, LeastIs h a (L.map Int.ofNat) R1 → LeastIs h (a ||| m) (L.map Int.ofNat) R2 → inM R1 R2 = true) := Lib.hid (fun R1 R2 h1 h2 => least_mono ha2 hm2 (fun k hk => by rw [Nat.testBit_or, hk]; rfl) h1 h2)
  have HCN : Hid (∀ R1 R3, LeastIs h a (L.map Int.ofNat) R1 → LeastIs h (clI (a : Int)) (L.map Int.ofNat) R3 → inM R1 (chainR (L.map Int.ofNat)) = true → rowsA R1 = rowsA R3) := Lib.hid (fun R1 R3 h1 h3 hin => least_closed HC.out HND.out ha2 h1 h3 hin)
  have HRW := Lib.hid (fun wx (hx : Below w4.heap.size w4 wx) => hI.below hx)
  have HS := Lib.hid (fun wx (hx : Below w4.heap.size w4 wx) => hC4.below hx)
  have HFIN := Lib.hid (fun wx (hx : Below w4.heap.size w4 wx) => hb4.trans (hx.mono hb4.size))
  have CA := Lib.hid (fun wx (hx : Below w4.heap.size w4 wx) => lof_any (a : Int) vr (L.map Int.ofNat) h B (B + 2) wx (hO4.below hx) HC.out (HT.out _ (hb4.trans (hx.mono hb4.size))) (hI.below hx))
  have CB := Lib.hid (fun wx (hx : Below w4.heap.size w4 wx) => lof_any ((a ||| m : Nat) : Int) vr (L.map Int.ofNat) h B (B + 2) wx (hO4.below hx) HC.out (HT.out _ (hb4.trans (hx.mono hb4.size))) (hI.below hx))
  have CD := Lib.hid (fun wx (hx : Below w4.heap.size w4 wx) => lof_any ((clI (a : Int) : Nat) : Int) vr (L.map Int.ofNat) h B (B + 2) wx (hO4.below hx) HC.out (HT.out _ (hb4.trans (hx.mono hb4.size))) (hI.below hx))
  have CC := Lib.hid (fun wx => lclosed_any (a : Int) wx)
  obtain ⟨ro, rcap, rfl, _⟩ := hI.form
  simp only [List.length_map] at CA CB CD HRW
  have hor := or_u8 a m ha hm
  have hwa : IntKind.i64.wrap (a : Int) = (a : Int) := by rw [IntKind.wrap_i64]; omega
  have hwm : IntKind.i64.wrap ((a ||| m : Nat) : Int) = ((a ||| m : Nat) : Int) := by have h9 : (a ||| m) < 256 := Nat.or_lt_two_pow (n := 8) ha hm; rw [IntKind.wrap_i64]; omega
  have kd := (Below.refl w4.heap.size w4).drew
  clear hO4 hI hC4 hb4 hnd ha2 hm2 hal
  go_upto_region 9 with fail
  go_cut [8, 9] from 8 to 48 (fun u8 u9 wx => ∃ (p8 p9 : Nat) (R1 R2 : Mat), u8 = .pointer (some ⟨p8, 0, none⟩) ∧ u9 = .pointer (some ⟨p9, 0, none⟩) ∧ RelAt wx p8 37 R1 ∧ RelAt wx p9 37 R2 ∧ LeastIs h a (L.map Int.ofNat) R1 ∧ LeastIs h (a ||| m) (L.map Int.ofNat) R2 ∧ Below w4.heap.size w4 wx)
  case first =>
    refine wp_region_held_drew (S := CaseS w.heap.size (.slice ao h.length cap) a (.slice bo bs.length bcap)) (by kernel_rfl) (HS.out _ kd) (fun hS0 => ?_)
    refine takeG (some 35) (i := 0) (v := ?v90) rfl rfl (by kernel_rfl) (by kernel_rfl) (by kernel_rfl) (fun _ _ _ h => h) (Or.inl ⟨by rfl, ?h90⟩) hS0 ?r90
    case h90 => (intro w hw; obtain ⟨n0, n1, n2⟩ := hw; go_simp; try (with_reducible rfl))
    try simp only [Act.put, List.setIfInBounds_toArray, List.set_cons_zero, List.set_cons_succ]
    refine takeG (some 36) (i := 1) (v := ?v91) rfl rfl (by kernel_rfl) (by kernel_rfl) (by kernel_rfl) (fun _ _ _ h => h) (Or.inl ⟨by rfl, ?h91⟩) hS0 ?r91
    case h91 => (intro w hw; obtain ⟨n0, n1, n2⟩ := hw; go_simp; try (with_reducible rfl))
    try simp only [Act.put, List.setIfInBounds_toArray, List.set_cons_zero, List.set_cons_succ]
    refine takeG (some 37) (i := 2) (v := ?v92) rfl rfl (by kernel_rfl) (by kernel_rfl) (by kernel_rfl) (fun _ _ _ h => h) (Or.inl ⟨by rfl, ?h92⟩) hS0 ?r92
    case h92 => (intro w hw; obtain ⟨n0, n1, n2⟩ := hw; go_simp; try (with_reducible rfl))
    try simp only [Act.put, List.setIfInBounds_toArray, List.set_cons_zero, List.set_cons_succ]
    refine takeG (some 38) (i := 3) (v := ?v93) rfl rfl (by kernel_rfl) (by kernel_rfl) (by kernel_rfl) (fun _ _ _ h => h) (Or.inl ⟨by rfl, ?h93⟩) hS0 ?r93
    case h93 => (intro w hw; obtain ⟨n0, n1, n2⟩ := hw; go_simp; try (with_reducible rfl))
    try simp only [Act.put, List.setIfInBounds_toArray, List.set_cons_zero, List.set_cons_succ]
    refine takeG (some 39) (i := 4) (v := ?v94) rfl rfl (by kernel_rfl) (by kernel_rfl) (by kernel_rfl) (fun _ _ _ h => h) (Or.inl ⟨by rfl, ?h94⟩) hS0 ?r94
    case h94 => (intro w hw; obtain ⟨n0, n1, n2⟩ := hw; go_simp; try (with_reducible rfl))
    try simp only [Act.put, List.setIfInBounds_toArray, List.set_cons_zero, List.set_cons_succ]
    refine takeG (some 41) (i := 6) (v := ?v96) rfl rfl (by kernel_rfl) (by kernel_rfl) (by kernel_rfl) (fun _ _ _ h => h) (Or.inl ⟨by rfl, ?h96⟩) hS0 ?r96
    case h96 => (intro w hw; obtain ⟨n0, n1, n2⟩ := hw; go_simp; try (with_reducible rfl))
    try simp only [Act.put, List.setIfInBounds_toArray, List.set_cons_zero, List.set_cons_succ]
    refine takeG (some 42) (i := 7) (v := ?v97) rfl rfl (by kernel_rfl) (by kernel_rfl) (by kernel_rfl) (fun _ _ _ h => h) (Or.inl ⟨by rfl, ?h97⟩) hS0 ?r97
    case h97 => (intro w hw; obtain ⟨n0, n1, n2⟩ := hw; go_simp; try (with_reducible rfl))
    try simp only [Act.put, List.setIfInBounds_toArray, List.set_cons_zero, List.set_cons_succ]
    refine takeG (some 43) (i := 8) (v := ?v98) rfl rfl (by kernel_rfl) (by kernel_rfl) (by kernel_rfl) (fun _ _ _ h => h) (Or.inl ⟨by rfl, ?h98⟩) hS0 ?r98
    case h98 => (intro w hw; obtain ⟨n0, n1, n2⟩ := hw; go_simp; try (with_reducible rfl))
    try simp only [Act.put, List.setIfInBounds_toArray, List.set_cons_zero, List.set_cons_succ]
    refine takeG (some 44) (i := 9) (v := ?v99) rfl rfl (by kernel_rfl) (by kernel_rfl) (by kernel_rfl) (fun _ _ _ h => h) (Or.inl ⟨by rfl, ?h99⟩) hS0 ?r99
    case h99 => (intro w hw; obtain ⟨n0, n1, n2⟩ := hw; go_simp; try (with_reducible rfl))
    try simp only [Act.put, List.setIfInBounds_toArray, List.set_cons_zero, List.set_cons_succ]
    refine takeG (some 45) (i := 10) (v := ?v910) rfl rfl (by kernel_rfl) (by kernel_rfl) (by kernel_rfl) (fun _ _ _ h => h) (Or.inl ⟨by rfl, ?h910⟩) hS0 ?r910
    case h910 => (intro w hw; obtain ⟨n0, n1, n2⟩ := hw; go_simp; try (with_reducible rfl))
    try simp only [Act.put, List.setIfInBounds_toArray, List.set_cons_zero, List.set_cons_succ]
    refine takeG (some 46) (i := 11) (v := ?v911) rfl rfl (by kernel_rfl) (by kernel_rfl) (by kernel_rfl) (fun _ _ _ h => h) (Or.inl ⟨by rfl, ?h911⟩) hS0 ?r911
    case h911 => (intro w hw; obtain ⟨n0, n1, n2⟩ := hw; go_simp; try (with_reducible rfl))
    try simp only [Act.put, List.setIfInBounds_toArray, List.set_cons_zero, List.set_cons_succ]
    refine takeG (some 47) (i := 12) (v := ?v912) rfl rfl (by kernel_rfl) (by kernel_rfl) (by kernel_rfl) (fun _ _ _ h => h) (Or.inl ⟨by rfl, ?h912⟩) hS0 ?r912
    case h912 => (intro w hw; obtain ⟨n0, n1, n2⟩ := hw; go_simp; try (with_reducible rfl))
    try simp only [Act.put, List.setIfInBounds_toArray, List.set_cons_zero, List.set_cons_succ]
    clear hwa hwm hor hS0
    have kd0 := kd
    clear kd
    generalize w4.drew = wd at *
    refine wpAnyH_ready (rs := [5, 14, 15]) (by kernel_rfl) (by simp) ?_
    refine AllReadyH.cons rfl (fun K hK => ?_) (AllReadyH.cons rfl (fun K hK => ?_) (AllReadyH.cons rfl (fun K hK => ?_) AllReadyH.nil))
    ·
      go_simp
      refine (CA.out _ kd0).mono ?_
      rintro e q1 ⟨⟨R1, rfl, hR1⟩, hq1⟩
      show K _ _
      have k1 := below_then kd0 hq1
      have hR1 := Lib.hid hR1
      refine hK.out _ _ (HS.out _ k1) (fun _ => ?_)
      clear hK K
      refine wpAnyH_ready (rs := [13, 14, 15]) (by kernel_rfl) (by simp) ?_
      refine AllReadyH.cons rfl (fun K hK => ?_) (AllReadyH.cons rfl (fun K hK => ?_) (AllReadyH.cons rfl (fun K hK => ?_) AllReadyH.nil))
      ·
        go_simp
        refine (CB.out _ k1).mono ?_
        rintro e q2 ⟨⟨R2, rfl, hR2⟩, hq2⟩
        show K _ _
        have k2 := below_then k1 hq2
        have hR2 := Lib.hid hR2
        refine hK.out _ _ (HS.out _ k2) (fun _ => ?_)
        clear hK K
        refine wpAnyH_ready (rs := [14, 15]) (by kernel_rfl) (by simp) ?_
        refine AllReadyH.cons rfl (fun K hK => ?_) (AllReadyH.cons rfl (fun K hK => ?_) AllReadyH.nil)
        ·
          go_simp
          have hp3 := k2.size
          have k3 := k2.alloc k2.size (.cells #[.int .u64 0, .int .u64 0, .int .u64 0, .int .u64 0, .int .u64 0, .int .u64 0, .int .u64 0, .int .u64 0, .int .u64 0, .int .u64 0, .int .u64 0, .int .u64 0, .int .u64 0, .int .u64 0, .int .u64 0, .int .u64 0, .int .u64 0, .int .u64 0, .int .u64 0, .int .u64 0, .int .u64 0, .int .u64 0, .int .u64 0, .int .u64 0, .int .u64 0, .int .u64 0, .int .u64 0, .int .u64 0, .int .u64 0, .int .u64 0, .int .u64 0, .int .u64 0, .int .u64 0, .int .u64 0, .int .u64 0, .int .u64 0, .int .u64 0, .int .u64 0, .int .u64 0, .int .u64 0, .int .u64 0, .int .u64 0, .int .u64 0, .int .u64 0, .int .u64 0, .int .u64 0, .int .u64 0, .int .u64 0, .int .u64 0, .int .u64 0, .int .u64 0, .int .u64 0, .int .u64 0, .int .u64 0, .int .u64 0, .int .u64 0, .int .u64 0, .int .u64 0, .int .u64 0, .int .u64 0, .int .u64 0, .int .u64 0, .int .u64 0, .int .u64 0] 37)
          have z43 := zero_block q2
          refine hK.out _ _ (HS.out _ k3) (fun _ => ?_)
          clear hK K
          generalize q2.alloc (.cells #[.int .u64 0, .int .u64 0, .int .u64 0, .int .u64 0, .int .u64 0, .int .u64 0, .int .u64 0, .int .u64 0, .int .u64 0, .int .u64 0, .int .u64 0, .int .u64 0, .int .u64 0, .int .u64 0, .int .u64 0, .int .u64 0, .int .u64 0, .int .u64 0, .int .u64 0, .int .u64 0, .int .u64 0, .int .u64 0, .int .u64 0, .int .u64 0, .int .u64 0, .int .u64 0, .int .u64 0, .int .u64 0, .int .u64 0, .int .u64 0, .int .u64 0, .int .u64 0, .int .u64 0, .int .u64 0, .int .u64 0, .int .u64 0, .int .u64 0, .int .u64 0, .int .u64 0, .int .u64 0, .int .u64 0, .int .u64 0, .int .u64 0, .int .u64 0, .int .u64 0, .int .u64 0, .int .u64 0, .int .u64 0, .int .u64 0, .int .u64 0, .int .u64 0, .int .u64 0, .int .u64 0, .int .u64 0, .int .u64 0, .int .u64 0, .int .u64 0, .int .u64 0, .int .u64 0, .int .u64 0, .int .u64 0, .int .u64 0, .int .u64 0, .int .u64 0] 37) = x3 at *
          refine wpAnyH_ready (rs := [15]) (by kernel_rfl) (by simp) ?_
          refine AllReadyH.cons rfl (fun K hK => ?_) AllReadyH.nil
          have l4 := z43.lt
          go_simp
          have hp4 := k3.size
          have k4 := k3.alloc k3.size (.cells #[.int .u64 0, .int .u64 0, .int .u64 0, .int .u64 0, .int .u64 0, .int .u64 0, .int .u64 0, .int .u64 0, .int .u64 0, .int .u64 0, .int .u64 0, .int .u64 0, .int .u64 0, .int .u64 0, .int .u64 0, .int .u64 0, .int .u64 0, .int .u64 0, .int .u64 0, .int .u64 0, .int .u64 0, .int .u64 0, .int .u64 0, .int .u64 0, .int .u64 0, .int .u64 0, .int .u64 0, .int .u64 0, .int .u64 0, .int .u64 0, .int .u64 0, .int .u64 0, .int .u64 0, .int .u64 0, .int .u64 0, .int .u64 0, .int .u64 0, .int .u64 0, .int .u64 0, .int .u64 0, .int .u64 0, .int .u64 0, .int .u64 0, .int .u64 0, .int .u64 0, .int .u64 0, .int .u64 0, .int .u64 0, .int .u64 0, .int .u64 0, .int .u64 0, .int .u64 0, .int .u64 0, .int .u64 0, .int .u64 0, .int .u64 0, .int .u64 0, .int .u64 0, .int .u64 0, .int .u64 0, .int .u64 0, .int .u64 0, .int .u64 0, .int .u64 0] 37)
          have z54 := zero_block x3
          have z44 := z43.alloc (.cells #[.int .u64 0, .int .u64 0, .int .u64 0, .int .u64 0, .int .u64 0, .int .u64 0, .int .u64 0, .int .u64 0, .int .u64 0, .int .u64 0, .int .u64 0, .int .u64 0, .int .u64 0, .int .u64 0, .int .u64 0, .int .u64 0, .int .u64 0, .int .u64 0, .int .u64 0, .int .u64 0, .int .u64 0, .int .u64 0, .int .u64 0, .int .u64 0, .int .u64 0, .int .u64 0, .int .u64 0, .int .u64 0, .int .u64 0, .int .u64 0, .int .u64 0, .int .u64 0, .int .u64 0, .int .u64 0, .int .u64 0, .int .u64 0, .int .u64 0, .int .u64 0, .int .u64 0, .int .u64 0, .int .u64 0, .int .u64 0, .int .u64 0, .int .u64 0, .int .u64 0, .int .u64 0, .int .u64 0, .int .u64 0, .int .u64 0, .int .u64 0, .int .u64 0, .int .u64 0, .int .u64 0, .int .u64 0, .int .u64 0, .int .u64 0, .int .u64 0, .int .u64 0, .int .u64 0, .int .u64 0, .int .u64 0, .int .u64 0, .int .u64 0, .int .u64 0] 37)
          refine hK.out _ _ (HS.out _ k4) (fun _ => ?_)
          clear hK K
          generalize x3.alloc (.cells #[.int .u64 0, .int .u64 0, .int .u64 0, .int .u64 0, .int .u64 0, .int .u64 0, .int .u64 0, .int .u64 0, .int .u64 0, .int .u64 0, .int .u64 0, .int .u64 0, .int .u64 0, .int .u64 0, .int .u64 0, .int .u64 0, .int .u64 0, .int .u64 0, .int .u64 0, .int .u64 0, .int .u64 0, .int .u64 0, .int .u64 0, .int .u64 0, .int .u64 0, .int .u64 0, .int .u64 0, .int .u64 0, .int .u64 0, .int .u64 0, .int .u64 0, .int .u64 0, .int .u64 0, .int .u64 0, .int .u64 0, .int .u64 0, .int .u64 0, .int .u64 0, .int .u64 0, .int .u64 0, .int .u64 0, .int .u64 0, .int .u64 0, .int .u64 0, .int .u64 0, .int .u64 0, .int .u64 0, .int .u64 0, .int .u64 0, .int .u64 0, .int .u64 0, .int .u64 0, .int .u64 0, .int .u64 0, .int .u64 0, .int .u64 0, .int .u64 0, .int .u64 0, .int .u64 0, .int .u64 0, .int .u64 0, .int .u64 0, .int .u64 0, .int .u64 0] 37) = x4 at *
          refine wpAnyH_ready (rs := [16]) (by kernel_rfl) (by simp) ?_
          refine AllReadyH.cons rfl (fun K hK => ?_) AllReadyH.nil
          rw [if_pos (by rfl)]
          refine wp_store_rel z44 R1 _ _ rfl rfl rfl ?_
          have k5 := below_setRow k4 (g := q2.heap.size) (by omega) (rowsA R1)
          have z45 := z44.setRow R1
          have z55 := z54.far (g' := q2.heap.size) (by omega) (rowsA R1)
          refine hK.out _ _ (HS.out _ k5) (fun _ => ?_)
          clear hK K
          generalize x4.setRow q2.heap.size (rowsA R1) = x5 at *
          refine wpAnyH_ready (rs := [17]) (by kernel_rfl) (by simp) ?_
          refine AllReadyH.cons rfl (fun K hK => ?_) AllReadyH.nil
          rw [if_pos (by rfl)]
          refine wp_store_rel z55 R2 _ _ rfl rfl rfl ?_
          have k6 := below_setRow k5 (g := x3.heap.size) (by omega) (rowsA R2)
          have z56 := z55.setRow R2
          have z46 := z45.far (g' := x3.heap.size) (by omega) (rowsA R2)
          refine hK.out _ _ (HS.out _ k6) (fun _ => ?_)
          clear hK K
          generalize x5.setRow x3.heap.size (rowsA R2) = x6 at *
          refine wpAnyH_done (by kernel_rfl) ?_ _
          go_wp2_with fail
          go_meet
          exact ⟨q2.heap.size, x3.heap.size, R1, R2, rfl, rfl, z46, z56, hR1.out, hR2.out, k6⟩
        ·
          go_simp
          have hp7 := k2.size
          have k7 := k2.alloc k2.size (.cells #[.int .u64 0, .int .u64 0, .int .u64 0, .int .u64 0, .int .u64 0, .int .u64 0, .int .u64 0, .int .u64 0, .int .u64 0, .int .u64 0, .int .u64 0, .int .u64 0, .int .u64 0, .int .u64 0, .int .u64 0, .int .u64 0, .int .u64 0, .int .u64 0, .int .u64 0, .int .u64 0, .int .u64 0, .int .u64 0, .int .u64 0, .int .u64 0, .int .u64 0, .int .u64 0, .int .u64 0, .int .u64 0, .int .u64 0, .int .u64 0, .int .u64 0, .int .u64 0, .int .u64 0, .int .u64 0, .int .u64 0, .int .u64 0, .int .u64 0, .int .u64 0, .int .u64 0, .int .u64 0, .int .u64 0, .int .u64 0, .int .u64 0, .int .u64 0, .int .u64 0, .int .u64 0, .int .u64 0, .int .u64 0, .int .u64 0, .int .u64 0, .int .u64 0, .int .u64 0, .int .u64 0, .int .u64 0, .int .u64 0, .int .u64 0, .int .u64 0, .int .u64 0, .int .u64 0, .int .u64 0, .int .u64 0, .int .u64 0, .int .u64 0, .int .u64 0] 37)
          have z57 := zero_block q2
          refine hK.out _ _ (HS.out _ k7) (fun _ => ?_)
          clear hK K
          generalize q2.alloc (.cells #[.int .u64 0, .int .u64 0, .int .u64 0, .int .u64 0, .int .u64 0, .int .u64 0, .int .u64 0, .int .u64 0, .int .u64 0, .int .u64 0, .int .u64 0, .int .u64 0, .int .u64 0, .int .u64 0, .int .u64 0, .int .u64 0, .int .u64 0, .int .u64 0, .int .u64 0, .int .u64 0, .int .u64 0, .int .u64 0, .int .u64 0, .int .u64 0, .int .u64 0, .int .u64 0, .int .u64 0, .int .u64 0, .int .u64 0, .int .u64 0, .int .u64 0, .int .u64 0, .int .u64 0, .int .u64 0, .int .u64 0, .int .u64 0, .int .u64 0, .int .u64 0, .int .u64 0, .int .u64 0, .int .u64 0, .int .u64 0, .int .u64 0, .int .u64 0, .int .u64 0, .int .u64 0, .int .u64 0, .int .u64 0, .int .u64 0, .int .u64 0, .int .u64 0, .int .u64 0, .int .u64 0, .int .u64 0, .int .u64 0, .int .u64 0, .int .u64 0, .int .u64 0, .int .u64 0, .int .u64 0, .int .u64 0, .int .u64 0, .int .u64 0, .int .u64 0] 37) = x7 at *
          refine wpAnyH_ready (rs := [14]) (by kernel_rfl) (by simp) ?_
          refine AllReadyH.cons rfl (fun K hK => ?_) AllReadyH.nil
          have l8 := z57.lt
          go_simp
          have hp8 := k7.size
          have k8 := k7.alloc k7.size (.cells #[.int .u64 0, .int .u64 0, .int .u64 0, .int .u64 0, .int .u64 0, .int .u64 0, .int .u64 0, .int .u64 0, .int .u64 0, .int .u64 0, .int .u64 0, .int .u64 0, .int .u64 0, .int .u64 0, .int .u64 0, .int .u64 0, .int .u64 0, .int .u64 0, .int .u64 0, .int .u64 0, .int .u64 0, .int .u64 0, .int .u64 0, .int .u64 0, .int .u64 0, .int .u64 0, .int .u64 0, .int .u64 0, .int .u64 0, .int .u64 0, .int .u64 0, .int .u64 0, .int .u64 0, .int .u64 0, .int .u64 0, .int .u64 0, .int .u64 0, .int .u64 0, .int .u64 0, .int .u64 0, .int .u64 0, .int .u64 0, .int .u64 0, .int .u64 0, .int .u64 0, .int .u64 0, .int .u64 0, .int .u64 0, .int .u64 0, .int .u64 0, .int .u64 0, .int .u64 0, .int .u64 0, .int .u64 0, .int .u64 0, .int .u64 0, .int .u64 0, .int .u64 0, .int .u64 0, .int .u64 0, .int .u64 0, .int .u64 0, .int .u64 0, .int .u64 0] 37)
          have z48 := zero_block x7
          have z58 := z57.alloc (.cells #[.int .u64 0, .int .u64 0, .int .u64 0, .int .u64 0, .int .u64 0, .int .u64 0, .int .u64 0, .int .u64 0, .int .u64 0, .int .u64 0, .int .u64 0, .int .u64 0, .int .u64 0, .int .u64 0, .int .u64 0, .int .u64 0, .int .u64 0, .int .u64 0, .int .u64 0, .int .u64 0, .int .u64 0, .int .u64 0, .int .u64 0, .int .u64 0, .int .u64 0, .int .u64 0, .int .u64 0, .int .u64 0, .int .u64 0, .int .u64 0, .int .u64 0, .int .u64 0, .int .u64 0, .int .u64 0, .int .u64 0, .int .u64 0, .int .u64 0, .int .u64 0, .int .u64 0, .int .u64 0, .int .u64 0, .int .u64 0, .int .u64 0, .int .u64 0, .int .u64 0, .int .u64 0, .int .u64 0, .int .u64 0, .int .u64 0, .int .u64 0, .int .u64 0, .int .u64 0, .int .u64 0, .int .u64 0, .int .u64 0, .int .u64 0, .int .u64 0, .int .u64 0, .int .u64 0, .int .u64 0, .int .u64 0, .int .u64 0, .int .u64 0, .int .u64 0] 37)
          refine hK.out _ _ (HS.out _ k8) (fun _ => ?_)
          clear hK K
          generalize x7.alloc (.cells #[.int .u64 0, .int .u64 0, .int .u64 0, .int .u64 0, .int .u64 0, .int .u64 0, .int .u64 0, .int .u64 0, .int .u64 0, .int .u64 0, .int .u64 0, .int .u64 0, .int .u64 0, .int .u64 0, .int .u64 0, .int .u64 0, .int .u64 0, .int .u64 0, .int .u64 0, .int .u64 0, .int .u64 0, .int .u64 0, .int .u64 0, .int .u64 0, .int .u64 0, .int .u64 0, .int .u64 0, .int .u64 0, .int .u64 0, .int .u64 0, .int .u64 0, .int .u64 0, .int .u64 0, .int .u64 0, .int .u64 0, .int .u64 0, .int .u64 0, .int .u64 0, .int .u64 0, .int .u64 0, .int .u64 0, .int .u64 0, .int .u64 0, .int .u64 0, .int .u64 0, .int .u64 0, .int .u64 0, .int .u64 0, .int .u64 0, .int .u64 0, .int .u64 0, .int .u64 0, .int .u64 0, .int .u64 0, .int .u64 0, .int .u64 0, .int .u64 0, .int .u64 0, .int .u64 0, .int .u64 0, .int .u64 0, .int .u64 0, .int .u64 0, .int .u64 0] 37) = x8 at *
          refine wpAnyH_ready (rs := [16]) (by kernel_rfl) (by simp) ?_
          refine AllReadyH.cons rfl (fun K hK => ?_) AllReadyH.nil
          rw [if_pos (by rfl)]
          refine wp_store_rel z48 R1 _ _ rfl rfl rfl ?_
          have k9 := below_setRow k8 (g := x7.heap.size) (by omega) (rowsA R1)
          have z49 := z48.setRow R1
          have z59 := z58.far (g' := x7.heap.size) (by omega) (rowsA R1)
          refine hK.out _ _ (HS.out _ k9) (fun _ => ?_)
          clear hK K
          generalize x8.setRow x7.heap.size (rowsA R1) = x9 at *
          refine wpAnyH_ready (rs := [17]) (by kernel_rfl) (by simp) ?_
          refine AllReadyH.cons rfl (fun K hK => ?_) AllReadyH.nil
          rw [if_pos (by rfl)]
          refine wp_store_rel z59 R2 _ _ rfl rfl rfl ?_
          have k10 := below_setRow k9 (g := q2.heap.size) (by omega) (rowsA R2)
          have z510 := z59.setRow R2
          have z410 := z49.far (g' := q2.heap.size) (by omega) (rowsA R2)
          refine hK.out _ _ (HS.out _ k10) (fun _ => ?_)
          clear hK K
          generalize x9.setRow q2.heap.size (rowsA R2) = x10 at *
          refine wpAnyH_done (by kernel_rfl) ?_ _
          go_wp2_with fail
          go_meet
          exact ⟨x7.heap.size, q2.heap.size, R1, R2, rfl, rfl, z410, z510, hR1.out, hR2.out, k10⟩
      ·
        go_simp
        have hp11 := k1.size
        have k11 := k1.alloc k1.size (.cells #[.int .u64 0, .int .u64 0, .int .u64 0, .int .u64 0, .int .u64 0, .int .u64 0, .int .u64 0, .int .u64 0, .int .u64 0, .int .u64 0, .int .u64 0, .int .u64 0, .int .u64 0, .int .u64 0, .int .u64 0, .int .u64 0, .int .u64 0, .int .u64 0, .int .u64 0, .int .u64 0, .int .u64 0, .int .u64 0, .int .u64 0, .int .u64 0, .int .u64 0, .int .u64 0, .int .u64 0, .int .u64 0, .int .u64 0, .int .u64 0, .int .u64 0, .int .u64 0, .int .u64 0, .int .u64 0, .int .u64 0, .int .u64 0, .int .u64 0, .int .u64 0, .int .u64 0, .int .u64 0, .int .u64 0, .int .u64 0, .int .u64 0, .int .u64 0, .int .u64 0, .int .u64 0, .int .u64 0, .int .u64 0, .int .u64 0, .int .u64 0, .int .u64 0, .int .u64 0, .int .u64 0, .int .u64 0, .int .u64 0, .int .u64 0, .int .u64 0, .int .u64 0, .int .u64 0, .int .u64 0, .int .u64 0, .int .u64 0, .int .u64 0, .int .u64 0] 37)
        have z411 := zero_block q1
        refine hK.out _ _ (HS.out _ k11) (fun _ => ?_)
        clear hK K
        generalize q1.alloc (.cells #[.int .u64 0, .int .u64 0, .int .u64 0, .int .u64 0, .int .u64 0, .int .u64 0, .int .u64 0, .int .u64 0, .int .u64 0, .int .u64 0, .int .u64 0, .int .u64 0, .int .u64 0, .int .u64 0, .int .u64 0, .int .u64 0, .int .u64 0, .int .u64 0, .int .u64 0, .int .u64 0, .int .u64 0, .int .u64 0, .int .u64 0, .int .u64 0, .int .u64 0, .int .u64 0, .int .u64 0, .int .u64 0, .int .u64 0, .int .u64 0, .int .u64 0, .int .u64 0, .int .u64 0, .int .u64 0, .int .u64 0, .int .u64 0, .int .u64 0, .int .u64 0, .int .u64 0, .int .u64 0, .int .u64 0, .int .u64 0, .int .u64 0, .int .u64 0, .int .u64 0, .int .u64 0, .int .u64 0, .int .u64 0, .int .u64 0, .int .u64 0, .int .u64 0, .int .u64 0, .int .u64 0, .int .u64 0, .int .u64 0, .int .u64 0, .int .u64 0, .int .u64 0, .int .u64 0, .int .u64 0, .int .u64 0, .int .u64 0, .int .u64 0, .int .u64 0] 37) = x11 at *
        refine wpAnyH_ready (rs := [13, 15]) (by kernel_rfl) (by simp) ?_
        refine AllReadyH.cons rfl (fun K hK => ?_) (AllReadyH.cons rfl (fun K hK => ?_) AllReadyH.nil)
        ·
          go_simp
          refine (CB.out _ k11).mono ?_
          rintro e q12 ⟨⟨R2, rfl, hR2⟩, hq12⟩
          show K _ _
          have k12 := below_then k11 hq12
          have hR2 := Lib.hid hR2
          have z412 := z411.below hq12 z411.lt
          refine hK.out _ _ (HS.out _ k12) (fun _ => ?_)
          clear hK K
          refine wpAnyH_ready (rs := [15]) (by kernel_rfl) (by simp) ?_
          refine AllReadyH.cons rfl (fun K hK => ?_) AllReadyH.nil
          have l13 := z412.lt
          go_simp
          have hp13 := k12.size
          have k13 := k12.alloc k12.size (.cells #[.int .u64 0, .int .u64 0, .int .u64 0, .int .u64 0, .int .u64 0, .int .u64 0, .int .u64 0, .int .u64 0, .int .u64 0, .int .u64 0, .int .u64 0, .int .u64 0, .int .u64 0, .int .u64 0, .int .u64 0, .int .u64 0, .int .u64 0, .int .u64 0, .int .u64 0, .int .u64 0, .int .u64 0, .int .u64 0, .int .u64 0, .int .u64 0, .int .u64 0, .int .u64 0, .int .u64 0, .int .u64 0, .int .u64 0, .int .u64 0, .int .u64 0, .int .u64 0, .int .u64 0, .int .u64 0, .int .u64 0, .int .u64 0, .int .u64 0, .int .u64 0, .int .u64 0, .int .u64 0, .int .u64 0, .int .u64 0, .int .u64 0, .int .u64 0, .int .u64 0, .int .u64 0, .int .u64 0, .int .u64 0, .int .u64 0, .int .u64 0, .int .u64 0, .int .u64 0, .int .u64 0, .int .u64 0, .int .u64 0, .int .u64 0, .int .u64 0, .int .u64 0, .int .u64 0, .int .u64 0, .int .u64 0, .int .u64 0, .int .u64 0, .int .u64 0] 37)
          have z513 := zero_block q12
          have z413 := z412.alloc (.cells #[.int .u64 0, .int .u64 0, .int .u64 0, .int .u64 0, .int .u64 0, .int .u64 0, .int .u64 0, .int .u64 0, .int .u64 0, .int .u64 0, .int .u64 0, .int .u64 0, .int .u64 0, .int .u64 0, .int .u64 0, .int .u64 0, .int .u64 0, .int .u64 0, .int .u64 0, .int .u64 0, .int .u64 0, .int .u64 0, .int .u64 0, .int .u64 0, .int .u64 0, .int .u64 0, .int .u64 0, .int .u64 0, .int .u64 0, .int .u64 0, .int .u64 0, .int .u64 0, .int .u64 0, .int .u64 0, .int .u64 0, .int .u64 0, .int .u64 0, .int .u64 0, .int .u64 0, .int .u64 0, .int .u64 0, .int .u64 0, .int .u64 0, .int .u64 0, .int .u64 0, .int .u64 0, .int .u64 0, .int .u64 0, .int .u64 0, .int .u64 0, .int .u64 0, .int .u64 0, .int .u64 0, .int .u64 0, .int .u64 0, .int .u64 0, .int .u64 0, .int .u64 0, .int .u64 0, .int .u64 0, .int .u64 0, .int .u64 0, .int .u64 0, .int .u64 0] 37)
          refine hK.out _ _ (HS.out _ k13) (fun _ => ?_)
          clear hK K
          generalize q12.alloc (.cells #[.int .u64 0, .int .u64 0, .int .u64 0, .int .u64 0, .int .u64 0, .int .u64 0, .int .u64 0, .int .u64 0, .int .u64 0, .int .u64 0, .int .u64 0, .int .u64 0, .int .u64 0, .int .u64 0, .int .u64 0, .int .u64 0, .int .u64 0, .int .u64 0, .int .u64 0, .int .u64 0, .int .u64 0, .int .u64 0, .int .u64 0, .int .u64 0, .int .u64 0, .int .u64 0, .int .u64 0, .int .u64 0, .int .u64 0, .int .u64 0, .int .u64 0, .int .u64 0, .int .u64 0, .int .u64 0, .int .u64 0, .int .u64 0, .int .u64 0, .int .u64 0, .int .u64 0, .int .u64 0, .int .u64 0, .int .u64 0, .int .u64 0, .int .u64 0, .int .u64 0, .int .u64 0, .int .u64 0, .int .u64 0, .int .u64 0, .int .u64 0, .int .u64 0, .int .u64 0, .int .u64 0, .int .u64 0, .int .u64 0, .int .u64 0, .int .u64 0, .int .u64 0, .int .u64 0, .int .u64 0, .int .u64 0, .int .u64 0, .int .u64 0, .int .u64 0] 37) = x13 at *
          refine wpAnyH_ready (rs := [16]) (by kernel_rfl) (by simp) ?_
          refine AllReadyH.cons rfl (fun K hK => ?_) AllReadyH.nil
          rw [if_pos (by rfl)]
          refine wp_store_rel z413 R1 _ _ rfl rfl rfl ?_
          have k14 := below_setRow k13 (g := q1.heap.size) (by omega) (rowsA R1)
          have z414 := z413.setRow R1
          have z514 := z513.far (g' := q1.heap.size) (by omega) (rowsA R1)
          refine hK.out _ _ (HS.out _ k14) (fun _ => ?_)
          clear hK K
          generalize x13.setRow q1.heap.size (rowsA R1) = x14 at *
          refine wpAnyH_ready (rs := [17]) (by kernel_rfl) (by simp) ?_
          refine AllReadyH.cons rfl (fun K hK => ?_) AllReadyH.nil
          rw [if_pos (by rfl)]
          refine wp_store_rel z514 R2 _ _ rfl rfl rfl ?_
          have k15 := below_setRow k14 (g := q12.heap.size) (by omega) (rowsA R2)
          have z515 := z514.setRow R2
          have z415 := z414.far (g' := q12.heap.size) (by omega) (rowsA R2)
          refine hK.out _ _ (HS.out _ k15) (fun _ => ?_)
          clear hK K
          generalize x14.setRow q12.heap.size (rowsA R2) = x15 at *
          refine wpAnyH_done (by kernel_rfl) ?_ _
          go_wp2_with fail
          go_meet
          exact ⟨q1.heap.size, q12.heap.size, R1, R2, rfl, rfl, z415, z515, hR1.out, hR2.out, k15⟩
        ·
          have l16 := z411.lt
          go_simp
          have hp16 := k11.size
          have k16 := k11.alloc k11.size (.cells #[.int .u64 0, .int .u64 0, .int .u64 0, .int .u64 0, .int .u64 0, .int .u64 0, .int .u64 0, .int .u64 0, .int .u64 0, .int .u64 0, .int .u64 0, .int .u64 0, .int .u64 0, .int .u64 0, .int .u64 0, .int .u64 0, .int .u64 0, .int .u64 0, .int .u64 0, .int .u64 0, .int .u64 0, .int .u64 0, .int .u64 0, .int .u64 0, .int .u64 0, .int .u64 0, .int .u64 0, .int .u64 0, .int .u64 0, .int .u64 0, .int .u64 0, .int .u64 0, .int .u64 0, .int .u64 0, .int .u64 0, .int .u64 0, .int .u64 0, .int .u64 0, .int .u64 0, .int .u64 0, .int .u64 0, .int .u64 0, .int .u64 0, .int .u64 0, .int .u64 0, .int .u64 0, .int .u64 0, .int .u64 0, .int .u64 0, .int .u64 0, .int .u64 0, .int .u64 0, .int .u64 0, .int .u64 0, .int .u64 0, .int .u64 0, .int .u64 0, .int .u64 0, .int .u64 0, .int .u64 0, .int .u64 0, .int .u64 0, .int .u64 0, .int .u64 0] 37)
          have z516 := zero_block x11
          have z416 := z411.alloc (.cells #[.int .u64 0, .int .u64 0, .int .u64 0, .int .u64 0, .int .u64 0, .int .u64 0, .int .u64 0, .int .u64 0, .int .u64 0, .int .u64 0, .int .u64 0, .int .u64 0, .int .u64 0, .int .u64 0, .int .u64 0, .int .u64 0, .int .u64 0, .int .u64 0, .int .u64 0, .int .u64 0, .int .u64 0, .int .u64 0, .int .u64 0, .int .u64 0, .int .u64 0, .int .u64 0, .int .u64 0, .int .u64 0, .int .u64 0, .int .u64 0, .int .u64 0, .int .u64 0, .int .u64 0, .int .u64 0, .int .u64 0, .int .u64 0, .int .u64 0, .int .u64 0, .int .u64 0, .int .u64 0, .int .u64 0, .int .u64 0, .int .u64 0, .int .u64 0, .int .u64 0, .int .u64 0, .int .u64 0, .int .u64 0, .int .u64 0, .int .u64 0, .int .u64 0, .int .u64 0, .int .u64 0, .int .u64 0, .int .u64 0, .int .u64 0, .int .u64 0, .int .u64 0, .int .u64 0, .int .u64 0, .int .u64 0, .int .u64 0, .int .u64 0, .int .u64 0] 37)
          refine hK.out _ _ (HS.out _ k16) (fun _ => ?_)
          clear hK K
          generalize x11.alloc (.cells #[.int .u64 0, .int .u64 0, .int .u64 0, .int .u64 0, .int .u64 0, .int .u64 0, .int .u64 0, .int .u64 0, .int .u64 0, .int .u64 0, .int .u64 0, .int .u64 0, .int .u64 0, .int .u64 0, .int .u64 0, .int .u64 0, .int .u64 0, .int .u64 0, .int .u64 0, .int .u64 0, .int .u64 0, .int .u64 0, .int .u64 0, .int .u64 0, .int .u64 0, .int .u64 0, .int .u64 0, .int .u64 0, .int .u64 0, .int .u64 0, .int .u64 0, .int .u64 0, .int .u64 0, .int .u64 0, .int .u64 0, .int .u64 0, .int .u64 0, .int .u64 0, .int .u64 0, .int .u64 0, .int .u64 0, .int .u64 0, .int .u64 0, .int .u64 0, .int .u64 0, .int .u64 0, .int .u64 0, .int .u64 0, .int .u64 0, .int .u64 0, .int .u64 0, .int .u64 0, .int .u64 0, .int .u64 0, .int .u64 0, .int .u64 0, .int .u64 0, .int .u64 0, .int .u64 0, .int .u64 0, .int .u64 0, .int .u64 0, .int .u64 0, .int .u64 0] 37) = x16 at *
          refine wpAnyH_ready (rs := [13]) (by kernel_rfl) (by simp) ?_
          refine AllReadyH.cons rfl (fun K hK => ?_) AllReadyH.nil
          go_simp
          refine (CB.out _ k16).mono ?_
          rintro e q17 ⟨⟨R2, rfl, hR2⟩, hq17⟩
          show K _ _
          have k17 := below_then k16 hq17
          have hR2 := Lib.hid hR2
          have z417 := z416.below hq17 z416.lt
          have z517 := z516.below hq17 z516.lt
          refine hK.out _ _ (HS.out _ k17) (fun _ => ?_)
          clear hK K
          refine wpAnyH_ready (rs := [16]) (by kernel_rfl) (by simp) ?_
          refine AllReadyH.cons rfl (fun K hK => ?_) AllReadyH.nil
          rw [if_pos (by rfl)]
          refine wp_store_rel z417 R1 _ _ rfl rfl rfl ?_
          have k18 := below_setRow k17 (g := q1.heap.size) (by omega) (rowsA R1)
          have z418 := z417.setRow R1
          have z518 := z517.far (g' := q1.heap.size) (by omega) (rowsA R1)
          refine hK.out _ _ (HS.out _ k18) (fun _ => ?_)
          clear hK K
          generalize q17.setRow q1.heap.size (rowsA R1) = x18 at *
          refine wpAnyH_ready (rs := [17]) (by kernel_rfl) (by simp) ?_
          refine AllReadyH.cons rfl (fun K hK => ?_) AllReadyH.nil
          rw [if_pos (by rfl)]
          refine wp_store_rel z518 R2 _ _ rfl rfl rfl ?_
          have k19 := below_setRow k18 (g := x11.heap.size) (by omega) (rowsA R2)
          have z519 := z518.setRow R2
          have z419 := z418.far (g' := x11.heap.size) (by omega) (rowsA R2)
          refine hK.out _ _ (HS.out _ k19) (fun _ => ?_)
          clear hK K
          generalize x18.setRow x11.heap.size (rowsA R2) = x19 at *
          refine wpAnyH_done (by kernel_rfl) ?_ _
          go_wp2_with fail
          go_meet
          exact ⟨q1.heap.size, x11.heap.size, R1, R2, rfl, rfl, z419, z519, hR1.out, hR2.out, k19⟩
      ·
        go_simp
        have hp20 := k1.size
        have k20 := k1.alloc k1.size (.cells #[.int .u64 0, .int .u64 0, .int .u64 0, .int .u64 0, .int .u64 0, .int .u64 0, .int .u64 0, .int .u64 0, .int .u64 0, .int .u64 0, .int .u64 0, .int .u64 0, .int .u64 0, .int .u64 0, .int .u64 0, .int .u64 0, .int .u64 0, .int .u64 0, .int .u64 0, .int .u64 0, .int .u64 0, .int .u64 0, .int .u64 0, .int .u64 0, .int .u64 0, .int .u64 0, .int .u64 0, .int .u64 0, .int .u64 0, .int .u64 0, .int .u64 0, .int .u64 0, .int .u64 0, .int .u64 0, .int .u64 0, .int .u64 0, .int .u64 0, .int .u64 0, .int .u64 0, .int .u64 0, .int .u64 0, .int .u64 0, .int .u64 0, .int .u64 0, .int .u64 0, .int .u64 0, .int .u64 0, .int .u64 0, .int .u64 0, .int .u64 0, .int .u64 0, .int .u64 0, .int .u64 0, .int .u64 0, .int .u64 0, .int .u64 0, .int .u64 0, .int .u64 0, .int .u64 0, .int .u64 0, .int .u64 0, .int .u64 0, .int .u64 0, .int .u64 0] 37)
        have z520 := zero_block q1
        refine hK.out _ _ (HS.out _ k20) (fun _ => ?_)
        clear hK K
        generalize q1.alloc (.cells #[.int .u64 0, .int .u64 0, .int .u64 0, .int .u64 0, .int .u64 0, .int .u64 0, .int .u64 0, .int .u64 0, .int .u64 0, .int .u64 0, .int .u64 0, .int .u64 0, .int .u64 0, .int .u64 0, .int .u64 0, .int .u64 0, .int .u64 0, .int .u64 0, .int .u64 0, .int .u64 0, .int .u64 0, .int .u64 0, .int .u64 0, .int .u64 0, .int .u64 0, .int .u64 0, .int .u64 0, .int .u64 0, .int .u64 0, .int .u64 0, .int .u64 0, .int .u64 0, .int .u64 0, .int .u64 0, .int .u64 0, .int .u64 0, .int .u64 0, .int .u64 0, .int .u64 0, .int .u64 0, .int .u64 0, .int .u64 0, .int .u64 0, .int .u64 0, .int .u64 0, .int .u64 0, .int .u64 0, .int .u64 0, .int .u64 0, .int .u64 0, .int .u64 0, .int .u64 0, .int .u64 0, .int .u64 0, .int .u64 0, .int .u64 0, .int .u64 0, .int .u64 0, .int .u64 0, .int .u64 0, .int .u64 0, .int .u64 0, .int .u64 0, .int .u64 0] 37) = x20 at *
        refine wpAnyH_ready (rs := [13, 14]) (by kernel_rfl) (by simp) ?_
        refine AllReadyH.cons rfl (fun K hK => ?_) (AllReadyH.cons rfl (fun K hK => ?_) AllReadyH.nil)
        ·
          go_simp
          refine (CB.out _ k20).mono ?_
          rintro e q21 ⟨⟨R2, rfl, hR2⟩, hq21⟩
          show K _ _
          have k21 := below_then k20 hq21
          have hR2 := Lib.hid hR2
          have z521 := z520.below hq21 z520.lt
          refine hK.out _ _ (HS.out _ k21) (fun _ => ?_)
          clear hK K
          refine wpAnyH_ready (rs := [14]) (by kernel_rfl) (by simp) ?_
          refine AllReadyH.cons rfl (fun K hK => ?_) AllReadyH.nil
          have l22 := z521.lt
          go_simp
          have hp22 := k21.size
          have k22 := k21.alloc k21.size (.cells #[.int .u64 0, .int .u64 0, .int .u64 0, .int .u64 0, .int .u64 0, .int .u64 0, .int .u64 0, .int .u64 0, .int .u64 0, .int .u64 0, .int .u64 0, .int .u64 0, .int .u64 0, .int .u64 0, .int .u64 0, .int .u64 0, .int .u64 0, .int .u64 0, .int .u64 0, .int .u64 0, .int .u64 0, .int .u64 0, .int .u64 0, .int .u64 0, .int .u64 0, .int .u64 0, .int .u64 0, .int .u64 0, .int .u64 0, .int .u64 0, .int .u64 0, .int .u64 0, .int .u64 0, .int .u64 0, .int .u64 0, .int .u64 0, .int .u64 0, .int .u64 0, .int .u64 0, .int .u64 0, .int .u64 0, .int .u64 0, .int .u64 0, .int .u64 0, .int .u64 0, .int .u64 0, .int .u64 0, .int .u64 0, .int .u64 0, .int .u64 0, .int .u64 0, .int .u64 0, .int .u64 0, .int .u64 0, .int .u64 0, .int .u64 0, .int .u64 0, .int .u64 0, .int .u64 0, .int .u64 0, .int .u64 0, .int .u64 0, .int .u64 0, .int .u64 0] 37)
          have z422 := zero_block q21
          have z522 := z521.alloc (.cells #[.int .u64 0, .int .u64 0, .int .u64 0, .int .u64 0, .int .u64 0, .int .u64 0, .int .u64 0, .int .u64 0, .int .u64 0, .int .u64 0, .int .u64 0, .int .u64 0, .int .u64 0, .int .u64 0, .int .u64 0, .int .u64 0, .int .u64 0, .int .u64 0, .int .u64 0, .int .u64 0, .int .u64 0, .int .u64 0, .int .u64 0, .int .u64 0, .int .u64 0, .int .u64 0, .int .u64 0, .int .u64 0, .int .u64 0, .int .u64 0, .int .u64 0, .int .u64 0, .int .u64 0, .int .u64 0, .int .u64 0, .int .u64 0, .int .u64 0, .int .u64 0, .int .u64 0, .int .u64 0, .int .u64 0, .int .u64 0, .int .u64 0, .int .u64 0, .int .u64 0, .int .u64 0, .int .u64 0, .int .u64 0, .int .u64 0, .int .u64 0, .int .u64 0, .int .u64 0, .int .u64 0, .int .u64 0, .int .u64 0, .int .u64 0, .int .u64 0, .int .u64 0, .int .u64 0, .int .u64 0, .int .u64 0, .int .u64 0, .int .u64 0, .int .u64 0] 37)
          refine hK.out _ _ (HS.out _ k22) (fun _ => ?_)
          clear hK K
          generalize q21.alloc (.cells #[.int .u64 0, .int .u64 0, .int .u64 0, .int .u64 0, .int .u64 0, .int .u64 0, .int .u64 0, .int .u64 0, .int .u64 0, .int .u64 0, .int .u64 0, .int .u64 0, .int .u64 0, .int .u64 0, .int .u64 0, .int .u64 0, .int .u64 0, .int .u64 0, .int .u64 0, .int .u64 0, .int .u64 0, .int .u64 0, .int .u64 0, .int .u64 0, .int .u64 0, .int .u64 0, .int .u64 0, .int .u64 0, .int .u64 0, .int .u64 0, .int .u64 0, .int .u64 0, .int .u64 0, .int .u64 0, .int .u64 0, .int .u64 0, .int .u64 0, .int .u64 0, .int .u64 0, .int .u64 0, .int .u64 0, .int .u64 0, .int .u64 0, .int .u64 0, .int .u64 0, .int .u64 0, .int .u64 0, .int .u64 0, .int .u64 0, .int .u64 0, .int .u64 0, .int .u64 0, .int .u64 0, .int .u64 0, .int .u64 0, .int .u64 0, .int .u64 0, .int .u64 0, .int .u64 0, .int .u64 0, .int .u64 0, .int .u64 0, .int .u64 0, .int .u64 0] 37) = x22 at *
          refine wpAnyH_ready (rs := [16]) (by kernel_rfl) (by simp) ?_
          refine AllReadyH.cons rfl (fun K hK => ?_) AllReadyH.nil
          rw [if_pos (by rfl)]
          refine wp_store_rel z422 R1 _ _ rfl rfl rfl ?_
          have k23 := below_setRow k22 (g := q21.heap.size) (by omega) (rowsA R1)
          have z423 := z422.setRow R1
          have z523 := z522.far (g' := q21.heap.size) (by omega) (rowsA R1)
          refine hK.out _ _ (HS.out _ k23) (fun _ => ?_)
          clear hK K
          generalize x22.setRow q21.heap.size (rowsA R1) = x23 at *
          refine wpAnyH_ready (rs := [17]) (by kernel_rfl) (by simp) ?_
          refine AllReadyH.cons rfl (fun K hK => ?_) AllReadyH.nil
          rw [if_pos (by rfl)]
          refine wp_store_rel z523 R2 _ _ rfl rfl rfl ?_
          have k24 := below_setRow k23 (g := q1.heap.size) (by omega) (rowsA R2)
          have z524 := z523.setRow R2
          have z424 := z423.far (g' := q1.heap.size) (by omega) (rowsA R2)
          refine hK.out _ _ (HS.out _ k24) (fun _ => ?_)
          clear hK K
          generalize x23.setRow q1.heap.size (rowsA R2) = x24 at *
          refine wpAnyH_done (by kernel_rfl) ?_ _
          go_wp2_with fail
          go_meet
          exact ⟨q21.heap.size, q1.heap.size, R1, R2, rfl, rfl, z424, z524, hR1.out, hR2.out, k24⟩
        ·
          have l25 := z520.lt
          go_simp
          have hp25 := k20.size
          have k25 := k20.alloc k20.size (.cells #[.int .u64 0, .int .u64 0, .int .u64 0, .int .u64 0, .int .u64 0, .int .u64 0, .int .u64 0, .int .u64 0, .int .u64 0, .int .u64 0, .int .u64 0, .int .u64 0, .int .u64 0, .int .u64 0, .int .u64 0, .int .u64 0, .int .u64 0, .int .u64 0, .int .u64 0, .int .u64 0, .int .u64 0, .int .u64 0, .int .u64 0, .int .u64 0, .int .u64 0, .int .u64 0, .int .u64 0, .int .u64 0, .int .u64 0, .int .u64 0, .int .u64 0, .int .u64 0, .int .u64 0, .int .u64 0, .int .u64 0, .int .u64 0, .int .u64 0, .int .u64 0, .int .u64 0, .int .u64 0, .int .u64 0, .int .u64 0, .int .u64 0, .int .u64 0, .int .u64 0, .int .u64 0, .int .u64 0, .int .u64 0, .int .u64 0, .int .u64 0, .int .u64 0, .int .u64 0, .int .u64 0, .int .u64 0, .int .u64 0, .int .u64 0, .int .u64 0, .int .u64 0, .int .u64 0, .int .u64 0, .int .u64 0, .int .u64 0, .int .u64 0, .int .u64 0] 37)
          have z425 := zero_block x20
          have z525 := z520.alloc (.cells #[.int .u64 0, .int .u64 0, .int .u64 0, .int .u64 0, .int .u64 0, .int .u64 0, .int .u64 0, .int .u64 0, .int .u64 0, .int .u64 0, .int .u64 0, .int .u64 0, .int .u64 0, .int .u64 0, .int .u64 0, .int .u64 0, .int .u64 0, .int .u64 0, .int .u64 0, .int .u64 0, .int .u64 0, .int .u64 0, .int .u64 0, .int .u64 0, .int .u64 0, .int .u64 0, .int .u64 0, .int .u64 0, .int .u64 0, .int .u64 0, .int .u64 0, .int .u64 0, .int .u64 0, .int .u64 0, .int .u64 0, .int .u64 0, .int .u64 0, .int .u64 0, .int .u64 0, .int .u64 0, .int .u64 0, .int .u64 0, .int .u64 0, .int .u64 0, .int .u64 0, .int .u64 0, .int .u64 0, .int .u64 0, .int .u64 0, .int .u64 0, .int .u64 0, .int .u64 0, .int .u64 0, .int .u64 0, .int .u64 0, .int .u64 0, .int .u64 0, .int .u64 0, .int .u64 0, .int .u64 0, .int .u64 0, .int .u64 0, .int .u64 0, .int .u64 0] 37)
          refine hK.out _ _ (HS.out _ k25) (fun _ => ?_)
          clear hK K
          generalize x20.alloc (.cells #[.int .u64 0, .int .u64 0, .int .u64 0, .int .u64 0, .int .u64 0, .int .u64 0, .int .u64 0, .int .u64 0, .int .u64 0, .int .u64 0, .int .u64 0, .int .u64 0, .int .u64 0, .int .u64 0, .int .u64 0, .int .u64 0, .int .u64 0, .int .u64 0, .int .u64 0, .int .u64 0, .int .u64 0, .int .u64 0, .int .u64 0, .int .u64 0, .int .u64 0, .int .u64 0, .int .u64 0, .int .u64 0, .int .u64 0, .int .u64 0, .int .u64 0, .int .u64 0, .int .u64 0, .int .u64 0, .int .u64 0, .int .u64 0, .int .u64 0, .int .u64 0, .int .u64 0, .int .u64 0, .int .u64 0, .int .u64 0, .int .u64 0, .int .u64 0, .int .u64 0, .int .u64 0, .int .u64 0, .int .u64 0, .int .u64 0, .int .u64 0, .int .u64 0, .int .u64 0, .int .u64 0, .int .u64 0, .int .u64 0, .int .u64 0, .int .u64 0, .int .u64 0, .int .u64 0, .int .u64 0, .int .u64 0, .int .u64 0, .int .u64 0, .int .u64 0] 37) = x25 at *
          refine wpAnyH_ready (rs := [13]) (by kernel_rfl) (by simp) ?_
          refine AllReadyH.cons rfl (fun K hK => ?_) AllReadyH.nil
          go_simp
          refine (CB.out _ k25).mono ?_
          rintro e q26 ⟨⟨R2, rfl, hR2⟩, hq26⟩
          show K _ _
          have k26 := below_then k25 hq26
          have hR2 := Lib.hid hR2
          have z426 := z425.below hq26 z425.lt
          have z526 := z525.below hq26 z525.lt
          refine hK.out _ _ (HS.out _ k26) (fun _ => ?_)
          clear hK K
          refine wpAnyH_ready (rs := [16]) (by kernel_rfl) (by simp) ?_
          refine AllReadyH.cons rfl (fun K hK => ?_) AllReadyH.nil
          rw [if_pos (by rfl)]
          refine wp_store_rel z426 R1 _ _ rfl rfl rfl ?_
          have k27 := below_setRow k26 (g := x20.heap.size) (by omega) (rowsA R1)
          have z427 := z426.setRow R1
          have z527 := z526.far (g' := x20.heap.size) (by omega) (rowsA R1)
          refine hK.out _ _ (HS.out _ k27) (fun _ => ?_)
          clear hK K
          generalize q26.setRow x20.heap.size (rowsA R1) = x27 at *
          refine wpAnyH_ready (rs := [17]) (by kernel_rfl) (by simp) ?_
          refine AllReadyH.cons rfl (fun K hK => ?_) AllReadyH.nil
          rw [if_pos (by rfl)]
          refine wp_store_rel z527 R2 _ _ rfl rfl rfl ?_
          have k28 := below_setRow k27 (g := q1.heap.size) (by omega) (rowsA R2)
          have z528 := z527.setRow R2
          have z428 := z427.far (g' := q1.heap.size) (by omega) (rowsA R2)
          refine hK.out _ _ (HS.out _ k28) (fun _ => ?_)
          clear hK K
          generalize x27.setRow q1.heap.size (rowsA R2) = x28 at *
          refine wpAnyH_done (by kernel_rfl) ?_ _
          go_wp2_with fail
          go_meet
          exact ⟨x20.heap.size, q1.heap.size, R1, R2, rfl, rfl, z428, z528, hR1.out, hR2.out, k28⟩
    ·
      go_simp
      have hp29 := kd0.size
      have k29 := kd0.alloc kd0.size (.cells #[.int .u64 0, .int .u64 0, .int .u64 0, .int .u64 0, .int .u64 0, .int .u64 0, .int .u64 0, .int .u64 0, .int .u64 0, .int .u64 0, .int .u64 0, .int .u64 0, .int .u64 0, .int .u64 0, .int .u64 0, .int .u64 0, .int .u64 0, .int .u64 0, .int .u64 0, .int .u64 0, .int .u64 0, .int .u64 0, .int .u64 0, .int .u64 0, .int .u64 0, .int .u64 0, .int .u64 0, .int .u64 0, .int .u64 0, .int .u64 0, .int .u64 0, .int .u64 0, .int .u64 0, .int .u64 0, .int .u64 0, .int .u64 0, .int .u64 0, .int .u64 0, .int .u64 0, .int .u64 0, .int .u64 0, .int .u64 0, .int .u64 0, .int .u64 0, .int .u64 0, .int .u64 0, .int .u64 0, .int .u64 0, .int .u64 0, .int .u64 0, .int .u64 0, .int .u64 0, .int .u64 0, .int .u64 0, .int .u64 0, .int .u64 0, .int .u64 0, .int .u64 0, .int .u64 0, .int .u64 0, .int .u64 0, .int .u64 0, .int .u64 0, .int .u64 0] 37)
      have z429 := zero_block wd
      refine hK.out _ _ (HS.out _ k29) (fun _ => ?_)
      clear hK K
      generalize wd.alloc (.cells #[.int .u64 0, .int .u64 0, .int .u64 0, .int .u64 0, .int .u64 0, .int .u64 0, .int .u64 0, .int .u64 0, .int .u64 0, .int .u64 0, .int .u64 0, .int .u64 0, .int .u64 0, .int .u64 0, .int .u64 0, .int .u64 0, .int .u64 0, .int .u64 0, .int .u64 0, .int .u64 0, .int .u64 0, .int .u64 0, .int .u64 0, .int .u64 0, .int .u64 0, .int .u64 0, .int .u64 0, .int .u64 0, .int .u64 0, .int .u64 0, .int .u64 0, .int .u64 0, .int .u64 0, .int .u64 0, .int .u64 0, .int .u64 0, .int .u64 0, .int .u64 0, .int .u64 0, .int .u64 0, .int .u64 0, .int .u64 0, .int .u64 0, .int .u64 0, .int .u64 0, .int .u64 0, .int .u64 0, .int .u64 0, .int .u64 0, .int .u64 0, .int .u64 0, .int .u64 0, .int .u64 0, .int .u64 0, .int .u64 0, .int .u64 0, .int .u64 0, .int .u64 0, .int .u64 0, .int .u64 0, .int .u64 0, .int .u64 0, .int .u64 0, .int .u64 0] 37) = x29 at *
      refine wpAnyH_ready (rs := [5, 15]) (by kernel_rfl) (by simp) ?_
      refine AllReadyH.cons rfl (fun K hK => ?_) (AllReadyH.cons rfl (fun K hK => ?_) AllReadyH.nil)
      ·
        go_simp
        refine (CA.out _ k29).mono ?_
        rintro e q30 ⟨⟨R1, rfl, hR1⟩, hq30⟩
        show K _ _
        have k30 := below_then k29 hq30
        have hR1 := Lib.hid hR1
        have z430 := z429.below hq30 z429.lt
        refine hK.out _ _ (HS.out _ k30) (fun _ => ?_)
        clear hK K
        refine wpAnyH_ready (rs := [13, 15]) (by kernel_rfl) (by simp) ?_
        refine AllReadyH.cons rfl (fun K hK => ?_) (AllReadyH.cons rfl (fun K hK => ?_) AllReadyH.nil)
        ·
          go_simp
          refine (CB.out _ k30).mono ?_
          rintro e q31 ⟨⟨R2, rfl, hR2⟩, hq31⟩
          show K _ _
          have k31 := below_then k30 hq31
          have hR2 := Lib.hid hR2
          have z431 := z430.below hq31 z430.lt
          refine hK.out _ _ (HS.out _ k31) (fun _ => ?_)
          clear hK K
          refine wpAnyH_ready (rs := [15]) (by kernel_rfl) (by simp) ?_
          refine AllReadyH.cons rfl (fun K hK => ?_) AllReadyH.nil
          have l32 := z431.lt
          go_simp
          have hp32 := k31.size
          have k32 := k31.alloc k31.size (.cells #[.int .u64 0, .int .u64 0, .int .u64 0, .int .u64 0, .int .u64 0, .int .u64 0, .int .u64 0, .int .u64 0, .int .u64 0, .int .u64 0, .int .u64 0, .int .u64 0, .int .u64 0, .int .u64 0, .int .u64 0, .int .u64 0, .int .u64 0, .int .u64 0, .int .u64 0, .int .u64 0, .int .u64 0, .int .u64 0, .int .u64 0, .int .u64 0, .int .u64 0, .int .u64 0, .int .u64 0, .int .u64 0, .int .u64 0, .int .u64 0, .int .u64 0, .int .u64 0, .int .u64 0, .int .u64 0, .int .u64 0, .int .u64 0, .int .u64 0, .int .u64 0, .int .u64 0, .int .u64 0, .int .u64 0, .int .u64 0, .int .u64 0, .int .u64 0, .int .u64 0, .int .u64 0, .int .u64 0, .int .u64 0, .int .u64 0, .int .u64 0, .int .u64 0, .int .u64 0, .int .u64 0, .int .u64 0, .int .u64 0, .int .u64 0, .int .u64 0, .int .u64 0, .int .u64 0, .int .u64 0, .int .u64 0, .int .u64 0, .int .u64 0, .int .u64 0] 37)
          have z532 := zero_block q31
          have z432 := z431.alloc (.cells #[.int .u64 0, .int .u64 0, .int .u64 0, .int .u64 0, .int .u64 0, .int .u64 0, .int .u64 0, .int .u64 0, .int .u64 0, .int .u64 0, .int .u64 0, .int .u64 0, .int .u64 0, .int .u64 0, .int .u64 0, .int .u64 0, .int .u64 0, .int .u64 0, .int .u64 0, .int .u64 0, .int .u64 0, .int .u64 0, .int .u64 0, .int .u64 0, .int .u64 0, .int .u64 0, .int .u64 0, .int .u64 0, .int .u64 0, .int .u64 0, .int .u64 0, .int .u64 0, .int .u64 0, .int .u64 0, .int .u64 0, .int .u64 0, .int .u64 0, .int .u64 0, .int .u64 0, .int .u64 0, .int .u64 0, .int .u64 0, .int .u64 0, .int .u64 0, .int .u64 0, .int .u64 0, .int .u64 0, .int .u64 0, .int .u64 0, .int .u64 0, .int .u64 0, .int .u64 0, .int .u64 0, .int .u64 0, .int .u64 0, .int .u64 0, .int .u64 0, .int .u64 0, .int .u64 0, .int .u64 0, .int .u64 0, .int .u64 0, .int .u64 0, .int .u64 0] 37)
          refine hK.out _ _ (HS.out _ k32) (fun _ => ?_)
          clear hK K
          generalize q31.alloc (.cells #[.int .u64 0, .int .u64 0, .int .u64 0, .int .u64 0, .int .u64 0, .int .u64 0, .int .u64 0, .int .u64 0, .int .u64 0, .int .u64 0, .int .u64 0, .int .u64 0, .int .u64 0, .int .u64 0, .int .u64 0, .int .u64 0, .int .u64 0, .int .u64 0, .int .u64 0, .int .u64 0, .int .u64 0, .int .u64 0, .int .u64 0, .int .u64 0, .int .u64 0, .int .u64 0, .int .u64 0, .int .u64 0, .int .u64 0, .int .u64 0, .int .u64 0, .int .u64 0, .int .u64 0, .int .u64 0, .int .u64 0, .int .u64 0, .int .u64 0, .int .u64 0, .int .u64 0, .int .u64 0, .int .u64 0, .int .u64 0, .int .u64 0, .int .u64 0, .int .u64 0, .int .u64 0, .int .u64 0, .int .u64 0, .int .u64 0, .int .u64 0, .int .u64 0, .int .u64 0, .int .u64 0, .int .u64 0, .int .u64 0, .int .u64 0, .int .u64 0, .int .u64 0, .int .u64 0, .int .u64 0, .int .u64 0, .int .u64 0, .int .u64 0, .int .u64 0] 37) = x32 at *
          refine wpAnyH_ready (rs := [16]) (by kernel_rfl) (by simp) ?_
          refine AllReadyH.cons rfl (fun K hK => ?_) AllReadyH.nil
          rw [if_pos (by rfl)]
          refine wp_store_rel z432 R1 _ _ rfl rfl rfl ?_
          have k33 := below_setRow k32 (g := wd.heap.size) (by omega) (rowsA R1)
          have z433 := z432.setRow R1
          have z533 := z532.far (g' := wd.heap.size) (by omega) (rowsA R1)
          refine hK.out _ _ (HS.out _ k33) (fun _ => ?_)
          clear hK K
          generalize x32.setRow wd.heap.size (rowsA R1) = x33 at *
          refine wpAnyH_ready (rs := [17]) (by kernel_rfl) (by simp) ?_
          refine AllReadyH.cons rfl (fun K hK => ?_) AllReadyH.nil
          rw [if_pos (by rfl)]
          refine wp_store_rel z533 R2 _ _ rfl rfl rfl ?_
          have k34 := below_setRow k33 (g := q31.heap.size) (by omega) (rowsA R2)
          have z534 := z533.setRow R2
          have z434 := z433.far (g' := q31.heap.size) (by omega) (rowsA R2)
          refine hK.out _ _ (HS.out _ k34) (fun _ => ?_)
          clear hK K
          generalize x33.setRow q31.heap.size (rowsA R2) = x34 at *
          refine wpAnyH_done (by kernel_rfl) ?_ _
          go_wp2_with fail
          go_meet
          exact ⟨wd.heap.size, q31.heap.size, R1, R2, rfl, rfl, z434, z534, hR1.out, hR2.out, k34⟩
        ·
          have l35 := z430.lt
          go_simp
          have hp35 := k30.size
          have k35 := k30.alloc k30.size (.cells #[.int .u64 0, .int .u64 0, .int .u64 0, .int .u64 0, .int .u64 0, .int .u64 0, .int .u64 0, .int .u64 0, .int .u64 0, .int .u64 0, .int .u64 0, .int .u64 0, .int .u64 0, .int .u64 0, .int .u64 0, .int .u64 0, .int .u64 0, .int .u64 0, .int .u64 0, .int .u64 0, .int .u64 0, .int .u64 0, .int .u64 0, .int .u64 0, .int .u64 0, .int .u64 0, .int .u64 0, .int .u64 0, .int .u64 0, .int .u64 0, .int .u64 0, .int .u64 0, .int .u64 0, .int .u64 0, .int .u64 0, .int .u64 0, .int .u64 0, .int .u64 0, .int .u64 0, .int .u64 0, .int .u64 0, .int .u64 0, .int .u64 0, .int .u64 0, .int .u64 0, .int .u64 0, .int .u64 0, .int .u64 0, .int .u64 0, .int .u64 0, .int .u64 0, .int .u64 0, .int .u64 0, .int .u64 0, .int .u64 0, .int .u64 0, .int .u64 0, .int .u64 0, .int .u64 0, .int .u64 0, .int .u64 0, .int .u64 0, .int .u64 0, .int .u64 0] 37)
          have z535 := zero_block q30
          have z435 := z430.alloc (.cells #[.int .u64 0, .int .u64 0, .int .u64 0, .int .u64 0, .int .u64 0, .int .u64 0, .int .u64 0, .int .u64 0, .int .u64 0, .int .u64 0, .int .u64 0, .int .u64 0, .int .u64 0, .int .u64 0, .int .u64 0, .int .u64 0, .int .u64 0, .int .u64 0, .int .u64 0, .int .u64 0, .int .u64 0, .int .u64 0, .int .u64 0, .int .u64 0, .int .u64 0, .int .u64 0, .int .u64 0, .int .u64 0, .int .u64 0, .int .u64 0, .int .u64 0, .int .u64 0, .int .u64 0, .int .u64 0, .int .u64 0, .int .u64 0, .int .u64 0, .int .u64 0, .int .u64 0, .int .u64 0, .int .u64 0, .int .u64 0, .int .u64 0, .int .u64 0, .int .u64 0, .int .u64 0, .int .u64 0, .int .u64 0, .int .u64 0, .int .u64 0, .int .u64 0, .int .u64 0, .int .u64 0, .int .u64 0, .int .u64 0, .int .u64 0, .int .u64 0, .int .u64 0, .int .u64 0, .int .u64 0, .int .u64 0, .int .u64 0, .int .u64 0, .int .u64 0] 37)
          refine hK.out _ _ (HS.out _ k35) (fun _ => ?_)
          clear hK K
          generalize q30.alloc (.cells #[.int .u64 0, .int .u64 0, .int .u64 0, .int .u64 0, .int .u64 0, .int .u64 0, .int .u64 0, .int .u64 0, .int .u64 0, .int .u64 0, .int .u64 0, .int .u64 0, .int .u64 0, .int .u64 0, .int .u64 0, .int .u64 0, .int .u64 0, .int .u64 0, .int .u64 0, .int .u64 0, .int .u64 0, .int .u64 0, .int .u64 0, .int .u64 0, .int .u64 0, .int .u64 0, .int .u64 0, .int .u64 0, .int .u64 0, .int .u64 0, .int .u64 0, .int .u64 0, .int .u64 0, .int .u64 0, .int .u64 0, .int .u64 0, .int .u64 0, .int .u64 0, .int .u64 0, .int .u64 0, .int .u64 0, .int .u64 0, .int .u64 0, .int .u64 0, .int .u64 0, .int .u64 0, .int .u64 0, .int .u64 0, .int .u64 0, .int .u64 0, .int .u64 0, .int .u64 0, .int .u64 0, .int .u64 0, .int .u64 0, .int .u64 0, .int .u64 0, .int .u64 0, .int .u64 0, .int .u64 0, .int .u64 0, .int .u64 0, .int .u64 0, .int .u64 0] 37) = x35 at *
          refine wpAnyH_ready (rs := [13]) (by kernel_rfl) (by simp) ?_
          refine AllReadyH.cons rfl (fun K hK => ?_) AllReadyH.nil
          go_simp
          refine (CB.out _ k35).mono ?_
          rintro e q36 ⟨⟨R2, rfl, hR2⟩, hq36⟩
          show K _ _
          have k36 := below_then k35 hq36
          have hR2 := Lib.hid hR2
          have z436 := z435.below hq36 z435.lt
          have z536 := z535.below hq36 z535.lt
          refine hK.out _ _ (HS.out _ k36) (fun _ => ?_)
          clear hK K
          refine wpAnyH_ready (rs := [16]) (by kernel_rfl) (by simp) ?_
          refine AllReadyH.cons rfl (fun K hK => ?_) AllReadyH.nil
          rw [if_pos (by rfl)]
          refine wp_store_rel z436 R1 _ _ rfl rfl rfl ?_
          have k37 := below_setRow k36 (g := wd.heap.size) (by omega) (rowsA R1)
          have z437 := z436.setRow R1
          have z537 := z536.far (g' := wd.heap.size) (by omega) (rowsA R1)
          refine hK.out _ _ (HS.out _ k37) (fun _ => ?_)
          clear hK K
          generalize q36.setRow wd.heap.size (rowsA R1) = x37 at *
          refine wpAnyH_ready (rs := [17]) (by kernel_rfl) (by simp) ?_
          refine AllReadyH.cons rfl (fun K hK => ?_) AllReadyH.nil
          rw [if_pos (by rfl)]
          refine wp_store_rel z537 R2 _ _ rfl rfl rfl ?_
          have k38 := below_setRow k37 (g := q30.heap.size) (by omega) (rowsA R2)
          have z538 := z537.setRow R2
          have z438 := z437.far (g' := q30.heap.size) (by omega) (rowsA R2)
          refine hK.out _ _ (HS.out _ k38) (fun _ => ?_)
          clear hK K
          generalize x37.setRow q30.heap.size (rowsA R2) = x38 at *
          refine wpAnyH_done (by kernel_rfl) ?_ _
          go_wp2_with fail
          go_meet
          exact ⟨wd.heap.size, q30.heap.size, R1, R2, rfl, rfl, z438, z538, hR1.out, hR2.out, k38⟩
      ·
        have l39 := z429.lt
        go_simp
        have hp39 := k29.size
        have k39 := k29.alloc k29.size (.cells #[.int .u64 0, .int .u64 0, .int .u64 0, .int .u64 0, .int .u64 0, .int .u64 0, .int .u64 0, .int .u64 0, .int .u64 0, .int .u64 0, .int .u64 0, .int .u64 0, .int .u64 0, .int .u64 0, .int .u64 0, .int .u64 0, .int .u64 0, .int .u64 0, .int .u64 0, .int .u64 0, .int .u64 0, .int .u64 0, .int .u64 0, .int .u64 0, .int .u64 0, .int .u64 0, .int .u64 0, .int .u64 0, .int .u64 0, .int .u64 0, .int .u64 0, .int .u64 0, .int .u64 0, .int .u64 0, .int .u64 0, .int .u64 0, .int .u64 0, .int .u64 0, .int .u64 0, .int .u64 0, .int .u64 0, .int .u64 0, .int .u64 0, .int .u64 0, .int .u64 0, .int .u64 0, .int .u64 0, .int .u64 0, .int .u64 0, .int .u64 0, .int .u64 0, .int .u64 0, .int .u64 0, .int .u64 0, .int .u64 0, .int .u64 0, .int .u64 0, .int .u64 0, .int .u64 0, .int .u64 0, .int .u64 0, .int .u64 0, .int .u64 0, .int .u64 0] 37)
        have z539 := zero_block x29
        have z439 := z429.alloc (.cells #[.int .u64 0, .int .u64 0, .int .u64 0, .int .u64 0, .int .u64 0, .int .u64 0, .int .u64 0, .int .u64 0, .int .u64 0, .int .u64 0, .int .u64 0, .int .u64 0, .int .u64 0, .int .u64 0, .int .u64 0, .int .u64 0, .int .u64 0, .int .u64 0, .int .u64 0, .int .u64 0, .int .u64 0, .int .u64 0, .int .u64 0, .int .u64 0, .int .u64 0, .int .u64 0, .int .u64 0, .int .u64 0, .int .u64 0, .int .u64 0, .int .u64 0, .int .u64 0, .int .u64 0, .int .u64 0, .int .u64 0, .int .u64 0, .int .u64 0, .int .u64 0, .int .u64 0, .int .u64 0, .int .u64 0, .int .u64 0, .int .u64 0, .int .u64 0, .int .u64 0, .int .u64 0, .int .u64 0, .int .u64 0, .int .u64 0, .int .u64 0, .int .u64 0, .int .u64 0, .int .u64 0, .int .u64 0, .int .u64 0, .int .u64 0, .int .u64 0, .int .u64 0, .int .u64 0, .int .u64 0, .int .u64 0, .int .u64 0, .int .u64 0, .int .u64 0] 37)
        refine hK.out _ _ (HS.out _ k39) (fun _ => ?_)
        clear hK K
        generalize x29.alloc (.cells #[.int .u64 0, .int .u64 0, .int .u64 0, .int .u64 0, .int .u64 0, .int .u64 0, .int .u64 0, .int .u64 0, .int .u64 0, .int .u64 0, .int .u64 0, .int .u64 0, .int .u64 0, .int .u64 0, .int .u64 0, .int .u64 0, .int .u64 0, .int .u64 0, .int .u64 0, .int .u64 0, .int .u64 0, .int .u64 0, .int .u64 0, .int .u64 0, .int .u64 0, .int .u64 0, .int .u64 0, .int .u64 0, .int .u64 0, .int .u64 0, .int .u64 0, .int .u64 0, .int .u64 0, .int .u64 0, .int .u64 0, .int .u64 0, .int .u64 0, .int .u64 0, .int .u64 0, .int .u64 0, .int .u64 0, .int .u64 0, .int .u64 0, .int .u64 0, .int .u64 0, .int .u64 0, .int .u64 0, .int .u64 0, .int .u64 0, .int .u64 0, .int .u64 0, .int .u64 0, .int .u64 0, .int .u64 0, .int .u64 0, .int .u64 0, .int .u64 0, .int .u64 0, .int .u64 0, .int .u64 0, .int .u64 0, .int .u64 0, .int .u64 0, .int .u64 0] 37) = x39 at *
        refine wpAnyH_ready (rs := [5]) (by kernel_rfl) (by simp) ?_
        refine AllReadyH.cons rfl (fun K hK => ?_) AllReadyH.nil
        go_simp
        refine (CA.out _ k39).mono ?_
        rintro e q40 ⟨⟨R1, rfl, hR1⟩, hq40⟩
        show K _ _
        have k40 := below_then k39 hq40
        have hR1 := Lib.hid hR1
        have z440 := z439.below hq40 z439.lt
        have z540 := z539.below hq40 z539.lt
        refine hK.out _ _ (HS.out _ k40) (fun _ => ?_)
        clear hK K
        refine wpAnyH_ready (rs := [13]) (by kernel_rfl) (by simp) ?_
        refine AllReadyH.cons rfl (fun K hK => ?_) AllReadyH.nil
        go_simp
        refine (CB.out _ k40).mono ?_
        rintro e q41 ⟨⟨R2, rfl, hR2⟩, hq41⟩
        show K _ _
        have k41 := below_then k40 hq41
        have hR2 := Lib.hid hR2
        have z441 := z440.below hq41 z440.lt
        have z541 := z540.below hq41 z540.lt
        refine hK.out _ _ (HS.out _ k41) (fun _ => ?_)
        clear hK K
        refine wpAnyH_ready (rs := [16]) (by kernel_rfl) (by simp) ?_
        refine AllReadyH.cons rfl (fun K hK => ?_) AllReadyH.nil
        rw [if_pos (by rfl)]
        refine wp_store_rel z441 R1 _ _ rfl rfl rfl ?_
        have k42 := below_setRow k41 (g := wd.heap.size) (by omega) (rowsA R1)
        have z442 := z441.setRow R1
        have z542 := z541.far (g' := wd.heap.size) (by omega) (rowsA R1)
        refine hK.out _ _ (HS.out _ k42) (fun _ => ?_)
        clear hK K
        generalize q41.setRow wd.heap.size (rowsA R1) = x42 at *
        refine wpAnyH_ready (rs := [17]) (by kernel_rfl) (by simp) ?_
        refine AllReadyH.cons rfl (fun K hK => ?_) AllReadyH.nil
        rw [if_pos (by rfl)]
        refine wp_store_rel z542 R2 _ _ rfl rfl rfl ?_
        have k43 := below_setRow k42 (g := x29.heap.size) (by omega) (rowsA R2)
        have z543 := z542.setRow R2
        have z443 := z442.far (g' := x29.heap.size) (by omega) (rowsA R2)
        refine hK.out _ _ (HS.out _ k43) (fun _ => ?_)
        clear hK K
        generalize x42.setRow x29.heap.size (rowsA R2) = x43 at *
        refine wpAnyH_done (by kernel_rfl) ?_ _
        go_wp2_with fail
        go_meet
        exact ⟨wd.heap.size, x29.heap.size, R1, R2, rfl, rfl, z443, z543, hR1.out, hR2.out, k43⟩
    ·
      go_simp
      have hp44 := kd0.size
      have k44 := kd0.alloc kd0.size (.cells #[.int .u64 0, .int .u64 0, .int .u64 0, .int .u64 0, .int .u64 0, .int .u64 0, .int .u64 0, .int .u64 0, .int .u64 0, .int .u64 0, .int .u64 0, .int .u64 0, .int .u64 0, .int .u64 0, .int .u64 0, .int .u64 0, .int .u64 0, .int .u64 0, .int .u64 0, .int .u64 0, .int .u64 0, .int .u64 0, .int .u64 0, .int .u64 0, .int .u64 0, .int .u64 0, .int .u64 0, .int .u64 0, .int .u64 0, .int .u64 0, .int .u64 0, .int .u64 0, .int .u64 0, .int .u64 0, .int .u64 0, .int .u64 0, .int .u64 0, .int .u64 0, .int .u64 0, .int .u64 0, .int .u64 0, .int .u64 0, .int .u64 0, .int .u64 0, .int .u64 0, .int .u64 0, .int .u64 0, .int .u64 0, .int .u64 0, .int .u64 0, .int .u64 0, .int .u64 0, .int .u64 0, .int .u64 0, .int .u64 0, .int .u64 0, .int .u64 0, .int .u64 0, .int .u64 0, .int .u64 0, .int .u64 0, .int .u64 0, .int .u64 0, .int .u64 0] 37)
      have z544 := zero_block wd
      refine hK.out _ _ (HS.out _ k44) (fun _ => ?_)
      clear hK K
      generalize wd.alloc (.cells #[.int .u64 0, .int .u64 0, .int .u64 0, .int .u64 0, .int .u64 0, .int .u64 0, .int .u64 0, .int .u64 0, .int .u64 0, .int .u64 0, .int .u64 0, .int .u64 0, .int .u64 0, .int .u64 0, .int .u64 0, .int .u64 0, .int .u64 0, .int .u64 0, .int .u64 0, .int .u64 0, .int .u64 0, .int .u64 0, .int .u64 0, .int .u64 0, .int .u64 0, .int .u64 0, .int .u64 0, .int .u64 0, .int .u64 0, .int .u64 0, .int .u64 0, .int .u64 0, .int .u64 0, .int .u64 0, .int .u64 0, .int .u64 0, .int .u64 0, .int .u64 0, .int .u64 0, .int .u64 0, .int .u64 0, .int .u64 0, .int .u64 0, .int .u64 0, .int .u64 0, .int .u64 0, .int .u64 0, .int .u64 0, .int .u64 0, .int .u64 0, .int .u64 0, .int .u64 0, .int .u64 0, .int .u64 0, .int .u64 0, .int .u64 0, .int .u64 0, .int .u64 0, .int .u64 0, .int .u64 0, .int .u64 0, .int .u64 0, .int .u64 0, .int .u64 0] 37) = x44 at *
      refine wpAnyH_ready (rs := [5, 14]) (by kernel_rfl) (by simp) ?_
      refine AllReadyH.cons rfl (fun K hK => ?_) (AllReadyH.cons rfl (fun K hK => ?_) AllReadyH.nil)
      ·
        go_simp
        refine (CA.out _ k44).mono ?_
        rintro e q45 ⟨⟨R1, rfl, hR1⟩, hq45⟩
        show K _ _
        have k45 := below_then k44 hq45
        have hR1 := Lib.hid hR1
        have z545 := z544.below hq45 z544.lt
        refine hK.out _ _ (HS.out _ k45) (fun _ => ?_)
        clear hK K
        refine wpAnyH_ready (rs := [13, 14]) (by kernel_rfl) (by simp) ?_
        refine AllReadyH.cons rfl (fun K hK => ?_) (AllReadyH.cons rfl (fun K hK => ?_) AllReadyH.nil)
        ·
          go_simp
          refine (CB.out _ k45).mono ?_
          rintro e q46 ⟨⟨R2, rfl, hR2⟩, hq46⟩
          show K _ _
          have k46 := below_then k45 hq46
          have hR2 := Lib.hid hR2
          have z546 := z545.below hq46 z545.lt
          refine hK.out _ _ (HS.out _ k46) (fun _ => ?_)
          clear hK K
          refine wpAnyH_ready (rs := [14]) (by kernel_rfl) (by simp) ?_
          refine AllReadyH.cons rfl (fun K hK => ?_) AllReadyH.nil
          have l47 := z546.lt
          go_simp
          have hp47 := k46.size
          have k47 := k46.alloc k46.size (.cells #[.int .u64 0, .int .u64 0, .int .u64 0, .int .u64 0, .int .u64 0, .int .u64 0, .int .u64 0, .int .u64 0, .int .u64 0, .int .u64 0, .int .u64 0, .int .u64 0, .int .u64 0, .int .u64 0, .int .u64 0, .int .u64 0, .int .u64 0, .int .u64 0, .int .u64 0, .int .u64 0, .int .u64 0, .int .u64 0, .int .u64 0, .int .u64 0, .int .u64 0, .int .u64 0, .int .u64 0, .int .u64 0, .int .u64 0, .int .u64 0, .int .u64 0, .int .u64 0, .int .u64 0, .int .u64 0, .int .u64 0, .int .u64 0, .int .u64 0, .int .u64 0, .int .u64 0, .int .u64 0, .int .u64 0, .int .u64 0, .int .u64 0, .int .u64 0, .int .u64 0, .int .u64 0, .int .u64 0, .int .u64 0, .int .u64 0, .int .u64 0, .int .u64 0, .int .u64 0, .int .u64 0, .int .u64 0, .int .u64 0, .int .u64 0, .int .u64 0, .int .u64 0, .int .u64 0, .int .u64 0, .int .u64 0, .int .u64 0, .int .u64 0, .int .u64 0] 37)
          have z447 := zero_block q46
          have z547 := z546.alloc (.cells #[.int .u64 0, .int .u64 0, .int .u64 0, .int .u64 0, .int .u64 0, .int .u64 0, .int .u64 0, .int .u64 0, .int .u64 0, .int .u64 0, .int .u64 0, .int .u64 0, .int .u64 0, .int .u64 0, .int .u64 0, .int .u64 0, .int .u64 0, .int .u64 0, .int .u64 0, .int .u64 0, .int .u64 0, .int .u64 0, .int .u64 0, .int .u64 0, .int .u64 0, .int .u64 0, .int .u64 0, .int .u64 0, .int .u64 0, .int .u64 0, .int .u64 0, .int .u64 0, .int .u64 0, .int .u64 0, .int .u64 0, .int .u64 0, .int .u64 0, .int .u64 0, .int .u64 0, .int .u64 0, .int .u64 0, .int .u64 0, .int .u64 0, .int .u64 0, .int .u64 0, .int .u64 0, .int .u64 0, .int .u64 0, .int .u64 0, .int .u64 0, .int .u64 0, .int .u64 0, .int .u64 0, .int .u64 0, .int .u64 0, .int .u64 0, .int .u64 0, .int .u64 0, .int .u64 0, .int .u64 0, .int .u64 0, .int .u64 0, .int .u64 0, .int .u64 0] 37)
          refine hK.out _ _ (HS.out _ k47) (fun _ => ?_)
          clear hK K
          generalize q46.alloc (.cells #[.int .u64 0, .int .u64 0, .int .u64 0, .int .u64 0, .int .u64 0, .int .u64 0, .int .u64 0, .int .u64 0, .int .u64 0, .int .u64 0, .int .u64 0, .int .u64 0, .int .u64 0, .int .u64 0, .int .u64 0, .int .u64 0, .int .u64 0, .int .u64 0, .int .u64 0, .int .u64 0, .int .u64 0, .int .u64 0, .int .u64 0, .int .u64 0, .int .u64 0, .int .u64 0, .int .u64 0, .int .u64 0, .int .u64 0, .int .u64 0, .int .u64 0, .int .u64 0, .int .u64 0, .int .u64 0, .int .u64 0, .int .u64 0, .int .u64 0, .int .u64 0, .int .u64 0, .int .u64 0, .int .u64 0, .int .u64 0, .int .u64 0, .int .u64 0, .int .u64 0, .int .u64 0, .int .u64 0, .int .u64 0, .int .u64 0, .int .u64 0, .int .u64 0, .int .u64 0, .int .u64 0, .int .u64 0, .int .u64 0, .int .u64 0, .int .u64 0, .int .u64 0, .int .u64 0, .int .u64 0, .int .u64 0, .int .u64 0, .int .u64 0, .int .u64 0] 37) = x47 at *
          refine wpAnyH_ready (rs := [16]) (by kernel_rfl) (by simp) ?_
          refine AllReadyH.cons rfl (fun K hK => ?_) AllReadyH.nil
          rw [if_pos (by rfl)]
          refine wp_store_rel z447 R1 _ _ rfl rfl rfl ?_
          have k48 := below_setRow k47 (g := q46.heap.size) (by omega) (rowsA R1)
          have z448 := z447.setRow R1
          have z548 := z547.far (g' := q46.heap.size) (by omega) (rowsA R1)
          refine hK.out _ _ (HS.out _ k48) (fun _ => ?_)
          clear hK K
          generalize x47.setRow q46.heap.size (rowsA R1) = x48 at *
          refine wpAnyH_ready (rs := [17]) (by kernel_rfl) (by simp) ?_
          refine AllReadyH.cons rfl (fun K hK => ?_) AllReadyH.nil
          rw [if_pos (by rfl)]
          refine wp_store_rel z548 R2 _ _ rfl rfl rfl ?_
          have k49 := below_setRow k48 (g := wd.heap.size) (by omega) (rowsA R2)
          have z549 := z548.setRow R2
          have z449 := z448.far (g' := wd.heap.size) (by omega) (rowsA R2)
          refine hK.out _ _ (HS.out _ k49) (fun _ => ?_)
          clear hK K
          generalize x48.setRow wd.heap.size (rowsA R2) = x49 at *
          refine wpAnyH_done (by kernel_rfl) ?_ _
          go_wp2_with fail
          go_meet
          exact ⟨q46.heap.size, wd.heap.size, R1, R2, rfl, rfl, z449, z549, hR1.out, hR2.out, k49⟩
        ·
          have l50 := z545.lt
          go_simp
          have hp50 := k45.size
          have k50 := k45.alloc k45.size (.cells #[.int .u64 0, .int .u64 0, .int .u64 0, .int .u64 0, .int .u64 0, .int .u64 0, .int .u64 0, .int .u64 0, .int .u64 0, .int .u64 0, .int .u64 0, .int .u64 0, .int .u64 0, .int .u64 0, .int .u64 0, .int .u64 0, .int .u64 0, .int .u64 0, .int .u64 0, .int .u64 0, .int .u64 0, .int .u64 0, .int .u64 0, .int .u64 0, .int .u64 0, .int .u64 0, .int .u64 0, .int .u64 0, .int .u64 0, .int .u64 0, .int .u64 0, .int .u64 0, .int .u64 0, .int .u64 0, .int .u64 0, .int .u64 0, .int .u64 0, .int .u64 0, .int .u64 0, .int .u64 0, .int .u64 0, .int .u64 0, .int .u64 0, .int .u64 0, .int .u64 0, .int .u64 0, .int .u64 0, .int .u64 0, .int .u64 0, .int .u64 0, .int .u64 0, .int .u64 0, .int .u64 0, .int .u64 0, .int .u64 0, .int .u64 0, .int .u64 0, .int .u64 0, .int .u64 0, .int .u64 0, .int .u64 0, .int .u64 0, .int .u64 0, .int .u64 0] 37)
          have z450 := zero_block q45
          have z550 := z545.alloc (.cells #[.int .u64 0, .int .u64 0, .int .u64 0, .int .u64 0, .int .u64 0, .int .u64 0, .int .u64 0, .int .u64 0, .int .u64 0, .int .u64 0, .int .u64 0, .int .u64 0, .int .u64 0, .int .u64 0, .int .u64 0, .int .u64 0, .int .u64 0, .int .u64 0, .int .u64 0, .int .u64 0, .int .u64 0, .int .u64 0, .int .u64 0, .int .u64 0, .int .u64 0, .int .u64 0, .int .u64 0, .int .u64 0, .int .u64 0, .int .u64 0, .int .u64 0, .int .u64 0, .int .u64 0, .int .u64 0, .int .u64 0, .int .u64 0, .int .u64 0, .int .u64 0, .int .u64 0, .int .u64 0, .int .u64 0, .int .u64 0, .int .u64 0, .int .u64 0, .int .u64 0, .int .u64 0, .int .u64 0, .int .u64 0, .int .u64 0, .int .u64 0, .int .u64 0, .int .u64 0, .int .u64 0, .int .u64 0, .int .u64 0, .int .u64 0, .int .u64 0, .int .u64 0, .int .u64 0, .int .u64 0, .int .u64 0, .int .u64 0, .int .u64 0, .int .u64 0] 37)
          refine hK.out _ _ (HS.out _ k50) (fun _ => ?_)
          clear hK K
          generalize q45.alloc (.cells #[.int .u64 0, .int .u64 0, .int .u64 0, .int .u64 0, .int .u64 0, .int .u64 0, .int .u64 0, .int .u64 0, .int .u64 0, .int .u64 0, .int .u64 0, .int .u64 0, .int .u64 0, .int .u64 0, .int .u64 0, .int .u64 0, .int .u64 0, .int .u64 0, .int .u64 0, .int .u64 0, .int .u64 0, .int .u64 0, .int .u64 0, .int .u64 0, .int .u64 0, .int .u64 0, .int .u64 0, .int .u64 0, .int .u64 0, .int .u64 0, .int .u64 0, .int .u64 0, .int .u64 0, .int .u64 0, .int .u64 0, .int .u64 0, .int .u64 0, .int .u64 0, .int .u64 0, .int .u64 0, .int .u64 0, .int .u64 0, .int .u64 0, .int .u64 0, .int .u64 0, .int .u64 0, .int .u64 0, .int .u64 0, .int .u64 0, .int .u64 0, .int .u64 0, .int .u64 0, .int .u64 0, .int .u64 0, .int .u64 0, .int .u64 0, .int .u64 0, .int .u64 0, .int .u64 0, .int .u64 0, .int .u64 0, .int .u64 0, .int .u64 0, .int .u64 0] 37) = x50 at *
          refine wpAnyH_ready (rs := [13]) (by kernel_rfl) (by simp) ?_
          refine AllReadyH.cons rfl (fun K hK => ?_) AllReadyH.nil
          go_simp
          refine (CB.out _ k50).mono ?_
          rintro e q51 ⟨⟨R2, rfl, hR2⟩, hq51⟩
          show K _ _
          have k51 := below_then k50 hq51
          have hR2 := Lib.hid hR2
          have z451 := z450.below hq51 z450.lt
          have z551 := z550.below hq51 z550.lt
          refine hK.out _ _ (HS.out _ k51) (fun _ => ?_)
          clear hK K
          refine wpAnyH_ready (rs := [16]) (by kernel_rfl) (by simp) ?_
          refine AllReadyH.cons rfl (fun K hK => ?_) AllReadyH.nil
          rw [if_pos (by rfl)]
          refine wp_store_rel z451 R1 _ _ rfl rfl rfl ?_
          have k52 := below_setRow k51 (g := q45.heap.size) (by omega) (rowsA R1)
          have z452 := z451.setRow R1
          have z552 := z551.far (g' := q45.heap.size) (by omega) (rowsA R1)
          refine hK.out _ _ (HS.out _ k52) (fun _ => ?_)
          clear hK K
          generalize q51.setRow q45.heap.size (rowsA R1) = x52 at *
          refine wpAnyH_ready (rs := [17]) (by kernel_rfl) (by simp) ?_
          refine AllReadyH.cons rfl (fun K hK => ?_) AllReadyH.nil
          rw [if_pos (by rfl)]
          refine wp_store_rel z552 R2 _ _ rfl rfl rfl ?_
          have k53 := below_setRow k52 (g := wd.heap.size) (by omega) (rowsA R2)
          have z553 := z552.setRow R2
          have z453 := z452.far (g' := wd.heap.size) (by omega) (rowsA R2)
          refine hK.out _ _ (HS.out _ k53) (fun _ => ?_)
          clear hK K
          generalize x52.setRow wd.heap.size (rowsA R2) = x53 at *
          refine wpAnyH_done (by kernel_rfl) ?_ _
          go_wp2_with fail
          go_meet
          exact ⟨q45.heap.size, wd.heap.size, R1, R2, rfl, rfl, z453, z553, hR1.out, hR2.out, k53⟩
      ·
        have l54 := z544.lt
        go_simp
        have hp54 := k44.size
        have k54 := k44.alloc k44.size (.cells #[.int .u64 0, .int .u64 0, .int .u64 0, .int .u64 0, .int .u64 0, .int .u64 0, .int .u64 0, .int .u64 0, .int .u64 0, .int .u64 0, .int .u64 0, .int .u64 0, .int .u64 0, .int .u64 0, .int .u64 0, .int .u64 0, .int .u64 0, .int .u64 0, .int .u64 0, .int .u64 0, .int .u64 0, .int .u64 0, .int .u64 0, .int .u64 0, .int .u64 0, .int .u64 0, .int .u64 0, .int .u64 0, .int .u64 0, .int .u64 0, .int .u64 0, .int .u64 0, .int .u64 0, .int .u64 0, .int .u64 0, .int .u64 0, .int .u64 0, .int .u64 0, .int .u64 0, .int .u64 0, .int .u64 0, .int .u64 0, .int .u64 0, .int .u64 0, .int .u64 0, .int .u64 0, .int .u64 0, .int .u64 0, .int .u64 0, .int .u64 0, .int .u64 0, .int .u64 0, .int .u64 0, .int .u64 0, .int .u64 0, .int .u64 0, .int .u64 0, .int .u64 0, .int .u64 0, .int .u64 0, .int .u64 0, .int .u64 0, .int .u64 0, .int .u64 0] 37)
        have z454 := zero_block x44
        have z554 := z544.alloc (.cells #[.int .u64 0, .int .u64 0, .int .u64 0, .int .u64 0, .int .u64 0, .int .u64 0, .int .u64 0, .int .u64 0, .int .u64 0, .int .u64 0, .int .u64 0, .int .u64 0, .int .u64 0, .int .u64 0, .int .u64 0, .int .u64 0, .int .u64 0, .int .u64 0, .int .u64 0, .int .u64 0, .int .u64 0, .int .u64 0, .int .u64 0, .int .u64 0, .int .u64 0, .int .u64 0, .int .u64 0, .int .u64 0, .int .u64 0, .int .u64 0, .int .u64 0, .int .u64 0, .int .u64 0, .int .u64 0, .int .u64 0, .int .u64 0, .int .u64 0, .int .u64 0, .int .u64 0, .int .u64 0, .int .u64 0, .int .u64 0, .int .u64 0, .int .u64 0, .int .u64 0, .int .u64 0, .int .u64 0, .int .u64 0, .int .u64 0, .int .u64 0, .int .u64 0, .int .u64 0, .int .u64 0, .int .u64 0, .int .u64 0, .int .u64 0, .int .u64 0, .int .u64 0, .int .u64 0, .int .u64 0, .int .u64 0, .int .u64 0, .int .u64 0, .int .u64 0] 37)
        refine hK.out _ _ (HS.out _ k54) (fun _ => ?_)
        clear hK K
        generalize x44.alloc (.cells #[.int .u64 0, .int .u64 0, .int .u64 0, .int .u64 0, .int .u64 0, .int .u64 0, .int .u64 0, .int .u64 0, .int .u64 0, .int .u64 0, .int .u64 0, .int .u64 0, .int .u64 0, .int .u64 0, .int .u64 0, .int .u64 0, .int .u64 0, .int .u64 0, .int .u64 0, .int .u64 0, .int .u64 0, .int .u64 0, .int .u64 0, .int .u64 0, .int .u64 0, .int .u64 0, .int .u64 0, .int .u64 0, .int .u64 0, .int .u64 0, .int .u64 0, .int .u64 0, .int .u64 0, .int .u64 0, .int .u64 0, .int .u64 0, .int .u64 0, .int .u64 0, .int .u64 0, .int .u64 0, .int .u64 0, .int .u64 0, .int .u64 0, .int .u64 0, .int .u64 0, .int .u64 0, .int .u64 0, .int .u64 0, .int .u64 0, .int .u64 0, .int .u64 0, .int .u64 0, .int .u64 0, .int .u64 0, .int .u64 0, .int .u64 0, .int .u64 0, .int .u64 0, .int .u64 0, .int .u64 0, .int .u64 0, .int .u64 0, .int .u64 0, .int .u64 0] 37) = x54 at *
        refine wpAnyH_ready (rs := [5]) (by kernel_rfl) (by simp) ?_
        refine AllReadyH.cons rfl (fun K hK => ?_) AllReadyH.nil
        go_simp
        refine (CA.out _ k54).mono ?_
        rintro e q55 ⟨⟨R1, rfl, hR1⟩, hq55⟩
        show K _ _
        have k55 := below_then k54 hq55
        have hR1 := Lib.hid hR1
        have z455 := z454.below hq55 z454.lt
        have z555 := z554.below hq55 z554.lt
        refine hK.out _ _ (HS.out _ k55) (fun _ => ?_)
        clear hK K
        refine wpAnyH_ready (rs := [13]) (by kernel_rfl) (by simp) ?_
        refine AllReadyH.cons rfl (fun K hK => ?_) AllReadyH.nil
        go_simp
        refine (CB.out _ k55).mono ?_
        rintro e q56 ⟨⟨R2, rfl, hR2⟩, hq56⟩
        show K _ _
        have k56 := below_then k55 hq56
        have hR2 := Lib.hid hR2
        have z456 := z455.below hq56 z455.lt
        have z556 := z555.below hq56 z555.lt
        refine hK.out _ _ (HS.out _ k56) (fun _ => ?_)
        clear hK K
        refine wpAnyH_ready (rs := [16]) (by kernel_rfl) (by simp) ?_
        refine AllReadyH.cons rfl (fun K hK => ?_) AllReadyH.nil
        rw [if_pos (by rfl)]
        refine wp_store_rel z456 R1 _ _ rfl rfl rfl ?_
        have k57 := below_setRow k56 (g := x44.heap.size) (by omega) (rowsA R1)
        have z457 := z456.setRow R1
        have z557 := z556.far (g' := x44.heap.size) (by omega) (rowsA R1)
        refine hK.out _ _ (HS.out _ k57) (fun _ => ?_)
        clear hK K
        generalize q56.setRow x44.heap.size (rowsA R1) = x57 at *
        refine wpAnyH_ready (rs := [17]) (by kernel_rfl) (by simp) ?_
        refine AllReadyH.cons rfl (fun K hK => ?_) AllReadyH.nil
        rw [if_pos (by rfl)]
        refine wp_store_rel z557 R2 _ _ rfl rfl rfl ?_
        have k58 := below_setRow k57 (g := wd.heap.size) (by omega) (rowsA R2)
        have z558 := z557.setRow R2
        have z458 := z457.far (g' := wd.heap.size) (by omega) (rowsA R2)
        refine hK.out _ _ (HS.out _ k58) (fun _ => ?_)
        clear hK K
        generalize x57.setRow wd.heap.size (rowsA R2) = x58 at *
        refine wpAnyH_done (by kernel_rfl) ?_ _
        go_wp2_with fail
        go_meet
        exact ⟨x44.heap.size, wd.heap.size, R1, R2, rfl, rfl, z458, z558, hR1.out, hR2.out, k58⟩
  case rest =>
    clear hwa hwm hor
    obtain ⟨p8, p9, R1, R2, rfl, rfl, z4, z5, hR1, hR2, kw⟩ := hcut
    have HMON := Lib.hid (HMN.out R1 R2 hR1 hR2)
    have hR1 := Lib.hid hR1
    clear hR2 HMN kd
    generalize wc = w8 at *
    have HZ4 : Hid (∀ wx, Below w8.heap.size w8 wx → RelAt wx p8 37 R1) := Lib.hid (fun wx hx => z4.below hx z4.lt)
    have k0 := Below.refl w8.heap.size w8
    go_wp2_with (first | (with_reducible refine wpList_load_rel z4 rfl _ rfl rfl ?_) | (with_reducible refine wpList_load_rel z5 rfl _ rfl rfl ?_))
    refine (withinR_any R1 R2 _).mono ?_
    rintro e w9 ⟨rfl, h9⟩
    rw [HMON.out]
    have k9 := below_then k0 h9
    have kw9 := kw.trans (k9.mono kw.size)
    have HS9 := Lib.hid (HS.out _ kw9)
    clear z4 z5 HMON h9
    obtain ⟨n0, n1, n2⟩ := HS9.out
    clear HS9
    have CL := Lib.hid (CC.out w9)
    go_wp2_with fail
    refine (CL.out).mono ?_
    rintro e wl ⟨rfl, rfl⟩
    clear CL n0 n1 n2
    go_wp2_with fail
    refine (CD.out _ kw9).mono ?_
    rintro e w10 ⟨⟨R3, rfl, hR3⟩, h10⟩
    have k10 := below_then k9 h10
    have kw10 := kw.trans (k10.mono kw.size)
    have HCL := Lib.hid (HCN.out R1 R3 hR1.out hR3)
    clear hR3 h10 hR1 k9 kw9
    have z10 := zero_block w10
    have z11 := z10.setRow R3
    have k11 := k10.trans ((zero_below w10 R3).mono k10.size)
    have kw11 := kw.trans (k11.mono kw.size)
    go_wp2_with (with_reducible refine wpList_store_rel z10 R3 rfl _ _ rfl rfl rfl ?_)
    clear z10
    generalize (w10.alloc (.cells #[.int .u64 0, .int .u64 0, .int .u64 0, .int .u64 0, .int .u64 0, .int .u64 0, .int .u64 0, .int .u64 0, .int .u64 0, .int .u64 0, .int .u64 0, .int .u64 0, .int .u64 0, .int .u64 0, .int .u64 0, .int .u64 0, .int .u64 0, .int .u64 0, .int .u64 0, .int .u64 0, .int .u64 0, .int .u64 0, .int .u64 0, .int .u64 0, .int .u64 0, .int .u64 0, .int .u64 0, .int .u64 0, .int .u64 0, .int .u64 0, .int .u64 0, .int .u64 0, .int .u64 0, .int .u64 0, .int .u64 0, .int .u64 0, .int .u64 0, .int .u64 0, .int .u64 0, .int .u64 0, .int .u64 0, .int .u64 0, .int .u64 0, .int .u64 0, .int .u64 0, .int .u64 0, .int .u64 0, .int .u64 0, .int .u64 0, .int .u64 0, .int .u64 0, .int .u64 0, .int .u64 0, .int .u64 0, .int .u64 0, .int .u64 0, .int .u64 0, .int .u64 0, .int .u64 0, .int .u64 0, .int .u64 0, .int .u64 0, .int .u64 0, .int .u64 0] 37)).setRow w10.heap.size (rowsA R3) = w11 at *
    have z4 := HZ4.out _ k11
    have HY4 : Hid (∀ wx, Below w11.heap.size w11 wx → RelAt wx p8 37 R1) := Lib.hid (fun wx hx => z4.below hx z4.lt)
    have HY3 : Hid (∀ wx, Below w11.heap.size w11 wx → RelAt wx w10.heap.size 37 R3) := Lib.hid (fun wx hx => z11.below hx z11.lt)
    have HBF := Lib.hid (fun wx (hx : Below w11.heap.size w11 wx) => HFIN.out wx (kw11.trans (hx.mono kw11.size)))
    have CH := Lib.hid (fun wx (hx : Below w11.heap.size w11 wx) => chain_any _ _ wx (HRW.out wx (kw11.trans (hx.mono kw11.size))))
    have CW := Lib.hid (fun wx => withinR_any R1 (chainR (L.map Int.ofNat)) wx)
    have ke := (Below.refl w11.heap.size w11).drew
    clear z4 z11 k0 k10 k11 kw kw10 kw11 HZ4
    go_wp2_with fail
    cases hin : inM R1 (chainR (L.map Int.ofNat)) with
    | true =>
      have HFE := Lib.hid (HCL.out hin)
      rw [hin] at CW
      clear HCL hin
      refine wp_region_held_drew (S := Below w11.heap.size w11) (by kernel_rfl) ke (fun hS0 => ?_)
      refine takeG (some 60) (i := 0) (v := _) rfl rfl (by kernel_rfl) (by kernel_rfl) (by kernel_rfl) (fun _ _ _ h => h) (yields_rel (by rfl) _ rfl rfl HY4.out) hS0 ?_
      try simp only [Act.put, List.setIfInBounds_toArray, List.set_cons_zero, List.set_cons_succ]
      refine takeG (some 61) (i := 1) (v := ?vmt1) rfl rfl (by kernel_rfl) (by kernel_rfl) (by kernel_rfl) (fun _ _ _ h => h) (Or.inl ⟨by rfl, ?hmt1⟩) hS0 ?rmt1
      case hmt1 => (intro w _; go_simp; try (with_reducible rfl))
      try simp only [Act.put, List.setIfInBounds_toArray, List.set_cons_zero, List.set_cons_succ]
      refine wpAnyH_ready (rs := [2]) (by kernel_rfl) (by simp) ?_
      refine AllReadyH.cons rfl (fun K hK => ?_) AllReadyH.nil
      go_simp
      refine (CH.out _ hS0).mono ?_
      rintro e x1 ⟨rfl, hx1⟩
      show K _ _
      have s1 := below_then hS0 hx1
      refine hK.out _ _ s1 (fun _ => ?_)
      clear hK K
      refine wpAnyH_ready (rs := [3]) (by kernel_rfl) (by simp) ?_
      refine AllReadyH.cons rfl (fun K hK => ?_) AllReadyH.nil
      go_simp
      refine (CW.out _).mono ?_
      rintro e x2 ⟨rfl, hx2⟩
      show K _ _
      have s2 := below_then s1 hx2
      refine hK.out _ _ s2 (fun _ => ?_)
      clear hK K
      refine takeG (some 64) (i := 4) (v := ?vmt4) rfl rfl (by kernel_rfl) (by kernel_rfl) (by kernel_rfl) (fun _ _ _ h => h) (Or.inl ⟨by rfl, ?hmt4⟩) s2 ?rmt4
      case hmt4 => (intro w _; go_simp; try (with_reducible rfl))
      try simp only [Act.put, List.setIfInBounds_toArray, List.set_cons_zero, List.set_cons_succ]
      refine takeG (some 65) (i := 5) (v := ?vmt5) rfl rfl (by kernel_rfl) (by kernel_rfl) (by kernel_rfl) (fun _ _ _ h => h) (Or.inl ⟨by rfl, ?hmt5⟩) s2 ?rmt5
      case hmt5 => (intro w _; go_simp; try (with_reducible rfl))
      try simp only [Act.put, List.setIfInBounds_toArray, List.set_cons_zero, List.set_cons_succ]
      refine takeG (some 66) (i := 6) (v := _) rfl rfl (by kernel_rfl) (by kernel_rfl) (by kernel_rfl) (fun _ _ _ h => h) (yields_rel (by rfl) _ rfl rfl HY4.out) s2 ?_
      try simp only [Act.put, List.setIfInBounds_toArray, List.set_cons_zero, List.set_cons_succ]
      refine takeG (some 67) (i := 7) (v := _) rfl rfl (by kernel_rfl) (by kernel_rfl) (by kernel_rfl) (fun _ _ _ h => h) (yields_rel (by rfl) _ rfl rfl HY3.out) s2 ?_
      try simp only [Act.put, List.setIfInBounds_toArray, List.set_cons_zero, List.set_cons_succ]
      refine takeG (some 68) (i := 8) (v := .bool true) rfl rfl (by kernel_rfl) (by kernel_rfl) (by kernel_rfl) (fun _ _ _ h => h) (yields_eql2 (by rfl) _ _ rfl rfl rfl HFE.out) s2 ?_
      try simp only [Act.put, List.setIfInBounds_toArray, List.set_cons_zero, List.set_cons_succ]
      refine takeG (some 69) (i := 9) (v := ?vmt9) rfl rfl (by kernel_rfl) (by kernel_rfl) (by kernel_rfl) (fun _ _ _ h => h) (Or.inl ⟨by rfl, ?hmt9⟩) s2 ?rmt9
      case hmt9 => (intro w _; go_simp; try (with_reducible rfl))
      try simp only [Act.put, List.setIfInBounds_toArray, List.set_cons_zero, List.set_cons_succ]
      refine takeG (some 4) (i := 10) (v := ?vmt10) rfl rfl (by kernel_rfl) (by kernel_rfl) (by kernel_rfl) (fun _ _ _ h => h) (Or.inl ⟨by rfl, ?hmt10⟩) s2 ?rmt10
      case hmt10 => (intro w _; go_simp; try (with_reducible rfl))
      try simp only [Act.put, List.setIfInBounds_toArray, List.set_cons_zero, List.set_cons_succ]
      refine wpAnyH_done (by kernel_rfl) ?_ _
      go_wp2_with fail
      go_ret
      exact ⟨rfl, HBF.out _ s2⟩
    | false =>
      rw [hin] at CW
      clear HCL hin
      refine wp_region_held_drew (S := Below w11.heap.size w11) (by kernel_rfl) ke (fun hS0 => ?_)
      refine takeG (some 60) (i := 0) (v := _) rfl rfl (by kernel_rfl) (by kernel_rfl) (by kernel_rfl) (fun _ _ _ h => h) (yields_rel (by rfl) _ rfl rfl HY4.out) hS0 ?_
      try simp only [Act.put, List.setIfInBounds_toArray, List.set_cons_zero, List.set_cons_succ]
      refine takeG (some 61) (i := 1) (v := ?vmf1) rfl rfl (by kernel_rfl) (by kernel_rfl) (by kernel_rfl) (fun _ _ _ h => h) (Or.inl ⟨by rfl, ?hmf1⟩) hS0 ?rmf1
      case hmf1 => (intro w _; go_simp; try (with_reducible rfl))
      try simp only [Act.put, List.setIfInBounds_toArray, List.set_cons_zero, List.set_cons_succ]
      refine wpAnyH_ready (rs := [2]) (by kernel_rfl) (by simp) ?_
      refine AllReadyH.cons rfl (fun K hK => ?_) AllReadyH.nil
      go_simp
      refine (CH.out _ hS0).mono ?_
      rintro e x1 ⟨rfl, hx1⟩
      show K _ _
      have s1 := below_then hS0 hx1
      refine hK.out _ _ s1 (fun _ => ?_)
      clear hK K
      refine wpAnyH_ready (rs := [3]) (by kernel_rfl) (by simp) ?_
      refine AllReadyH.cons rfl (fun K hK => ?_) AllReadyH.nil
      go_simp
      refine (CW.out _).mono ?_
      rintro e x2 ⟨rfl, hx2⟩
      show K _ _
      have s2 := below_then s1 hx2
      refine hK.out _ _ s2 (fun _ => ?_)
      clear hK K
      refine takeG (some 64) (i := 4) (v := ?vmf4) rfl rfl (by kernel_rfl) (by kernel_rfl) (by kernel_rfl) (fun _ _ _ h => h) (Or.inl ⟨by rfl, ?hmf4⟩) s2 ?rmf4
      case hmf4 => (intro w _; go_simp; try (with_reducible rfl))
      try simp only [Act.put, List.setIfInBounds_toArray, List.set_cons_zero, List.set_cons_succ]
      refine takeG (some 65) (i := 5) (v := ?vmf5) rfl rfl (by kernel_rfl) (by kernel_rfl) (by kernel_rfl) (fun _ _ _ h => h) (Or.inl ⟨by rfl, ?hmf5⟩) s2 ?rmf5
      case hmf5 => (intro w _; go_simp; try (with_reducible rfl))
      try simp only [Act.put, List.setIfInBounds_toArray, List.set_cons_zero, List.set_cons_succ]
      refine takeG (some 66) (i := 6) (v := undef) rfl rfl (by kernel_rfl) (by kernel_rfl) (by kernel_rfl) (fun _ _ _ h => h) (Or.inr ⟨by rfl, rfl⟩) s2 ?_
      try simp only [Act.put, List.setIfInBounds_toArray, List.set_cons_zero, List.set_cons_succ]
      refine takeG (some 67) (i := 7) (v := undef) rfl rfl (by kernel_rfl) (by kernel_rfl) (by kernel_rfl) (fun _ _ _ h => h) (Or.inr ⟨by rfl, rfl⟩) s2 ?_
      try simp only [Act.put, List.setIfInBounds_toArray, List.set_cons_zero, List.set_cons_succ]
      refine takeG (some 68) (i := 8) (v := undef) rfl rfl (by kernel_rfl) (by kernel_rfl) (by kernel_rfl) (fun _ _ _ h => h) (Or.inr ⟨by rfl, rfl⟩) s2 ?_
      try simp only [Act.put, List.setIfInBounds_toArray, List.set_cons_zero, List.set_cons_succ]
      refine takeG (some 69) (i := 9) (v := ?vmf9) rfl rfl (by kernel_rfl) (by kernel_rfl) (by kernel_rfl) (fun _ _ _ h => h) (Or.inl ⟨by rfl, ?hmf9⟩) s2 ?rmf9
      case hmf9 => (intro w _; go_simp; try (with_reducible rfl))
      try simp only [Act.put, List.setIfInBounds_toArray, List.set_cons_zero, List.set_cons_succ]
      refine takeG (some 4) (i := 10) (v := ?vmf10) rfl rfl (by kernel_rfl) (by kernel_rfl) (by kernel_rfl) (fun _ _ _ h => h) (Or.inl ⟨by rfl, ?hmf10⟩) s2 ?rmf10
      case hmf10 => (intro w _; go_simp; try (with_reducible rfl))
      try simp only [Act.put, List.setIfInBounds_toArray, List.set_cons_zero, List.set_cons_succ]
      refine wpAnyH_done (by kernel_rfl) ?_ _
      go_wp2_with fail
      go_ret
      exact ⟨rfl, HBF.out _ s2⟩
end Go.Proofs.YtfekcmhjdjifgaaDoor
