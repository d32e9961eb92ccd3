/- Walks and plain facts that the proof of the statement BruteIn uses, joined: PlaP LeaI LeaJ TopA BruK BruM. Conditions: each theorem's own. -/
import Derived.Test.YtfancjmhdbaoeaaGreatDoorPBruteIn0
import Derived.Test.YtfancjmhdbaoeaaGreatDoorPBruteIn3
import Derived.Test.YtfancjmhdbaoeaaGreatDoorPBruteIn5
import Derived.Test.YtfancjmhdbaoeaaGreatDoorPBruteIn7
import Derived.Test.YtfancjmhdbaoeaaGreatDoorPBruteIn10
namespace Go.Proofs.YtfancjmhdbaoeaaGreatDoor
set_option maxRecDepth 100000
open Go.RowKit

set_option maxHeartbeats 16000000 in
theorem lrow_own (n : Nat) (hn : n ≤ 1000) (vb : Value) (bs : List Int) (w : World) (hB : Row w vb bs.length 1 (bs.map (Value.int .u8))) (hbs : ∀ x ∈ bs, 0 ≤ x ∧ x < 256) :
    Calls Tryz.prog 12 #[.int .i64 n, vb] w fun e w' => (∃ (v : Value) (L : List Nat), e = .returned v ∧ w'.ownsRow w.heap.size 3 1 v L.length (L.map fun i : Nat => Value.int .i64 (i : Int)) ∧ L.Perm (List.range n)) ∧ Below w.heap.size w w' := by
  obtain ⟨i0, hi, hz0, hz1, hz2⟩ := info_parts infoInt
  have HB := Lib.hid (fun wx (hx : Below w.heap.size w wx) => hB.below hx)
  have HBS := Lib.hid hbs
  obtain ⟨_, bo, bcap, rfl, hbm, _, _⟩ := hB
  clear hbs
  go_enter Tryz.func12, Tryz.ntmps12
  go_wp2_with fail
  go_loopw [5, 11] (fun v i wr => ∃ k : Nat, k ≤ n ∧ i = .int .i64 k ∧ wr.ownsRow w.heap.size 3 1 v k ((List.range k).map fun i : Nat => Value.int .i64 (i : Int)) ∧ Below w.heap.size w wr) (fun _ i _ => n - (intOf i).toNat)
  case atStart => exact ⟨0, by omega, rfl, World.ownsRow_nil _ _ _ _, Below.refl _ _⟩
  case round =>
    obtain ⟨k, hk, rfl, hown, hb⟩ := hrel
    by_cases hlt : k < n
    · have hki : (k : Int) < (n : Int) := by omega
      have HR : Hid ((List.range (k + 1)).map (fun i : Nat => Value.int .i64 (i : Int)) = (List.range k).map (fun i : Nat => Value.int .i64 (i : Int)) ++ [.int .i64 (k : Int)]) := Lib.hid (by rw [List.range_succ, List.map_append]; rfl)
      generalize (List.range k).map (fun i : Nat => Value.int .i64 (i : Int)) = xs at *
      go_wp2_with (at_builtin; refine wpList_append_own _ rfl _ _ 32 rfl w.heap.size 3 i0 (.int .i64 0) 1 8 Tryz.underlying32 hi hz0 hz1 hz2 rfl (by decide) _ _ _ rfl (hown.alloc _) ⟨_, 0, none⟩ 1 1 [.int .i64 (k : Int)] rfl rfl ?c1 ?c2 ?c3 ?c4 ?c5 ?_)
      try case c1 => exact cell_one_new _ _ _
      case c2 => first | rfl | (intro u hu; simp at hu; subst hu; rfl)
      case c3 => unfold maxLen; omega
      case c4 => omega
      case c5 => have := hb.size; simp; omega
      intro v6 w6 hown6 hg6 _
      have hsz := hb.size
      have hb6 : Below w.heap.size w w6 := hb.trans (below_app (Below.refl _ _) hsz hown hg6)
      clear hown hg6 hb
      go_wp2_with fail
      go_roundw
      case rel => exact ⟨k + 1, by omega, by go_num, by rw [HR.out]; exact hown6, hb6⟩
      case measure => simp [intOf]; omega
    · have hkn : k = n := by omega
      subst hkn
      have hI : Ints wr u5 ((List.range k).map Int.ofNat) := Ints.of_nats hown
      have HP : Hid (([] ++ List.range k).Perm (List.range k)) := Lib.hid (List.Perm.refl _)
      have hll : (List.range k).length = k := List.length_range
      obtain ⟨L0, hL0⟩ : ∃ L, L = List.range k := ⟨_, rfl⟩
      rw [← hL0] at hI
      have HP0 : Hid (([] ++ L0).Perm (List.range k)) := Lib.hid (by rw [hL0]; exact List.Perm.refl _)
      have hl0 : L0.length = k := by rw [hL0]; exact hll
      clear hown HP hll hL0 hlt
      obtain ⟨av, cv, rfl⟩ : ∃ a c, u5 = .slice a k c := by
        obtain ⟨a, c, e, _⟩ := hI.form
        rw [List.length_map, hl0] at e
        exact ⟨a, c, e⟩
      have hl0 := Lib.hid hl0
      go_wp2_with fail
      go_loopw [5, 6, 8] (fun vl vo iv wx => ∃ (L O : List Nat) (i : Nat), iv = .int .i64 i ∧ O.length = i ∧ wx.ownsRow w.heap.size 3 1 vo O.length (O.map fun i : Nat => Value.int .i64 (i : Int)) ∧ Ints wx vl (L.map Int.ofNat) ∧ (∀ b, vo.ownBlock = some b → vl.ownBlock ≠ some b) ∧ (O ++ L).Perm (List.range k) ∧ Below w.heap.size w wx)
        (fun vl _ _ _ => lenV vl)
      case atStart => exact ⟨L0, [], 0, rfl, rfl, World.ownsRow_nil _ _ _ _, hI, fun b h => by simp [Value.ownBlock] at h, HP0.out, hb⟩
      case round =>
        obtain ⟨L, O, i, rfl, hOi, hown, hI, hap, hperm, hb⟩ := hrel
        have HP := Lib.hid hperm
        have hlen : O.length + L.length = k := by have := hperm.length_eq; simpa using this
        have hik : i ≤ k := by omega
        have hok : O.length ≤ k := by omega
        have hLk : L.length ≤ k := by omega
        clear hperm HP0
        obtain ⟨lo, lcap, rfl, ⟨hlc, hlm⟩, hno⟩ := hI.full
        rw [List.length_map] at hlc hno
        rw [List.length_map] at hI ⊢
        rcases Nat.eq_zero_or_pos L.length with h0 | h0
        · have hL : L = [] := List.eq_nil_of_length_eq_zero h0
          subst hL
          have HR : Hid (O.Perm (List.range k)) := Lib.hid (by have := HP.out; rwa [List.append_nil] at this)
          have hIO := Ints.of_nats hown
          have HOWN := Lib.hid hown
          clear hOi hlen hI HP hown hap hIO
          go_wp2_with fail
          go_ret
          exact ⟨⟨_, O, rfl, HOWN.out, HR.out⟩, hb⟩
        · have hL0i : (0 : Int) < (L.length : Int) := by omega
          have HOI := Lib.hid hOi
          have HLN := Lib.hid hlen
          clear hOi hlen hl0 hno
          by_cases hbi : i < bs.length
          · have hbii : (i : Int) < (bs.length : Int) := by omega
            obtain ⟨x, hx⟩ : ∃ x, x = bs[i] := ⟨_, rfl⟩
            have hxr := HBS.out bs[i] (List.getElem_mem hbi)
            obtain ⟨gb, ob, hao, e0⟩ := bytes_at (HB.out _ hb) hbi
            cases hao
            rw [← hx] at hxr e0
            obtain ⟨hx0, hx1⟩ := hxr
            obtain ⟨j, hj⟩ : ∃ j : Nat, x % (L.length : Int) = (j : Int) := ⟨(x % (L.length : Int)).toNat, by have := Int.emod_nonneg x (show (L.length : Int) ≠ 0 by omega); omega⟩
            have hjl : j < L.length := by have := Int.emod_lt_of_pos x hL0i; omega
            clear hx
            go_upto_region 13 with fail
            rw [hj]
            clear e0 hj hx0 hx1
            obtain ⟨g, o, hgo, hcj⟩ := ints_at hI hjl
            cases hgo
            have hji : (j : Int) < (L.length : Int) := by omega
            have HPM : Hid ((O ++ [L[j]] ++ (L.take j ++ L.drop (j + 1))).Perm (List.range k)) := Lib.hid ((perm_take O L j hjl).trans HP.out)
            have HLM : Hid ((L.take j ++ L.drop (j + 1)).length + 1 = L.length) := Lib.hid (by simp; omega)
            generalize L[j] = y at *
            have HI := Lib.hid hI
            have HAP := Lib.hid hap
            clear hI hap
            go_wp2_with (at_builtin; refine wpList_append_own _ rfl _ _ 32 rfl w.heap.size 3 i0 (.int .i64 0) 1 8 Tryz.underlying32 hi hz0 hz1 hz2 rfl (by decide) _ _ _ rfl (hown.alloc _) ⟨_, 0, none⟩ 1 1 [.int .i64 (y : Int)] rfl rfl ?c1 ?c2 ?c3 ?c4 ?c5 ?_)
            try case c1 => exact cell_one_new _ _ _
            case c2 => first | rfl | (intro u hu; simp at hu; subst hu; rfl)
            case c3 => unfold maxLen; omega
            case c4 => omega
            case c5 => have := hb.size; simp; omega
            intro v6 w6 hown6 hg6 _
            have hsz := hb.size
            have hb6 : Below w.heap.size w w6 := hb.trans (below_app (Below.refl _ _) hsz hown hg6)
            have hI6 : Ints w6 (.slice (some ⟨g, o, none⟩) L.length lcap) (L.map Int.ofNat) := by
              have h := (HI.out.below ((Below.refl _ _).alloc (Nat.le_refl _) _)).grown hg6 HAP.out
              exact h
            clear hown hg6 hb hcj HI HAP
            have hs6 := hb6.size
            have hW : Below w6.heap.size w6 (w6.drew.alloc (.cells #[] 3)) := (⟨rfl, rfl, rfl, Nat.le_refl _, fun _ _ => rfl⟩ : Below w6.heap.size w6 w6.drew).alloc (Nat.le_refl _) _
            have HOW := Lib.hid (World.ownsRow_made (base := w6.heap.size) (e := 3) (size := 1) w6.drew #[] 0 (Nat.le_refl _) (by decide) rfl)
            obtain ⟨A, hA, HC2⟩ : ∃ A : Addr, (if lcap = j + 1 then some (⟨g, o, none⟩ : Addr) else some ⟨g, o + (j + 1), none⟩) = some A ∧ Hid (∀ w7, Below w6.heap.size w6 w7 → ∀ i u, ((L.drop (j + 1)).map fun i : Nat => Value.int .i64 (i : Int))[i]? = some u → w7.cell? (A.add i) = some u) := by
              by_cases h : lcap = j + 1
              · refine ⟨⟨g, o, none⟩, by simp [h], fun w7 hb7 i u hu => ?_⟩
                rw [List.drop_eq_nil_of_le (by omega)] at hu
                simp at hu
              · exact ⟨⟨g, o + (j + 1), none⟩, by simp [h], fun w7 hb7 => (hI6.below hb7).news (j + 1)⟩
            have HC1 : Hid (∀ i u, ((L.take j).map fun i : Nat => Value.int .i64 (i : Int))[i]? = some u → (w6.drew.alloc (.cells #[] 3)).cell? ((⟨g, o, none⟩ : Addr).add i) = some u) := Lib.hid (fun i u hu => by
              have hi : i < j := by
                have := (List.getElem?_eq_some_iff.1 hu).1
                simp at this; omega
              refine (hI6.below hW).news 0 i u ?_
              rw [List.drop_zero, ← hu, List.map_take, List.getElem?_take, if_pos hi])
            have s1 : Hid (((L.take j).map fun i : Nat => Value.int .i64 (i : Int)).length = j * 1) := Lib.hid (by simp; omega)
            have s2 : Hid (∀ u ∈ ((L.take j).map fun i : Nat => Value.int .i64 (i : Int)), u.oneCell' = true) := Lib.hid (fun u hu => by
              obtain ⟨x, _, rfl⟩ := List.mem_map.1 hu
              rfl)
            have t1 : Hid (((L.drop (j + 1)).map fun i : Nat => Value.int .i64 (i : Int)).length = (L.length - (j + 1)) * 1) := Lib.hid (by simp)
            have t2 : Hid (∀ u ∈ ((L.drop (j + 1)).map fun i : Nat => Value.int .i64 (i : Int)), u.oneCell' = true) := Lib.hid (fun u hu => by
              obtain ⟨x, _, rfl⟩ := List.mem_map.1 hu
              rfl)
            have HS5 : Hid (w6.heap.size ≤ (w6.drew.alloc (.cells #[] 3)).heap.size) := Lib.hid hW.size
            have HB7 : Hid (∀ w7, (w6.drew.alloc (.cells #[] 3)).grownBy w7 (some w6.heap.size) → Below w6.heap.size w6 w7) := Lib.hid (fun w7 hg => hW.grown hg hW.size (fun k hk => by cases hk; exact Nat.le_refl _))
            have hjc : j ≤ lcap := by omega
            have hwr : IntKind.i64.wrap ((j : Int) + 1) = (j : Int) + 1 := by rw [IntKind.wrap_i64]; omega
            have hp0 : (0 : Int) ≤ (j : Int) + 1 := by omega
            have hp1 : (j : Int) + 1 ≤ (L.length : Int) := by omega
            have hp2 : ((j : Int) + 1).toNat = j + 1 := by omega
            have HI6 := Lib.hid hI6
            have HO6 := Lib.hid hown6
            clear hI6 hown6 hW
            go_wp2_with fail
            go_region_law (first
              | (refine step_append_own _ rfl (.tmp 47) (.tmp 51) 32 rfl w6.heap.size 3 i0 (.int .i64 0) 1 8 Tryz.underlying32 hi hz0 hz1 hz2 rfl (by decide) v7 (0 + j) _ (by simp [Act.eval]) hown7 A (L.length - (j + 1)) (lcap - (j + 1)) _ (by simp [Act.eval]) t1.out (HC2.out _ (HB7.out _ hg7)) t2.out (by unfold maxLen; omega) (by omega) (Nat.le_trans HS5.out hg7.size) ?_
                 intro v8 w8 hown8 hg8)
              | (refine step_append_own _ rfl (.tmp 43) (.tmp 46) 32 rfl w6.heap.size 3 i0 (.int .i64 0) 1 8 Tryz.underlying32 hi hz0 hz1 hz2 rfl (by decide) _ 0 [] (by simp [Act.eval]) HOW.out ⟨g, o, none⟩ j lcap _ (by simp [Act.eval]) s1.out HC1.out s2.out (by unfold maxLen; omega) (by omega) HS5.out ?_
                 intro v7 w7 hown7 hg7))
            have hb8 : Below w6.heap.size w6 w8 := (HB7.out _ hg7).trans ((Below.refl _ _).grown hg8 (Nat.le_trans HS5.out hg7.size) (fun k hk => (hown7.lt k hk).1))
            have hI8 : Ints w8 v8 ((L.take j ++ L.drop (j + 1)).map Int.ofNat) := by
              refine Ints.of_nats (base := w6.heap.size) (e := 3) (n := 0 + j + (L.length - (j + 1))) ?_
              rw [List.map_append]
              exact hown8
            have hlv := owns_lenV hown8
            have hap8 : ∀ b, v6.ownBlock = some b → v8.ownBlock ≠ some b := fun b h6 h8 => by
              have := (HO6.out.lt b h6).2
              have := (hown8.lt b h8).1
              omega
            have ho8 := owns_below HO6.out hb8
            have hbe := hb6.trans (hb8.mono hs6)
            clear HB7 HC1 HC2 HOW HI6 HO6 hown7 hg7 hown8 hg8 hb8
            go_simp
            go_wp2
            go_roundw
            case rel => exact ⟨L.take j ++ L.drop (j + 1), O ++ [y], i + 1, by go_num, by have := HOI.out; rw [List.length_append]; simp; omega, by simpa using ho8, hI8, hap8, HPM.out, hbe⟩
            case measure => rw [hlv]; simp [lenV]; omega
          · have hbii : ¬ (i : Int) < (bs.length : Int) := by omega
            obtain ⟨j, hj⟩ : ∃ j : Nat, (0 : Int) = (j : Int) ∧ j < L.length := ⟨0, rfl, h0⟩
            obtain ⟨hj0, hjl⟩ := hj
            go_upto_region 13 with fail
            rw [hj0]
            clear hj0
            obtain ⟨g, o, hgo, hcj⟩ := ints_at hI hjl
            cases hgo
            have hji : (j : Int) < (L.length : Int) := by omega
            have HPM : Hid ((O ++ [L[j]] ++ (L.take j ++ L.drop (j + 1))).Perm (List.range k)) := Lib.hid ((perm_take O L j hjl).trans HP.out)
            have HLM : Hid ((L.take j ++ L.drop (j + 1)).length + 1 = L.length) := Lib.hid (by simp; omega)
            generalize L[j] = y at *
            have HI := Lib.hid hI
            have HAP := Lib.hid hap
            clear hI hap
            go_wp2_with (at_builtin; refine wpList_append_own _ rfl _ _ 32 rfl w.heap.size 3 i0 (.int .i64 0) 1 8 Tryz.underlying32 hi hz0 hz1 hz2 rfl (by decide) _ _ _ rfl (hown.alloc _) ⟨_, 0, none⟩ 1 1 [.int .i64 (y : Int)] rfl rfl ?c1 ?c2 ?c3 ?c4 ?c5 ?_)
            try case c1 => exact cell_one_new _ _ _
            case c2 => first | rfl | (intro u hu; simp at hu; subst hu; rfl)
            case c3 => unfold maxLen; omega
            case c4 => omega
            case c5 => have := hb.size; simp; omega
            intro v6 w6 hown6 hg6 _
            have hsz := hb.size
            have hb6 : Below w.heap.size w w6 := hb.trans (below_app (Below.refl _ _) hsz hown hg6)
            have hI6 : Ints w6 (.slice (some ⟨g, o, none⟩) L.length lcap) (L.map Int.ofNat) := by
              have h := (HI.out.below ((Below.refl _ _).alloc (Nat.le_refl _) _)).grown hg6 HAP.out
              exact h
            clear hown hg6 hb hcj HI HAP
            have hs6 := hb6.size
            have hW : Below w6.heap.size w6 (w6.drew.alloc (.cells #[] 3)) := (⟨rfl, rfl, rfl, Nat.le_refl _, fun _ _ => rfl⟩ : Below w6.heap.size w6 w6.drew).alloc (Nat.le_refl _) _
            have HOW := Lib.hid (World.ownsRow_made (base := w6.heap.size) (e := 3) (size := 1) w6.drew #[] 0 (Nat.le_refl _) (by decide) rfl)
            obtain ⟨A, hA, HC2⟩ : ∃ A : Addr, (if lcap = j + 1 then some (⟨g, o, none⟩ : Addr) else some ⟨g, o + (j + 1), none⟩) = some A ∧ Hid (∀ w7, Below w6.heap.size w6 w7 → ∀ i u, ((L.drop (j + 1)).map fun i : Nat => Value.int .i64 (i : Int))[i]? = some u → w7.cell? (A.add i) = some u) := by
              by_cases h : lcap = j + 1
              · refine ⟨⟨g, o, none⟩, by simp [h], fun w7 hb7 i u hu => ?_⟩
                rw [List.drop_eq_nil_of_le (by omega)] at hu
                simp at hu
              · exact ⟨⟨g, o + (j + 1), none⟩, by simp [h], fun w7 hb7 => (hI6.below hb7).news (j + 1)⟩
            have HC1 : Hid (∀ i u, ((L.take j).map fun i : Nat => Value.int .i64 (i : Int))[i]? = some u → (w6.drew.alloc (.cells #[] 3)).cell? ((⟨g, o, none⟩ : Addr).add i) = some u) := Lib.hid (fun i u hu => by
              have hi : i < j := by
                have := (List.getElem?_eq_some_iff.1 hu).1
                simp at this; omega
              refine (hI6.below hW).news 0 i u ?_
              rw [List.drop_zero, ← hu, List.map_take, List.getElem?_take, if_pos hi])
            have s1 : Hid (((L.take j).map fun i : Nat => Value.int .i64 (i : Int)).length = j * 1) := Lib.hid (by simp; omega)
            have s2 : Hid (∀ u ∈ ((L.take j).map fun i : Nat => Value.int .i64 (i : Int)), u.oneCell' = true) := Lib.hid (fun u hu => by
              obtain ⟨x, _, rfl⟩ := List.mem_map.1 hu
              rfl)
            have t1 : Hid (((L.drop (j + 1)).map fun i : Nat => Value.int .i64 (i : Int)).length = (L.length - (j + 1)) * 1) := Lib.hid (by simp)
            have t2 : Hid (∀ u ∈ ((L.drop (j + 1)).map fun i : Nat => Value.int .i64 (i : Int)), u.oneCell' = true) := Lib.hid (fun u hu => by
              obtain ⟨x, _, rfl⟩ := List.mem_map.1 hu
              rfl)
            have HS5 : Hid (w6.heap.size ≤ (w6.drew.alloc (.cells #[] 3)).heap.size) := Lib.hid hW.size
            have HB7 : Hid (∀ w7, (w6.drew.alloc (.cells #[] 3)).grownBy w7 (some w6.heap.size) → Below w6.heap.size w6 w7) := Lib.hid (fun w7 hg => hW.grown hg hW.size (fun k hk => by cases hk; exact Nat.le_refl _))
            have hjc : j ≤ lcap := by omega
            have hwr : IntKind.i64.wrap ((j : Int) + 1) = (j : Int) + 1 := by rw [IntKind.wrap_i64]; omega
            have hp0 : (0 : Int) ≤ (j : Int) + 1 := by omega
            have hp1 : (j : Int) + 1 ≤ (L.length : Int) := by omega
            have hp2 : ((j : Int) + 1).toNat = j + 1 := by omega
            have HI6 := Lib.hid hI6
            have HO6 := Lib.hid hown6
            clear hI6 hown6 hW
            go_wp2_with fail
            go_region_law (first
              | (refine step_append_own _ rfl (.tmp 47) (.tmp 51) 32 rfl w6.heap.size 3 i0 (.int .i64 0) 1 8 Tryz.underlying32 hi hz0 hz1 hz2 rfl (by decide) v7 (0 + j) _ (by simp [Act.eval]) hown7 A (L.length - (j + 1)) (lcap - (j + 1)) _ (by simp [Act.eval]) t1.out (HC2.out _ (HB7.out _ hg7)) t2.out (by unfold maxLen; omega) (by omega) (Nat.le_trans HS5.out hg7.size) ?_
                 intro v8 w8 hown8 hg8)
              | (refine step_append_own _ rfl (.tmp 43) (.tmp 46) 32 rfl w6.heap.size 3 i0 (.int .i64 0) 1 8 Tryz.underlying32 hi hz0 hz1 hz2 rfl (by decide) _ 0 [] (by simp [Act.eval]) HOW.out ⟨g, o, none⟩ j lcap _ (by simp [Act.eval]) s1.out HC1.out s2.out (by unfold maxLen; omega) (by omega) HS5.out ?_
                 intro v7 w7 hown7 hg7))
            have hb8 : Below w6.heap.size w6 w8 := (HB7.out _ hg7).trans ((Below.refl _ _).grown hg8 (Nat.le_trans HS5.out hg7.size) (fun k hk => (hown7.lt k hk).1))
            have hI8 : Ints w8 v8 ((L.take j ++ L.drop (j + 1)).map Int.ofNat) := by
              refine Ints.of_nats (base := w6.heap.size) (e := 3) (n := 0 + j + (L.length - (j + 1))) ?_
              rw [List.map_append]
              exact hown8
            have hlv := owns_lenV hown8
            have hap8 : ∀ b, v6.ownBlock = some b → v8.ownBlock ≠ some b := fun b h6 h8 => by
              have := (HO6.out.lt b h6).2
              have := (hown8.lt b h8).1
              omega
            have ho8 := owns_below HO6.out hb8
            have hbe := hb6.trans (hb8.mono hs6)
            clear HB7 HC1 HC2 HOW HI6 HO6 hown7 hg7 hown8 hg8 hb8
            go_simp
            go_wp2
            go_roundw
            case rel => exact ⟨L.take j ++ L.drop (j + 1), O ++ [y], i + 1, by go_num, by have := HOI.out; rw [List.length_append]; simp; omega, by simpa using ho8, hI8, hap8, HPM.out, hbe⟩
            case measure => rw [hlv]; simp [lenV]; omega
end Go.Proofs.YtfancjmhdbaoeaaGreatDoor

namespace Go.Proofs.YtfancjmhdbaoeaaGreatDoor
set_option maxRecDepth 100000
open Go.RowKit

/-- What lies in the block of the case that is handed in. -/
def CaseS (p : Nat) (vh : Value) (a : Nat) (vb : Value) (w : World) : Prop := w.cell? ⟨p, 0, none⟩ = some vh ∧ w.cell? ⟨p, 1, none⟩ = some (.int .u8 a) ∧ w.cell? ⟨p, 2, none⟩ = some vb
theorem CaseS.below {p a : Nat} {vh vb : Value} {w w' : World} (h : CaseS p vh a vb w) (hb : Below w.heap.size w w') : CaseS p vh a vb w' := by
  obtain ⟨h0, h1, h2⟩ := h
  exact ⟨(hb.cell (p := ⟨p, 0, none⟩) (block_lt h0)).trans h0, (hb.cell (p := ⟨p, 1, none⟩) (block_lt h1)).trans h1, (hb.cell (p := ⟨p, 2, none⟩) (block_lt h2)).trans h2⟩
end Go.Proofs.YtfancjmhdbaoeaaGreatDoor

namespace Go.Proofs.YtfancjmhdbaoeaaGreatDoor
set_option maxRecDepth 100000
open Go.RowKit

theorem ints_own_less {w : World} {base g n cap cap2 : Nat} {l : List Nat} {x : Value} (h : w.ownsRow base 3 1 (.slice (some ⟨g, 0, none⟩) (l.length + 1) cap) (l.length + 1) ((l.map fun i : Nat => Value.int .i64 (i : Int)) ++ [x])) (hn : n = l.length) (hc : n ≤ cap2 ∧ cap2 ≤ maxLen) : Ints w (.slice (some ⟨g, 0, none⟩) n cap2) (l.map Int.ofNat) := by
  subst hn
  obtain ⟨_, ao, cap', e, hm, hno, hcl⟩ := Row.of_owns h
  obtain ⟨rfl, _⟩ : some (⟨g, 0, none⟩ : Addr) = ao ∧ cap = cap' := by simpa using e
  unfold Ints
  rw [List.length_map]
  refine ⟨by simp, _, cap2, rfl, hc, fun e => (by cases e), fun h0 => ?_⟩
  obtain ⟨b, off, e2, hcell⟩ := hcl (by omega)
  refine ⟨b, off, e2, fun i hi => (hcell i (by omega)).trans ?_⟩
  rw [List.getElem?_append_left (by simp; omega), List.map_map]; rfl
/-- One more behind an own row of numbers: the new slice, and the old one. -/
theorem run_append_keep {w : World} {base : Nat} (ty : TypeId) {v : Value} {L : List Nat} (hr : w.ownsRow base 3 1 v L.length (L.map fun i : Nat => .int .i64 (i : Int))) (ad : Addr) (c : Nat) (x : Int) (hnew : w.cell? ad = some (.int .i64 x)) (hl : L.length ≤ 1000) (hbase : base ≤ w.heap.size) :
    ∃ v' w', Sem.run Tryz.prog (Builtin.append_ #[32, 32] ty #[v, .slice (some ad) 1 c]) w = .ok v' w' ∧ Ints w' v' (L.map Int.ofNat ++ [x]) ∧ Ints w' v (L.map Int.ofNat) ∧ w.grownBy w' v.ownBlock := by
  obtain ⟨i0, hi0, hz0, hz1, hz2⟩ := info_parts infoIntC
  have hnews : ∀ j u, [Value.int .i64 x][j]? = some u → w.cell? (ad.add j) = some u := fun j u hu => by
    cases j with
    | zero => simp at hu; subst hu; simpa [Addr.add] using hnew
    | succ j => simp at hu
  have hfin : ∀ b v' (w' : World), w'.ownsRow b 3 1 v' (L.length + 1) ((L.map fun i : Nat => .int .i64 (i : Int)) ++ [.int .i64 x]) → Ints w' v' (L.map Int.ofNat ++ [x]) := fun b v' w' ho => by
    have h1 := Row.of_owns ho
    unfold Ints
    have e1 : (L.map Int.ofNat ++ [x]).length = L.length + 1 := by simp
    have e2 : (L.map Int.ofNat ++ [x]).map (Value.int .i64) = (L.map fun i : Nat => .int .i64 (i : Int)) ++ [.int .i64 x] := by simp [Function.comp_def]
    rw [e1, e2]; exact h1
  have hv0 := Ints.of_nats hr
  obtain ⟨h1, h2⟩ := hr
  rcases h2 with ⟨rfl, h0⟩ | ⟨g, cap, cur, rfl, hb, hh, hcap, hcm, hrest⟩
  · have hL : L = [] := List.length_eq_zero_iff.1 h0
    subst hL
    obtain ⟨g, cap, w', hr, q2, q3, _, _⟩ := run_append_lies (P := Tryz.prog) w 32 ty base 3 i0 (.int .i64 0) 1 8 Tryz.underlying32 hi0 hz0 hz1 hz2 rfl (by decide) (.slice none 0 0) 0 [] (World.ownsRow_nil _ _ _ _) ad 1 c _ rfl hnews (by intro u hu; simp at hu; subst hu; rfl) (by decide) (by unfold maxLen; omega) (by omega) hbase _ rfl
    exact ⟨_, w', hr, hfin _ _ _ q2, ints_nil w', q3⟩
  · by_cases hroom : L.length + 1 ≤ cap
    · obtain ⟨w', hr, q2, q3⟩ := run_append_fits (P := Tryz.prog) w base 32 ty 3 i0 1 Tryz.underlying32 hi0 hz1 g L.length cap _ ⟨h1, .inr ⟨g, cap, cur, rfl, hb, hh, hcap, hcm, hrest⟩⟩ ad 1 c _ rfl hnews (by intro u hu; simp at hu; subst hu; rfl) hroom
      exact ⟨_, w', hr, hfin _ _ _ q2, ints_own_less q2 rfl ⟨hcap, hcm⟩, q3⟩
    · have holds : ∀ j u, (L.map fun i : Nat => Value.int .i64 (i : Int))[j]? = some u → w.cell? ((⟨g, 0, none⟩ : Addr).add j) = some u := fun j u hu => by
        have hj : j < L.length := by
          have := (List.getElem?_eq_some_iff.1 hu).1
          simpa using this
        obtain ⟨_, ao, cap', e, _, _, hcl⟩ := hv0
        obtain ⟨b, off, e2, hcell⟩ := hcl (by rw [List.length_map]; omega)
        subst e2
        obtain ⟨⟨rfl, rfl⟩, _⟩ : (g = b ∧ 0 = off) ∧ cap = cap' := by simpa using e
        rw [Addr.add_lit]
        have := hcell j (by rw [List.length_map]; omega)
        rw [List.map_map] at this
        exact this.trans hu
      obtain ⟨v', w', hr, q2, q3⟩ := run_append_arg_grows (P := Tryz.prog) w 32 ty 3 i0 (.int .i64 0) 1 8 Tryz.underlying32 hi0 hz0 hz1 hz2 rfl (by decide) ⟨g, 0, none⟩ L.length cap _ (by simp) holds ad 1 c _ rfl hnews (by omega) (by unfold maxLen; omega) (by omega)
      exact ⟨v', w', hr, hfin _ _ _ q2, hv0.grown q3 (fun b e => by cases e), ⟨q3.os, q3.tape, q3.output, q3.size, fun j hj _ => q3.block j hj (by simp)⟩⟩
theorem long_row {h : List TxnV} (h64 : h.length ≤ 64) (lv : Int) {l : List Int} (hl : l.length = h.length + 1) (R : Mat) : holdsB h lv l R = false := by
  have e : rowOkA (h.length : Int) l = false := by
    rw [row_same h.length h64]
    unfold rowRef12
    rw [decide_eq_false (by omega), Bool.and_false]
  unfold holdsB rightM
  rw [e]; simp
theorem prs_nilB (w : World) : Prs w (.slice none 0 0) [] := ⟨rfl, none, 0, rfl, ⟨Nat.le_refl _, by decide⟩, fun _ => ⟨rfl, rfl⟩, fun h => absurd h (Nat.lt_irrefl _)⟩
theorem rep_noR : Rep noR [] := ⟨List.nodup_nil, fun a b => by simp [noR]⟩
/-- One order, in all that In says. -/
theorem bin_full (lv : Int) (va : Value) (r : List Nat) (h : List TxnV) (B b : Nat) (w : World) (hO : OrdIs w B b h) (hc : checkI h = 0) (ht : Tab w) (hK : Kinds w) (hl : Ints w va (r.map Int.ofNat)) (hr : r.Perm (List.range h.length)) :
    Calls Tryz.prog 13 #[.pointer (some ⟨B, 0, none⟩), .int .i64 lv, va] w fun e w' => (∃ X, (keptL h lv r = true → LeastIs h (askN lv) (r.map Int.ofNat) X) ∧ (keptL h lv r = false → X = noR) ∧ e = .returned (.tuple #[.agg (rowsA X), .bool (keptL h lv r)])) ∧ Below w.heap.size w w' := by
  refine (bin_any lv va (r.map Int.ofNat) h B b w hO hc ht hK hl).mono ?_
  rintro e w' ⟨⟨R, hR, rfl⟩, hb⟩
  have e1 := kept_holds hc lv hr hR
  refine ⟨⟨inR h lv (r.map Int.ofNat) R, fun hk => ?_, fun hk => ?_, by rw [e1]⟩, hb⟩
  · unfold inR
    rw [if_pos (by rw [e1]; exact hk)]
    exact hR
  · unfold inR
    rw [if_neg (by rw [e1, hk]; simp)]
theorem bin_long (lv : Int) (va : Value) (l : List Int) (h : List TxnV) (B b : Nat) (w : World) (hO : OrdIs w B b h) (hc : checkI h = 0) (ht : Tab w) (hK : Kinds w) (hl : Ints w va l) (hn : l.length = h.length + 1) :
    Calls Tryz.prog 13 #[.pointer (some ⟨B, 0, none⟩), .int .i64 lv, va] w fun e w' => (∃ X, e = .returned (.tuple #[.agg (rowsA X), .bool false])) ∧ Below w.heap.size w w' := by
  refine (bin_any lv va l h B b w hO hc ht hK hl).mono ?_
  rintro e w' ⟨⟨R, _, rfl⟩, hb⟩
  exact ⟨⟨_, by rw [long_row (check_zero hc).1 lv hn R]⟩, hb⟩
end Go.Proofs.YtfancjmhdbaoeaaGreatDoor

namespace Go.Proofs.YtfancjmhdbaoeaaGreatDoor
set_option maxRecDepth 100000
open Go.RowKit

set_option maxRecDepth 100000 in
set_option maxHeartbeats 16000000 in
theorem in13_walk (vh vb : Value) (h : List TxnV) (bs : List Int) (a : Nat) (lv : Int) (w : World) (ht : Tab w) (hK : Kinds w) (hT : Txns w vh h) (hok : ∀ t ∈ h, t.ok) (hsh : Short h) (hB : Row w vb bs.length 1 (bs.map (Value.int .u8))) (hbs : ∀ x ∈ bs, 0 ≤ x ∧ x < 256) :
    Calls Tryz.prog 3 #[.agg #[vh, .int .u8 a, vb], .int .i64 lv] w fun e w' => e = .returned (.bool true) ∧ Below w.heap.size w w' := by
  have hg := ht.pos
  have HT : Hid (∀ wx, Below w.heap.size w wx → Tab wx ∧ Kinds wx) := Lib.hid (fun wx hb => ⟨ht.below hb hg, hK.below hb⟩)
  have HH := Lib.hid (fun wx (hx : Below w.heap.size w wx) => hT.below hx)
  have HBY := Lib.hid (fun wx (hx : Below w.heap.size w wx) => hB.below hx)
  obtain ⟨ao, cap, rfl, hal⟩ := hT.form
  have HOK := Lib.hid hok
  have HSH := Lib.hid hsh
  have HBS := Lib.hid hbs
  have hbx := box_below w (.cells #[.slice ao h.length cap, .int .u8 a, vb] 25)
  have hC0 : CaseS w.heap.size (.slice ao h.length cap) a vb (w.alloc (.cells #[.slice ao h.length cap, .int .u8 a, vb] 25)) := by
    refine ⟨?_, ?_, ?_⟩ <;> (rw [cell_of_row _ _ _ _ _ _ (heap_alloc_new w _)]; rfl)
  obtain ⟨bo, bcap, rfl⟩ : ∃ bo bcap, vb = .slice bo bs.length bcap := by
    obtain ⟨_, bo, bcap, e, _⟩ := hB
    exact ⟨bo, bcap, e⟩
  clear ht hK hT hok hB hbs
  go_enter Tryz.func3, Tryz.ntmps3
  go_upto_region 1 with fail
  generalize w.alloc (.cells #[.slice ao h.length cap, .int .u8 a, .slice bo bs.length bcap] 25) = w0 at *
  go_wp2_with fail
  refine (speaks13_any _ (HT.out _ hbx).1 (HT.out _ hbx).2).mono ?_
  rintro e w1 ⟨rfl, hb1⟩
  have hC1 := hC0.below hb1
  have hb1 := below_then hbx hb1
  obtain ⟨n0, n1, n2⟩ := hC1
  go_wp2_with fail
  refine (small_any _ h _ (HH.out _ hb1) HSH.out).mono ?_
  rintro e w2 ⟨rfl, hb2⟩
  have hC2 := CaseS.below ⟨n0, n1, n2⟩ hb2
  have hb2 := below_then hb1 hb2
  clear n0 n1 n2 hb1 hC0 hbx
  by_cases hs : smallI h = 0
  · rw [hs]
    go_wp2_with fail
    go_ret
    exact ⟨rfl, hb2⟩
  obtain ⟨h7, hc, h1⟩ := small_no hs
  rw [h1]
  have CO := Lib.hid (of_done _ h w2 (HH.out _ hb2) HOK.out HSH.out hc)
  have HC := Lib.hid hc
  clear hs h1 hc hsh
  obtain ⟨n0, n1, n2⟩ := hC2
  go_wp2_with fail
  refine (CO.out).mono ?_
  rintro e w3 ⟨⟨B, rfl, hB, hO⟩, hb3⟩
  have hC3 := CaseS.below ⟨n0, n1, n2⟩ hb3
  have hb3 := below_then hb2 hb3
  have HO := Lib.hid (fun wx (hx : Below w3.heap.size w3 wx) => hO.below hx)
  have HS := Lib.hid (fun wx (hx : Below w3.heap.size w3 wx) => hC3.below hx)
  have HW := Lib.hid (fun wx (hx : Below w3.heap.size w3 wx) => hb3.trans (hx.mono hb3.size))
  clear n0 n1 n2 hb2 CO hB hO
  have CR := Lib.hid (lrow_own h.length (by omega) _ bs w3 (HBY.out _ hb3) HBS.out)
  obtain ⟨n0, n1, n2⟩ := hC3
  go_wp2_with fail
  refine (CR.out).mono ?_
  rintro e w4 ⟨⟨v, L, rfl, hI, hP⟩, h4⟩
  have HI4 := Lib.hid hI
  have hI4 := Ints.of_nats hI
  have CB := Lib.hid (bin_full lv v L h B (B + 2) w4 (HO.out _ h4) HC.out (HT.out _ (HW.out _ h4)).1 (HT.out _ (HW.out _ h4)).2 hI4 hP)
  have HPM := Lib.hid hP
  have HLL : Hid (L.length = h.length) := Lib.hid (by rw [hP.length_eq, List.length_range])
  have hvlt := hI.lt
  obtain ⟨va, vc, rfl, _⟩ := hI4.form
  simp only [List.length_map] at CB HI4 hI4 hvlt
  rw [List.length_map]
  clear n0 n1 n2 hb3 CR hI hP
  go_wp2_with fail
  refine (CB.out).mono ?_
  rintro e w5 ⟨⟨X, hX1, hX2, rfl⟩, h5⟩
  have k5 := below_then h4 h5
  have z5 := zero_block w5
  have hb6 : Below w5.heap.size w5 ((w5.alloc (.cells #[.int .u64 0, .int .u64 0, .int .u64 0, .int .u64 0, .int .u64 0, .int .u64 0, .int .u64 0, .int .u64 0, .int .u64 0, .int .u64 0, .int .u64 0, .int .u64 0, .int .u64 0, .int .u64 0, .int .u64 0, .int .u64 0, .int .u64 0, .int .u64 0, .int .u64 0, .int .u64 0, .int .u64 0, .int .u64 0, .int .u64 0, .int .u64 0, .int .u64 0, .int .u64 0, .int .u64 0, .int .u64 0, .int .u64 0, .int .u64 0, .int .u64 0, .int .u64 0, .int .u64 0, .int .u64 0, .int .u64 0, .int .u64 0, .int .u64 0, .int .u64 0, .int .u64 0, .int .u64 0, .int .u64 0, .int .u64 0, .int .u64 0, .int .u64 0, .int .u64 0, .int .u64 0, .int .u64 0, .int .u64 0, .int .u64 0, .int .u64 0, .int .u64 0, .int .u64 0, .int .u64 0, .int .u64 0, .int .u64 0, .int .u64 0, .int .u64 0, .int .u64 0, .int .u64 0, .int .u64 0, .int .u64 0, .int .u64 0, .int .u64 0, .int .u64 0] 37)).setRow w5.heap.size (rowsA X)) := below_setRow (box_below w5 (.cells #[.int .u64 0, .int .u64 0, .int .u64 0, .int .u64 0, .int .u64 0, .int .u64 0, .int .u64 0, .int .u64 0, .int .u64 0, .int .u64 0, .int .u64 0, .int .u64 0, .int .u64 0, .int .u64 0, .int .u64 0, .int .u64 0, .int .u64 0, .int .u64 0, .int .u64 0, .int .u64 0, .int .u64 0, .int .u64 0, .int .u64 0, .int .u64 0, .int .u64 0, .int .u64 0, .int .u64 0, .int .u64 0, .int .u64 0, .int .u64 0, .int .u64 0, .int .u64 0, .int .u64 0, .int .u64 0, .int .u64 0, .int .u64 0, .int .u64 0, .int .u64 0, .int .u64 0, .int .u64 0, .int .u64 0, .int .u64 0, .int .u64 0, .int .u64 0, .int .u64 0, .int .u64 0, .int .u64 0, .int .u64 0, .int .u64 0, .int .u64 0, .int .u64 0, .int .u64 0, .int .u64 0, .int .u64 0, .int .u64 0, .int .u64 0, .int .u64 0, .int .u64 0, .int .u64 0, .int .u64 0, .int .u64 0, .int .u64 0, .int .u64 0, .int .u64 0] 37)) (Nat.le_refl _) (rowsA X)
  have k6 := below_then k5 hb6
  have hI6 := (hI4.below h5).below hb6
  have HI6 := Lib.hid (owns_below (owns_below HI4.out h5) hb6)
  have r6 : RelAt ((w5.alloc (.cells #[.int .u64 0, .int .u64 0, .int .u64 0, .int .u64 0, .int .u64 0, .int .u64 0, .int .u64 0, .int .u64 0, .int .u64 0, .int .u64 0, .int .u64 0, .int .u64 0, .int .u64 0, .int .u64 0, .int .u64 0, .int .u64 0, .int .u64 0, .int .u64 0, .int .u64 0, .int .u64 0, .int .u64 0, .int .u64 0, .int .u64 0, .int .u64 0, .int .u64 0, .int .u64 0, .int .u64 0, .int .u64 0, .int .u64 0, .int .u64 0, .int .u64 0, .int .u64 0, .int .u64 0, .int .u64 0, .int .u64 0, .int .u64 0, .int .u64 0, .int .u64 0, .int .u64 0, .int .u64 0, .int .u64 0, .int .u64 0, .int .u64 0, .int .u64 0, .int .u64 0, .int .u64 0, .int .u64 0, .int .u64 0, .int .u64 0, .int .u64 0, .int .u64 0, .int .u64 0, .int .u64 0, .int .u64 0, .int .u64 0, .int .u64 0, .int .u64 0, .int .u64 0, .int .u64 0, .int .u64 0, .int .u64 0, .int .u64 0, .int .u64 0, .int .u64 0] 37)).setRow w5.heap.size (rowsA X)) w5.heap.size 37 X := z5.setRow X
  have CJ := Lib.hid (rin13_any _ _ h lv L ((w5.alloc (.cells #[.int .u64 0, .int .u64 0, .int .u64 0, .int .u64 0, .int .u64 0, .int .u64 0, .int .u64 0, .int .u64 0, .int .u64 0, .int .u64 0, .int .u64 0, .int .u64 0, .int .u64 0, .int .u64 0, .int .u64 0, .int .u64 0, .int .u64 0, .int .u64 0, .int .u64 0, .int .u64 0, .int .u64 0, .int .u64 0, .int .u64 0, .int .u64 0, .int .u64 0, .int .u64 0, .int .u64 0, .int .u64 0, .int .u64 0, .int .u64 0, .int .u64 0, .int .u64 0, .int .u64 0, .int .u64 0, .int .u64 0, .int .u64 0, .int .u64 0, .int .u64 0, .int .u64 0, .int .u64 0, .int .u64 0, .int .u64 0, .int .u64 0, .int .u64 0, .int .u64 0, .int .u64 0, .int .u64 0, .int .u64 0, .int .u64 0, .int .u64 0, .int .u64 0, .int .u64 0, .int .u64 0, .int .u64 0, .int .u64 0, .int .u64 0, .int .u64 0, .int .u64 0, .int .u64 0, .int .u64 0, .int .u64 0, .int .u64 0, .int .u64 0, .int .u64 0] 37)).setRow w5.heap.size (rowsA X)) HC.out HPM.out (HH.out _ (HW.out _ k6)) hI6)
  have hv5 : ∀ g, (Value.slice va L.length vc).ownBlock = some g → g < w5.heap.size := fun g hg => Nat.lt_of_lt_of_le (hvlt g hg).2 h5.size
  have HX1 := Lib.hid hX1
  have HX2 := Lib.hid hX2
  obtain ⟨n0, n1, n2⟩ := HS.out _ k6
  clear CB hb6 k5 h5 h4 HI4 hI4 hX1 hX2 hvlt
  go_wp2_with (with_reducible refine wpList_store_rel z5 X rfl _ _ rfl rfl rfl ?_)
  generalize ((w5.alloc (.cells #[.int .u64 0, .int .u64 0, .int .u64 0, .int .u64 0, .int .u64 0, .int .u64 0, .int .u64 0, .int .u64 0, .int .u64 0, .int .u64 0, .int .u64 0, .int .u64 0, .int .u64 0, .int .u64 0, .int .u64 0, .int .u64 0, .int .u64 0, .int .u64 0, .int .u64 0, .int .u64 0, .int .u64 0, .int .u64 0, .int .u64 0, .int .u64 0, .int .u64 0, .int .u64 0, .int .u64 0, .int .u64 0, .int .u64 0, .int .u64 0, .int .u64 0, .int .u64 0, .int .u64 0, .int .u64 0, .int .u64 0, .int .u64 0, .int .u64 0, .int .u64 0, .int .u64 0, .int .u64 0, .int .u64 0, .int .u64 0, .int .u64 0, .int .u64 0, .int .u64 0, .int .u64 0, .int .u64 0, .int .u64 0, .int .u64 0, .int .u64 0, .int .u64 0, .int .u64 0, .int .u64 0, .int .u64 0, .int .u64 0, .int .u64 0, .int .u64 0, .int .u64 0, .int .u64 0, .int .u64 0, .int .u64 0, .int .u64 0, .int .u64 0, .int .u64 0] 37)).setRow w5.heap.size (rowsA X)) = w6 at *
  refine (CJ.out).mono ?_
  rintro e w7 ⟨⟨v2, rfl, hm⟩, h7b⟩
  have k7 := below_then k6 h7b
  have r7 := r6.below h7b r6.lt
  have hI7 := hI6.below h7b
  have HI7 := Lib.hid (owns_below HI6.out h7b)
  have hv7 : ∀ g, (Value.slice va L.length vc).ownBlock = some g → g < w7.heap.size := fun g hg => by have h1 := hv5 g hg; have h2 := r6.lt; have h3 := h7b.size; omega
  have hneq : (Value.slice va L.length vc).ownBlock ≠ some w5.heap.size := fun e => by have := hv5 _ e; omega
  have hsl : w5.heap.size < w7.heap.size := by have h2 := r6.lt; have h3 := h7b.size; omega
  obtain ⟨n0, n1, n2⟩ := HS.out _ k7
  have HN := Lib.hid (check_zero HC.out).1
  have h7L : L.length ≤ 1000 := by have := HLL.out; omega
  have HAP : Hid (∀ w8, Below w7.heap.size w7 w8 → ∃ a8 c8 w9, Sem.run Tryz.prog (Builtin.append_ #[32, 32] 32 #[.slice va L.length vc, .slice (some ⟨w8.heap.size, 0, none⟩) 1 1]) (w8.alloc (.cells #[.int .i64 0] 3)) = .ok (.slice a8 (L.length + 1) c8) w9 ∧ Ints w9 (.slice a8 (L.length + 1) c8) (L.map Int.ofNat ++ [0]) ∧ Ints w9 (.slice va L.length vc) (L.map Int.ofNat) ∧ Below w3.heap.size w3 w9 ∧ RelAt w9 w5.heap.size 37 X ∧ w5.heap.size < w9.heap.size) := Lib.hid (fun w8 hb8 => by
    have ho := (owns_below HI7.out hb8).alloc (.cells #[.int .i64 0] 3)
    obtain ⟨v8, w9, q1, q2, q3, q4⟩ := run_append_keep 32 ho ⟨w8.heap.size, 0, none⟩ 1 0 (by rw [cell_of_row _ _ _ _ _ _ (heap_alloc_new w8 _)]; rfl) h7L (by have h1 := k7.size; have h2 := hb8.size; simp; omega)
    have k8 := (below_then k7 hb8).alloc (below_then k7 hb8).size (.cells #[.int .i64 0] 3)
    obtain ⟨a8, c8, rfl, _⟩ := q2.form
    rw [List.length_append, List.length_map, List.length_singleton] at q1 q2
    refine ⟨a8, c8, w9, q1, q2, q3, k8.grown q4 k8.size (fun j hj => (HI7.out.lt j hj).1), ?_, by have h1 := q4.size; have h2 := hb8.size; simp at h1; omega⟩
    have r8 := ((r7.below hb8 r7.lt).alloc (.cells #[.int .i64 0] 3))
    unfold RelAt at r8 ⊢
    rw [q4.block _ (by have h2 := hb8.size; simp; omega) (fun e => hneq e.symm)]; exact r8)
  have CH := Lib.hid (fun wx (hx : Below w3.heap.size w3 wx) (hi : Ints wx (.slice va L.length vc) (L.map Int.ofNat)) => aholds_any lv (.slice va L.length vc) (L.map Int.ofNat) X h B (B + 2) wx (HO.out _ hx) HC.out (HT.out _ (HW.out _ hx)).1 (HT.out _ (HW.out _ hx)).2 hi)
  have CL := Lib.hid (fun v8 wx (hx : Below w3.heap.size w3 wx) (hi : Ints wx v8 (L.map Int.ofNat ++ [0])) => bin_long lv v8 (L.map Int.ofNat ++ [0]) h B (B + 2) wx (HO.out _ hx) HC.out (HT.out _ (HW.out _ hx)).1 (HT.out _ (HW.out _ hx)).2 hi (by rw [List.length_append, List.length_map, List.length_singleton, HLL.out]))
  have HK7 := Lib.hid k7
  clear HI7 hv7 hneq hI7 HI6 hI6 r6 h7b CJ hv5 k6 k7 z5
  cases hk : keptL h lv L with
  | false =>
    have hXn := HX2.out hk
    have CS := Lib.hid (lsame_any X (.slice none 0 0) [] h.length HN.out w7 (prs_nilB w7) (by rw [hXn]; exact rep_noR))
    clear hXn hm CH
    go_wp2_with (with_reducible refine wpList_load_rel_g r7 _ rfl (by kernel_rfl) rfl ?_)
    refine CS.out.mono ?_
    rintro e w8 ⟨rfl, h8⟩
    obtain ⟨a8, c8, w9, q1, q2, q3, k9, r9, hs9⟩ := HAP.out w8 h8
    have HA := Lib.hid q1
    have CL9 := Lib.hid (CL.out _ w9 k9 q2)
    clear q1 q2 q3 CL CS
    go_wp2_with (at_builtin; refine wpList_append_full _ _ _ rfl (by kernel_rfl) rfl rfl HA.out ?_)
    refine CL9.out.mono ?_
    rintro e wa ⟨⟨Y, rfl⟩, ha⟩
    have ka := below_then k9 ha
    have za := zero_block wa
    have hba : Below wa.heap.size wa ((wa.alloc (.cells #[.int .u64 0, .int .u64 0, .int .u64 0, .int .u64 0, .int .u64 0, .int .u64 0, .int .u64 0, .int .u64 0, .int .u64 0, .int .u64 0, .int .u64 0, .int .u64 0, .int .u64 0, .int .u64 0, .int .u64 0, .int .u64 0, .int .u64 0, .int .u64 0, .int .u64 0, .int .u64 0, .int .u64 0, .int .u64 0, .int .u64 0, .int .u64 0, .int .u64 0, .int .u64 0, .int .u64 0, .int .u64 0, .int .u64 0, .int .u64 0, .int .u64 0, .int .u64 0, .int .u64 0, .int .u64 0, .int .u64 0, .int .u64 0, .int .u64 0, .int .u64 0, .int .u64 0, .int .u64 0, .int .u64 0, .int .u64 0, .int .u64 0, .int .u64 0, .int .u64 0, .int .u64 0, .int .u64 0, .int .u64 0, .int .u64 0, .int .u64 0, .int .u64 0, .int .u64 0, .int .u64 0, .int .u64 0, .int .u64 0, .int .u64 0, .int .u64 0, .int .u64 0, .int .u64 0, .int .u64 0, .int .u64 0, .int .u64 0, .int .u64 0, .int .u64 0] 37)).setRow wa.heap.size (rowsA Y)) := below_setRow (box_below wa (.cells #[.int .u64 0, .int .u64 0, .int .u64 0, .int .u64 0, .int .u64 0, .int .u64 0, .int .u64 0, .int .u64 0, .int .u64 0, .int .u64 0, .int .u64 0, .int .u64 0, .int .u64 0, .int .u64 0, .int .u64 0, .int .u64 0, .int .u64 0, .int .u64 0, .int .u64 0, .int .u64 0, .int .u64 0, .int .u64 0, .int .u64 0, .int .u64 0, .int .u64 0, .int .u64 0, .int .u64 0, .int .u64 0, .int .u64 0, .int .u64 0, .int .u64 0, .int .u64 0, .int .u64 0, .int .u64 0, .int .u64 0, .int .u64 0, .int .u64 0, .int .u64 0, .int .u64 0, .int .u64 0, .int .u64 0, .int .u64 0, .int .u64 0, .int .u64 0, .int .u64 0, .int .u64 0, .int .u64 0, .int .u64 0, .int .u64 0, .int .u64 0, .int .u64 0, .int .u64 0, .int .u64 0, .int .u64 0, .int .u64 0, .int .u64 0, .int .u64 0, .int .u64 0, .int .u64 0, .int .u64 0, .int .u64 0, .int .u64 0, .int .u64 0, .int .u64 0] 37)) (Nat.le_refl _) (rowsA Y)
    have HZ := Lib.hid (HW.out _ (below_then ka hba))
    clear ka hba k9 CL9 ha r9
    go_wp2_with (with_reducible refine wpList_store_rel za Y rfl _ _ rfl rfl rfl ?_)
    go_ret
    exact ⟨rfl, HZ.out⟩
  | true =>
    obtain ⟨m, hPm, hRep⟩ := hm hk
    have hXl := HX1.out hk
    have CS := Lib.hid (lsame_any X v2 m h.length HN.out w7 hPm (hRep X hXl))
    have HHD : Hid (holdsB h lv (L.map Int.ofNat) X = true) := Lib.hid (by rw [kept_holds HC.out lv HPM.out hXl]; exact hk)
    clear hRep hm
    obtain ⟨va2, vc2, rfl, _⟩ := hPm.form
    clear hPm
    go_wp2_with (with_reducible refine wpList_load_rel_g r7 _ rfl (by kernel_rfl) rfl ?_)
    refine CS.out.mono ?_
    rintro e w8 ⟨rfl, h8⟩
    obtain ⟨a8, c8, w9, q1, q2, q3, k9, r9, hs9⟩ := HAP.out w8 h8
    have HA := Lib.hid q1
    have CL9 := Lib.hid (CL.out _ w9 k9 q2)
    have HI9 := Lib.hid q3
    clear q1 q2 q3 CL CS
    go_wp2_with (at_builtin; refine wpList_append_full _ _ _ rfl (by kernel_rfl) rfl rfl HA.out ?_)
    refine CL9.out.mono ?_
    rintro e wa ⟨⟨Y, rfl⟩, ha⟩
    have ka := below_then k9 ha
    have za := zero_block wa
    have hba : Below wa.heap.size wa ((wa.alloc (.cells #[.int .u64 0, .int .u64 0, .int .u64 0, .int .u64 0, .int .u64 0, .int .u64 0, .int .u64 0, .int .u64 0, .int .u64 0, .int .u64 0, .int .u64 0, .int .u64 0, .int .u64 0, .int .u64 0, .int .u64 0, .int .u64 0, .int .u64 0, .int .u64 0, .int .u64 0, .int .u64 0, .int .u64 0, .int .u64 0, .int .u64 0, .int .u64 0, .int .u64 0, .int .u64 0, .int .u64 0, .int .u64 0, .int .u64 0, .int .u64 0, .int .u64 0, .int .u64 0, .int .u64 0, .int .u64 0, .int .u64 0, .int .u64 0, .int .u64 0, .int .u64 0, .int .u64 0, .int .u64 0, .int .u64 0, .int .u64 0, .int .u64 0, .int .u64 0, .int .u64 0, .int .u64 0, .int .u64 0, .int .u64 0, .int .u64 0, .int .u64 0, .int .u64 0, .int .u64 0, .int .u64 0, .int .u64 0, .int .u64 0, .int .u64 0, .int .u64 0, .int .u64 0, .int .u64 0, .int .u64 0, .int .u64 0, .int .u64 0, .int .u64 0, .int .u64 0] 37)).setRow wa.heap.size (rowsA Y)) := below_setRow (box_below wa (.cells #[.int .u64 0, .int .u64 0, .int .u64 0, .int .u64 0, .int .u64 0, .int .u64 0, .int .u64 0, .int .u64 0, .int .u64 0, .int .u64 0, .int .u64 0, .int .u64 0, .int .u64 0, .int .u64 0, .int .u64 0, .int .u64 0, .int .u64 0, .int .u64 0, .int .u64 0, .int .u64 0, .int .u64 0, .int .u64 0, .int .u64 0, .int .u64 0, .int .u64 0, .int .u64 0, .int .u64 0, .int .u64 0, .int .u64 0, .int .u64 0, .int .u64 0, .int .u64 0, .int .u64 0, .int .u64 0, .int .u64 0, .int .u64 0, .int .u64 0, .int .u64 0, .int .u64 0, .int .u64 0, .int .u64 0, .int .u64 0, .int .u64 0, .int .u64 0, .int .u64 0, .int .u64 0, .int .u64 0, .int .u64 0, .int .u64 0, .int .u64 0, .int .u64 0, .int .u64 0, .int .u64 0, .int .u64 0, .int .u64 0, .int .u64 0, .int .u64 0, .int .u64 0, .int .u64 0, .int .u64 0, .int .u64 0, .int .u64 0, .int .u64 0, .int .u64 0] 37)) (Nat.le_refl _) (rowsA Y)
    have rb : RelAt ((wa.alloc (.cells #[.int .u64 0, .int .u64 0, .int .u64 0, .int .u64 0, .int .u64 0, .int .u64 0, .int .u64 0, .int .u64 0, .int .u64 0, .int .u64 0, .int .u64 0, .int .u64 0, .int .u64 0, .int .u64 0, .int .u64 0, .int .u64 0, .int .u64 0, .int .u64 0, .int .u64 0, .int .u64 0, .int .u64 0, .int .u64 0, .int .u64 0, .int .u64 0, .int .u64 0, .int .u64 0, .int .u64 0, .int .u64 0, .int .u64 0, .int .u64 0, .int .u64 0, .int .u64 0, .int .u64 0, .int .u64 0, .int .u64 0, .int .u64 0, .int .u64 0, .int .u64 0, .int .u64 0, .int .u64 0, .int .u64 0, .int .u64 0, .int .u64 0, .int .u64 0, .int .u64 0, .int .u64 0, .int .u64 0, .int .u64 0, .int .u64 0, .int .u64 0, .int .u64 0, .int .u64 0, .int .u64 0, .int .u64 0, .int .u64 0, .int .u64 0, .int .u64 0, .int .u64 0, .int .u64 0, .int .u64 0, .int .u64 0, .int .u64 0, .int .u64 0, .int .u64 0] 37)).setRow wa.heap.size (rowsA Y)) w5.heap.size 37 X := ((r9.below ha r9.lt).alloc (.cells #[.int .u64 0, .int .u64 0, .int .u64 0, .int .u64 0, .int .u64 0, .int .u64 0, .int .u64 0, .int .u64 0, .int .u64 0, .int .u64 0, .int .u64 0, .int .u64 0, .int .u64 0, .int .u64 0, .int .u64 0, .int .u64 0, .int .u64 0, .int .u64 0, .int .u64 0, .int .u64 0, .int .u64 0, .int .u64 0, .int .u64 0, .int .u64 0, .int .u64 0, .int .u64 0, .int .u64 0, .int .u64 0, .int .u64 0, .int .u64 0, .int .u64 0, .int .u64 0, .int .u64 0, .int .u64 0, .int .u64 0, .int .u64 0, .int .u64 0, .int .u64 0, .int .u64 0, .int .u64 0, .int .u64 0, .int .u64 0, .int .u64 0, .int .u64 0, .int .u64 0, .int .u64 0, .int .u64 0, .int .u64 0, .int .u64 0, .int .u64 0, .int .u64 0, .int .u64 0, .int .u64 0, .int .u64 0, .int .u64 0, .int .u64 0, .int .u64 0, .int .u64 0, .int .u64 0, .int .u64 0, .int .u64 0, .int .u64 0, .int .u64 0, .int .u64 0] 37)).far (by have := ha.size; omega) (rowsA Y)
    have CHB := Lib.hid (CH.out _ (below_then ka hba) ((HI9.out.below ha).below hba))
    rw [HHD.out] at CHB
    have kb := below_then ka hba
    clear ka hba k9 CL9 ha r9
    go_wp2_with (first
      | (with_reducible refine wpList_store_rel za Y rfl _ _ rfl rfl rfl ?_)
      | (with_reducible refine wpList_load_rel_g rb _ rfl (by kernel_rfl) rfl ?_))
    refine CHB.out.mono ?_
    rintro e wc ⟨rfl, hc⟩
    have HZ := Lib.hid (HW.out _ (below_then kb hc))
    go_wp2_with fail
    go_ret
    exact ⟨rfl, HZ.out⟩
end Go.Proofs.YtfancjmhdbaoeaaGreatDoor
