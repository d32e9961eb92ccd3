/- The walk of the statement on sorting: it answers true. Condition: First's library table lies where it is laid; slices' cells are known. -/
import Derived.Test.YtjfegknokombgaaDoorRelX
import Derived.Deep.RegionLaw
namespace Go.Proofs.YtjfegknokombgaaDoor
set_option maxRecDepth 100000
open Go.RowKit

theorem lstI_eq (c : Nat) : (lst c).map (fun i : Nat => Value.int .i64 (i : Int)) = ((lst c).map Int.ofNat).map (Value.int .i64) := by rw [List.map_map]; rfl
theorem ints_at {w : World} {ao : Option Addr} {n cap : Nat} {L : List Nat} (h : Ints w (.slice ao n cap) (L.map Int.ofNat)) {k : Nat} (hk : k < L.length) :
    ∃ b off, ao = some ⟨b, off, none⟩ ∧ w.cell? ⟨b, off + k, none⟩ = some (.int .i64 (L[k] : Int)) := by
  obtain ⟨b, off, h1, h2⟩ := h.at (k := k) (by simpa using hk)
  refine ⟨b, off, h1, ?_⟩
  rw [h2, List.getElem_map]; rfl
theorem Ints.grown {w w' : World} {v : Value} {xs : List Int} {row : Option Nat} (h : Ints w v xs) (hg : w.grownBy w' row) (hne : ∀ b, row = some b → v.ownBlock ≠ some b) : Ints w' v xs := by
  obtain ⟨hl, ao, cap, rfl, hm, hno, hc⟩ := h
  refine ⟨hl, ao, cap, rfl, hm, hno, fun hn => ?_⟩
  obtain ⟨b, off, rfl, hcell⟩ := hc hn
  refine ⟨b, off, rfl, fun i hi => ?_⟩
  have h2 := hcell i hi
  rw [List.getElem?_eq_getElem (by omega)] at h2 ⊢
  exact hg.cell h2 (fun e => hne b e.symm rfl)
theorem Ints.news {w : World} {g o n cap : Nat} {L : List Nat} (h : Ints w (.slice (some ⟨g, o, none⟩) n cap) (L.map Int.ofNat)) (k : Nat) :
    ∀ i u, ((L.drop k).map fun i : Nat => Value.int .i64 (i : Int))[i]? = some u → w.cell? ((⟨g, o + k, none⟩ : Addr).add i) = some u := by
  intro i u hu
  have hi : i < (L.drop k).length := by have := (List.getElem?_eq_some_iff.1 hu).1; simpa using this
  rw [List.length_drop] at hi
  obtain ⟨b, off, h1, h2⟩ := ints_at h (k := k + i) (by omega)
  cases h1
  rw [Addr.add_lit, Nat.add_assoc, h2, ← hu, List.getElem?_map, List.getElem?_drop, List.getElem?_eq_getElem (by omega)]
  rfl
set_option maxHeartbeats 8000000 in
theorem sorts_walk (va : Value) (l : List Pr) (s : Nat) (w : World) (hs : IsSet s) (ht : Tab w) (ha : Prs w va l) :
    Calls Tryd.prog 3 #[va, .int .u64 (s : Int)] w fun e w' => e = .returned (.bool true) ∧ Below w.heap.size w w' := by
  obtain ⟨i0, hi, hz0, hz1, hz2⟩ := info_parts infoInt
  have hg := ht.pos
  have HT : Hid (∀ wx, Below w.heap.size w wx → Tab wx) := Lib.hid (fun wx hb => ht.below hb hg)
  clear ht
  obtain ⟨ao, cap, rfl, hal⟩ := ha.form
  by_cases hbig : 60 < l.length
  · have hbig' : (60 : Int) < (l.length : Int) := by omega
    go_enter Tryd.func3, Tryd.ntmps3
    go_wp2_with fail
    refine (speaks2_any w (HT.out _ (Below.refl _ _))).mono ?_
    rintro e w1 ⟨rfl, hb1⟩
    go_wp2_with fail
    go_ret
    exact ⟨rfl, hb1⟩
  have hl60 : l.length ≤ 60 := by omega
  have hbig' : ¬ (60 : Int) < (l.length : Int) := by omega
  clear hbig
  go_enter Tryd.func3, Tryd.ntmps3
  go_wp2_with fail
  refine (speaks2_any w (HT.out _ (Below.refl _ _))).mono ?_
  rintro e w1 ⟨rfl, hb1⟩
  have ha1 := ha.below hb1
  clear ha
  go_wp2_with fail
  refine (of2_any _ l w1 ha1 (by omega)).mono ?_
  rintro e w2 ⟨v2, rfl, hp2, hb2⟩
  have hbb := hb1.trans (hb2.mono hb1.size)
  have HRep := Lib.hid (rep_of l)
  have hml := ofP_len l
  clear ha1 hb1 hb2
  generalize ofP l = m at *
  generalize addAll noR l = R at *
  obtain ⟨mo, mcap, rfl, _⟩ := hp2.form
  have hz := zero_block w2
  have hzz := hz.setRow R
  have hzb := zero_below w2 R
  have hp3 := hp2.below hzb
  have hb3 := hbb.trans (hzb.mono hbb.size)
  clear hp2 hbb hzb
  go_wp2_with (first
    | (with_reducible refine wpList_store_rel hz R rfl _ _ rfl rfl rfl ?_)
    | (with_reducible refine wpList_load_rel hzz rfl _ rfl rfl ?_))
  clear hz hzz
  generalize World.setRow _ _ _ = w3 at *
  refine (sorted_any R s w3 hs (HT.out _ hb3)).mono ?_
  rintro e w4 ⟨v4, b4, rfl, hres, hb4⟩
  have hp4 := hp3.below hb4
  have hbb := hb3.trans (hb4.mono hb3.size)
  clear hp3 hb3 hb4
  have HRES := Lib.hid hres
  clear hres
  go_wp2_with fail
  refine (rlist_any s w4 hs).mono ?_
  rintro e w5 ⟨v5, rfl, hown5, hb5⟩
  have hbc := hbb.trans (hb5.mono hbb.size)
  have hp5 := hp4.below hb5
  have hI5 := Ints.of_nats hown5
  have hle : (lst s).length ≤ 64 := lstTo_len s 64
  have HST : Hid (SortAt R s s 64 []) := Lib.hid ⟨by simp, hle, by simpa using hle⟩
  have HR5 : Hid (SortRes w5 v4 b4 (sortS R 65 s)) := Lib.hid (by
    have h := HRES.out
    cases hso : sortS R 65 s with
    | none => rw [hso] at h; exact h
    | some L => rw [hso] at h; exact ⟨h.1, h.2.below hb5⟩)
  clear hp4 hown5 hb5 hbb HRES hle
  go_wp2_with fail
  go_loopw [10, 11] (fun vw vl wr => ∃ (c f : Nat) (acc : List Nat), IsSet c ∧ SortAt R s c f acc ∧ wr.ownsRow w5.heap.size 3 1 vw acc.length (acc.map fun i : Nat => Value.int .i64 (i : Int)) ∧ Ints wr vl ((lst c).map Int.ofNat) ∧ (∀ b, vw.ownBlock = some b → vl.ownBlock ≠ some b) ∧ Below w5.heap.size w5 wr)
    (fun _ vl _ => lenV vl)
  case atStart => exact ⟨s, 64, [], hs, HST.out, World.ownsRow_nil _ _ _ _, hI5, fun b h => by simp [Value.ownBlock] at h, Below.refl _ _⟩
  case round =>
    obtain ⟨c, f, acc, hc, hst, hown, hI, hap, hb⟩ := hrel
    have HS := Lib.hid hst
    have HAP := Lib.hid hap
    clear hap
    have hal : acc.length ≤ 64 := by have := hst.2.2; omega
    have hcl : (lst c).length ≤ 64 := lstTo_len c 64
    clear hst
    have hsz := hb.size
    obtain ⟨lo, lcap, rfl, ⟨hlc, hlm⟩, hno⟩ := hI.full
    rw [List.length_map] at hlc hno
    rw [List.length_map]
    have hp := hp5.below hb
    have HRw : Hid (SortRes wr v4 b4 (sortS R 65 s)) := Lib.hid (by
      have h := HR5.out
      cases hso : sortS R 65 s with
      | none => rw [hso] at h; exact h
      | some L => rw [hso] at h; exact ⟨h.1, h.2.below hb⟩)
    rcases Nat.eq_zero_or_pos (lst c).length with h0 | h0
    · have hc0 : c = 0 := lst_nil hc (List.eq_nil_of_length_eq_zero h0)
      subst hc0
      have hso := sortAt_zero HS.out
      have hh := HRw.out
      rw [hso] at hh
      obtain ⟨rfl, hI4⟩ := hh
      have hIw := Ints.of_nats hown
      have CS := Lib.hid (same_any _ _ _ _ wr hI4 hIw)
      rw [show sameL (acc.map Int.ofNat) (acc.map Int.ofNat) = true from by simp [sameL]] at CS
      have h0' : ¬ (0 : Int) < ((lst 0).length : Int) := by omega
      obtain ⟨qo, qcap, rfl, _⟩ := hIw.form
      obtain ⟨ro, rcap, rfl, _⟩ := hI4.form
      simp only [List.length_map] at CS
      have hbd := hbc.trans (hb.mono hbc.size)
      clear hso hIw hI4 hI hown hp HS HRw h0 hno HAP
      go_wp2_with fail
      refine (CS.out).mono ?_
      rintro e w6 ⟨rfl, hb6⟩
      have hbe := hbd.trans (hb6.mono hbd.size)
      go_wp2_with fail
      go_ret
      exact ⟨rfl, hbe⟩
    · have h0' : (0 : Int) < ((lst c).length : Int) := by omega
      have HF := Lib.hid (free_at HRep.out c)
      have HNX := Lib.hid (left_next c)
      have hc0 : 0 < c := by
        rcases Nat.eq_zero_or_pos c with h | h
        · rw [h, lst_zero] at h0; simp at h0
        · exact h
      obtain ⟨g, o, hgo, _⟩ := ints_at hI (k := 0) h0
      subst hgo
      have HLT : Hid (∀ (k : Nat) (hk : k < (lst c).length), (lst c)[k] < 64) := Lib.hid (fun k hk => lst_lt hk)
      clear hno
      generalize lst c = L at *
      go_wp2_with fail
      go_loop [12, 42] (fun t i => ∃ k : Nat, k ≤ L.length ∧ i = .int .i64 k ∧ t = .int .i64 (atI (atO m L k))) (fun _ i => L.length - (intOf i).toNat)
      case atStart => exact ⟨0, by omega, rfl, by rw [atO_zero]; rfl⟩
      case round =>
        obtain ⟨k, hk, rfl, rfl⟩ := hrel
        by_cases hlt : k < L.length
        · have hki : (k : Int) < (L.length : Int) := by omega
          obtain ⟨g', o', hgo', hck⟩ := ints_at hI hlt
          cases hgo'
          have HA := Lib.hid (atO_succ m L k hlt)
          generalize L[k] = x at *
          go_wp2_with fail
          go_loop [15, 49] (fun t i => ∃ (j : Nat) (r : Bool), j ≤ L.length ∧ i = .int .i64 j ∧ t = .bool r ∧ r = frB m (L.take j) x) (fun _ i => L.length - (intOf i).toNat)
          case atStart => exact ⟨0, true, by omega, rfl, rfl, rfl⟩
          case round =>
            obtain ⟨j, r, hj, rfl, rfl, hr⟩ := hrel
            have HR := Lib.hid hr
            clear hr
            by_cases hjt : j < L.length
            · have hji : (j : Int) < (L.length : Int) := by omega
              obtain ⟨g', o', hgo', hcj⟩ := ints_at hI hjt
              cases hgo'
              have HFR := Lib.hid (frB_succ m L x j hjt)
              generalize L[j] = y at *
              cases r
              · have H2 : Hid (false = frB m (L.take (j + 1)) x) := Lib.hid (by rw [HFR.out, ← HR.out]; rfl)
                go_wp2_with fail
                go_round
                case rel => exact ⟨j + 1, false, by omega, by go_num, rfl, H2.out⟩
                case measure => simp [intOf]; omega
              · have CH := Lib.hid (phas_any _ m (y : Int) (x : Int) wr hp)
                cases hh : hasP m (y : Int) (x : Int)
                · have H2 : Hid (true = frB m (L.take (j + 1)) x) := Lib.hid (by rw [HFR.out, ← HR.out, hh]; rfl)
                  rw [hh] at CH
                  clear hh
                  go_wp2_with fail
                  refine (CH.out).mono ?_
                  rintro e w' ⟨rfl, rfl⟩
                  go_wp2_with fail
                  go_round
                  case rel => exact ⟨j + 1, true, by omega, by go_num, rfl, H2.out⟩
                  case measure => simp [intOf]; omega
                · have H2 : Hid (false = frB m (L.take (j + 1)) x) := Lib.hid (by rw [HFR.out, ← HR.out, hh]; rfl)
                  rw [hh] at CH
                  clear hh
                  go_wp2_with fail
                  refine (CH.out).mono ?_
                  rintro e w' ⟨rfl, rfl⟩
                  go_wp2_with fail
                  go_round
                  case rel => exact ⟨j + 1, false, by omega, by go_num, rfl, H2.out⟩
                  case measure => simp [intOf]; omega
            · have hjl : Hid (r = frB m L x) := Lib.hid (by rw [HR.out, List.take_of_length_le (by omega)])
              clear HR
              cases hao : atO m L k with
              | some q =>
                have HA2 : Hid (atO m L (k + 1) = some q) := Lib.hid (by rw [HA.out, hao]; rfl)
                rw [hao] at *
                change _ at hao
                clear hao HA
                have hq : ¬ atI (some q) < 0 := by simp [atI]
                have HQ : Hid (atI (some q) = (q : Int)) := Lib.hid rfl
                go_wp2_with fail
                go_round
                case rel => exact ⟨k + 1, by omega, by go_num, by rw [HA2.out]⟩
                case measure => simp [intOf]; omega
              | none =>
                cases r
                · have HA2 : Hid (atO m L (k + 1) = none) := Lib.hid (by rw [HA.out, hao, ← hjl.out]; rfl)
                  clear hao HA
                  have hq : atI none < 0 := by simp [atI]
                  go_wp2_with fail
                  go_round
                  case rel => exact ⟨k + 1, by omega, by go_num, by rw [HA2.out]⟩
                  case measure => simp [intOf]; omega
                · have HA2 : Hid (atO m L (k + 1) = some k) := Lib.hid (by rw [HA.out, hao, ← hjl.out]; rfl)
                  clear hao HA
                  have hq : atI none < 0 := by simp [atI]
                  go_wp2_with fail
                  go_round
                  case rel => exact ⟨k + 1, by omega, by go_num, by rw [HA2.out]; rfl⟩
                  case measure => simp [intOf]; omega
        · obtain rfl : k = L.length := by omega
          clear hk hlt
          have hbd := hbc.trans (hb.mono hbc.size)
          cases hao : atO m L L.length with
          | none =>
            have hso := sortAt_none HS.out hc0 (HF.out.1 hao)
            have hh := HRw.out
            rw [hso] at hh
            obtain ⟨rfl, rfl⟩ := hh
            have hq : atI none < 0 := by simp [atI]
            clear hso hown hI hb hp HS HRw HF HNX HLT hao HAP
            go_wp2_with fail
            go_ret
            exact ⟨rfl, hbd⟩
          | some j =>
            obtain ⟨hjl, hfj⟩ := HF.out.2 j hao
            have hlt64 : L[j] < 64 := HLT.out j hjl
            obtain ⟨f', hst'⟩ := sortAt_next HS.out hc0 (by omega : freeS R c ≠ 64)
            rw [hfj] at hst'
            have hnx := HNX.out j hjl
            have hwo := isSet_woS (n := (L[j] : Int)) hc
            obtain ⟨g', o', hgo', hcj⟩ := ints_at hI hjl
            cases hgo'
            clear HS HRw HF HNX HLT hfj hao
            rw [show atI (some j) = (j : Int) from rfl]
            have hq : ¬ (j : Int) < 0 := by omega
            have hji : (j : Int) < (L.length : Int) := by omega
            generalize L[j] = n at *
            have HREST := Lib.hid (And.intro hst' (And.intro hnx hwo))
            have HI := Lib.hid hI
            clear hst' hnx hwo hI
            go_wp2_with (at_builtin; refine wpList_append_own _ rfl _ _ 30 rfl w5.heap.size 3 i0 (.int .i64 0) 1 8 Tryd.underlying30 hi hz0 hz1 hz2 rfl (by decide) _ _ _ rfl (hown.alloc _) ⟨_, 0, none⟩ 1 1 [.int .i64 (n : Int)] rfl rfl ?c1 ?c2 ?c3 ?c4 ?c5 ?_)
            case c2 => rfl
            case c3 => unfold maxLen; omega
            case c4 => omega
            case c5 => have := hb.size; simp; omega
            intro v6 w6 hown6 hg6 _
            have hb6 : Below w5.heap.size w5 w6 := hb.trans (below_app (Below.refl _ _) hsz hown hg6)
            have hI6 : Ints w6 (.slice (some ⟨g, o, none⟩) L.length lcap) (L.map Int.ofNat) := by
              have h := (HI.out.below ((Below.refl _ _).alloc (Nat.le_refl _) _)).grown hg6 HAP.out
              rwa [List.length_map] at h
            clear hown hg6 hb hcj HI HAP hp hbd
            have hs6 := hb6.size
            have hW : Below w6.heap.size w6 (w6.drew.alloc (.cells #[] 3)) := (⟨rfl, rfl, rfl, Nat.le_refl _, fun _ _ => rfl⟩ : Below w6.heap.size w6 w6.drew).alloc (Nat.le_refl _) _
            have HOW := Lib.hid (World.ownsRow_made (base := w6.heap.size) (e := 3) (size := 1) w6.drew #[] 0 (Nat.le_refl _) (by decide) rfl)
            obtain ⟨A, hA, HC2⟩ : ∃ A : Addr, (if lcap = j + 1 then some (⟨g, o, none⟩ : Addr) else some ⟨g, o + (j + 1), none⟩) = some A ∧ Hid (∀ w7, Below w6.heap.size w6 w7 → ∀ i u, ((L.drop (j + 1)).map fun i : Nat => Value.int .i64 (i : Int))[i]? = some u → w7.cell? (A.add i) = some u) := by
              by_cases h : lcap = j + 1
              · refine ⟨⟨g, o, none⟩, by simp [h], fun w7 hb7 i u hu => ?_⟩
                rw [List.drop_eq_nil_of_le (by omega)] at hu
                simp at hu
              · exact ⟨⟨g, o + (j + 1), none⟩, by simp [h], fun w7 hb7 => (hI6.below hb7).news (j + 1)⟩
            have HC1 : Hid (∀ i u, ((L.take j).map fun i : Nat => Value.int .i64 (i : Int))[i]? = some u → (w6.drew.alloc (.cells #[] 3)).cell? ((⟨g, o, none⟩ : Addr).add i) = some u) := Lib.hid (fun i u hu => by
              have hi : i < j := by
                have := (List.getElem?_eq_some_iff.1 hu).1
                simp at this; omega
              refine (hI6.below hW).news 0 i u ?_
              rw [List.drop_zero, ← hu, List.map_take, List.getElem?_take, if_pos hi])
            have s1 : Hid (((L.take j).map fun i : Nat => Value.int .i64 (i : Int)).length = j * 1) := Lib.hid (by simp; omega)
            have s2 : Hid (∀ u ∈ ((L.take j).map fun i : Nat => Value.int .i64 (i : Int)), u.oneCell' = true) := Lib.hid (fun u hu => by
              obtain ⟨x, _, rfl⟩ := List.mem_map.1 hu
              rfl)
            have t1 : Hid (((L.drop (j + 1)).map fun i : Nat => Value.int .i64 (i : Int)).length = (L.length - (j + 1)) * 1) := Lib.hid (by simp)
            have t2 : Hid (∀ u ∈ ((L.drop (j + 1)).map fun i : Nat => Value.int .i64 (i : Int)), u.oneCell' = true) := Lib.hid (fun u hu => by
              obtain ⟨x, _, rfl⟩ := List.mem_map.1 hu
              rfl)
            have HS5 : Hid (w6.heap.size ≤ (w6.drew.alloc (.cells #[] 3)).heap.size) := Lib.hid hW.size
            have HB7 : Hid (∀ w7, (w6.drew.alloc (.cells #[] 3)).grownBy w7 (some w6.heap.size) → Below w6.heap.size w6 w7) := Lib.hid (fun w7 hg => hW.grown hg hW.size (fun k hk => by cases hk; exact Nat.le_refl _))
            have hjc : j ≤ lcap := by omega
            have hwr : IntKind.i64.wrap ((j : Int) + 1) = (j : Int) + 1 := by rw [IntKind.wrap_i64]; omega
            have hp0 : (0 : Int) ≤ (j : Int) + 1 := by omega
            have hp1 : (j : Int) + 1 ≤ (L.length : Int) := by omega
            have hp2 : ((j : Int) + 1).toNat = j + 1 := by omega
            have HI6 := Lib.hid hI6
            have HO6 := Lib.hid hown6
            clear hI6 hown6 hW
            go_wp2_with fail
            go_region_law (first
              | (refine step_append_own _ rfl (.tmp 92) (.tmp 96) 30 rfl w6.heap.size 3 i0 (.int .i64 0) 1 8 Tryd.underlying30 hi hz0 hz1 hz2 rfl (by decide) v7 (0 + j) _ (by simp [Act.eval]) hown7 A (L.length - (j + 1)) (lcap - (j + 1)) _ (by simp [Act.eval]) t1.out (HC2.out _ (HB7.out _ hg7)) t2.out (by unfold maxLen; omega) (by omega) (Nat.le_trans HS5.out hg7.size) ?_
                 intro v8 w8 hown8 hg8)
              | (refine step_append_own _ rfl (.tmp 88) (.tmp 91) 30 rfl w6.heap.size 3 i0 (.int .i64 0) 1 8 Tryd.underlying30 hi hz0 hz1 hz2 rfl (by decide) _ 0 [] (by simp [Act.eval]) HOW.out ⟨g, o, none⟩ j lcap _ (by simp [Act.eval]) s1.out HC1.out s2.out (by unfold maxLen; omega) (by omega) HS5.out ?_
                 intro v7 w7 hown7 hg7))
            obtain ⟨hst', hnx, hwo⟩ := HREST.out
            have hb8 : Below w6.heap.size w6 w8 := (HB7.out _ hg7).trans ((Below.refl _ _).grown hg8 (Nat.le_trans HS5.out hg7.size) (fun k hk => (hown7.lt k hk).1))
            have hI8 : Ints w8 v8 ((lst (woS c (n : Int))).map Int.ofNat) := by
              rw [← hnx]
              refine Ints.of_nats (base := w6.heap.size) (e := 3) (n := 0 + j + (L.length - (j + 1))) ?_
              rw [List.map_append]
              exact hown8
            have hlv := owns_lenV hown8
            have hap8 : ∀ b, v6.ownBlock = some b → v8.ownBlock ≠ some b := fun b h6 h8 => by
              have := (HO6.out.lt b h6).2
              have := (hown8.lt b h8).1
              omega
            have ho8 := owns_below HO6.out hb8
            have hbe := hb6.trans (hb8.mono hs6)
            go_simp
            go_wp2
            go_roundw
            case rel => exact ⟨woS c (n : Int), f', acc ++ [n], hwo, hst', by simpa using ho8, hI8, hap8, hbe⟩
            case measure => rw [hlv]; simp [lenV]; omega
end Go.Proofs.YtjfegknokombgaaDoor
