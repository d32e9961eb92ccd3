/- Walks and plain facts that the proof of the statement ScriptLong uses, joined: ScrC ScrD TxnN ScrE ScrF OpC OpD OpE OpF OpG OpH OpI ScrG ScrH BldF RepX ScrM. Conditions: each theorem's own. -/
import Derived.Deep.CutRange
import Derived.Deep.RegionLaw
import Derived.Laws.StructEq
import Derived.Deep.RegionHeld3
import Derived.StillTailTactics
import Derived.Shelf.Strings.BuilderF
import Derived.Deep.LoopGhost
import Derived.Test.YtlkdojcimlfmdaaDoorPScriptLong0
import Derived.Test.YtlkdojcimlfmdaaDoorPScriptLong1
namespace Go.Proofs.YtlkdojcimlfmdaaDoor
set_option maxRecDepth 100000
open Go.RowKit

/-- What Lines answers. -/
def LinesRes (L : List ByteArray) (base : Nat) (w : World) (e : Ending) : Prop :=
  (∃ v c, e = .returned (.tuple #[v, .int .i64 0]) ∧ runL L = some (c.map txE) ∧ Made w base v c ∧ c.length ≤ L.length ∧ ∀ t ∈ c, t.l.length ≤ L.length) ∨
  (∃ k, k < L.length ∧ e = .returned (.tuple #[.slice none 0 0, .int .i64 ((k : Int) + 1)]) ∧ (∃ H, runL (L.take k) = some H) ∧ runL (L.take (k + 1)) = none)
theorem txE_app (c : List TxnV) (t : TxnV) : (c ++ [t]).map txE = c.map txE ++ [txE t] := by simp
theorem lit4 (w : World) (x y z u : Value) (t : TypeId) : ∀ j v, [x, y, z, u][j]? = some v → (w.alloc (.cells #[x, y, z, u] t)).cell? ((⟨w.heap.size, 0, none⟩ : Addr).add j) = some v := fun j v hv => by
  obtain ⟨c0, c1, c2, c3⟩ := txnBlock w x y z u t
  match j, hv with
  | 0, hv => simp at hv; subst hv; exact c0
  | 1, hv => simp at hv; subst hv; exact c1
  | 2, hv => simp at hv; subst hv; exact c2
  | 3, hv => simp at hv; subst hv; exact c3
  | j + 4, hv => simp at hv
set_option maxHeartbeats 8000000 in
theorem slines_any (va : Value) (L : List ByteArray) (w : World) (he : Env w) (ha : Strs w va L) (hs : ∀ s ∈ L, s.size ≤ 100000) (hL : L.length ≤ 2000000) :
    Calls Tryd.prog 27 #[va] w fun e w' => LinesRes L w.heap.size w' e ∧ Below w.heap.size w w' := by
  obtain ⟨i0, hi, hz0, hz1, hz2⟩ := info_parts infoTxn
  obtain ⟨i1, hj, hy0, hy1, hy2⟩ := info_parts infoOp
  obtain ⟨ao, cap, rfl, ⟨hal, hcl⟩, _⟩ := ha.form
  have HE := Lib.hid (fun wx (hx : Below w.heap.size w wx) => he.below hx)
  have HS := Lib.hid hs
  clear he hs
  go_enter Tryd.func27, Tryd.ntmps27
  go_wp2_with fail
  go_loopw [4, 14] (fun hv i wr => ∃ (k : Nat) (c : List TxnV), k ≤ L.length ∧ i = .int .i64 k ∧ runL (L.take k) = some (c.map txE) ∧ Made wr w.heap.size hv c ∧ c.length ≤ k ∧ (∀ t ∈ c, t.l.length ≤ k) ∧ Below w.heap.size w wr) (fun _ i _ => L.length - (intOf i).toNat)
  case atStart => exact ⟨0, [], by omega, rfl, rfl, Made.nil _ _, Nat.le_refl _, by simp, Below.refl _ _⟩
  case round =>
    obtain ⟨k, c, hk, rfl, hrun, hM, hc1, hc2, hb⟩ := hrel
    by_cases hlt : k < L.length
    · have hki : (k : Int) < (L.length : Int) := by omega
      obtain ⟨g, o, hao, c0⟩ := (ha.below hb).at hlt
      cases hao
      have HA := Lib.hid (runL_at hlt hrun)
      have hsl := HS.out _ (List.getElem_mem hlt)
      have CB := Lib.hid (begun_any L[k] wr (HE.out _ hb) hsl)
      have CP := Lib.hid (fun wx (hx : Below w.heap.size w wx) => parse_any L[k] wx (HE.out _ hx) hsl)
      have HNO : Hid (∀ r, begR L[k] = (false, r) → c = [] → runL (L.take (k + 1)) = none) := Lib.hid (fun r h1 h2 => by rw [HA.out, h2]; exact stepL_nil h1)
      have HNO2 : Hid (∀ r o, begR L[k] = (false, r) → parseR L[k] = (false, o) → runL (L.take (k + 1)) = none) := Lib.hid (fun r o h1 h2 => by rw [HA.out]; exact stepL_no h1 h2)
      have HBG : Hid (∀ a b d, begR L[k] = (true, a, b, d) → runL (L.take (k + 1)) = some ((c ++ [TxnV.mk a b d (.slice none 0 0) []]).map txE)) := Lib.hid (fun a b d h1 => by rw [HA.out, stepL_beg h1, txE_app]; rfl)
      have HOP : Hid (∀ r o D t v', begR L[k] = (false, r) → parseR L[k] = (true, o) → c = D ++ [t] → runL (L.take (k + 1)) = some ((D ++ [TxnV.mk t.s t.b t.c v' (t.l ++ [o])]).map txE)) := Lib.hid (fun r o D t v' h1 h2 h3 => by rw [HA.out, h3, txE_app, stepL_op h1 h2, txE_app]; rfl)
      have HRUN := Lib.hid hrun
      generalize L[k] = s at *
      generalize begR s = R at *
      generalize parseR s = Q at *
      obtain ⟨rb, ra, rc, rd⟩ := R
      obtain ⟨qb, qo⟩ := Q
      obtain ⟨qw, qk, qv⟩ := qo
      unfold begV at CB
      simp only at CB CP
      clear HA hrun hsl
      go_wp2_with fail
      refine (CB.out).mono ?_
      rintro e w1 ⟨rfl, hb1⟩
      have hM1 := hM.below hb1
      have hb1' := hb.trans (hb1.mono hb.size)
      cases rb
      · have hM2 := hM1.below (box_below w1 (.cells #[.int .i64 ra, .int .i64 rc, .int .i64 rd, .slice none 0 0] 29))
        have hb2 := hb1'.alloc hb1'.size (.cells #[.int .i64 ra, .int .i64 rc, .int .i64 rd, .slice none 0 0] 29)
        have CP2 := Lib.hid (CP.out _ hb2)
        clear HBG CP CB c0 hM1
        go_wp2_with fail
        refine (CP2.out).mono ?_
        rintro e w3 ⟨rfl, hb3⟩
        have hM3 := hM2.below hb3
        have hb3' := hb2.trans (hb3.mono hb2.size)
        have hb4 := hb3'.alloc hb3'.size (.cells #[.bool qw, .int .i64 qk, .int .i64 qv] 26)
        have hM4 := hM3.below (box_below w3 (.cells #[.bool qw, .int .i64 qk, .int .i64 qv] 26))
        clear hM hM2 hM3 CP2 hb2 hb3 hb1 hb1'
        cases qb
        · have HR : Hid (LinesRes L w.heap.size (w3.alloc (.cells #[.bool qw, .int .i64 qk, .int .i64 qv] 26)) (.returned (.tuple #[.slice none 0 0, .int .i64 ((k : Int) + 1)]))) := Lib.hid (.inr ⟨k, hlt, rfl, ⟨_, HRUN.out⟩, HNO2.out _ _ rfl rfl⟩)
          have hw1 : wrap64 ((k : Int) + 1) = (k : Int) + 1 := wrap64_small (by omega) (by omega)
          clear hM4 HOP HNO HNO2 hc2
          go_wp2_with fail
          go_ret2
          exact ⟨HR.out, hb4⟩
        · obtain ⟨av, cv, rfl⟩ : ∃ a cp, u4 = .slice a c.length cp := by
            rcases hM4.1.split with ⟨rfl, rfl⟩ | ⟨g, cp, rfl, _⟩
            · exact ⟨none, 0, rfl⟩
            · exact ⟨_, _, rfl⟩
          by_cases hcn : c = []
          · have HR : Hid (LinesRes L w.heap.size (w3.alloc (.cells #[.bool qw, .int .i64 qk, .int .i64 qv] 26)) (.returned (.tuple #[.slice none 0 0, .int .i64 ((k : Int) + 1)]))) := Lib.hid (.inr ⟨k, hlt, rfl, ⟨_, HRUN.out⟩, HNO.out _ rfl hcn⟩)
            have hw1 : wrap64 ((k : Int) + 1) = (k : Int) + 1 := wrap64_small (by omega) (by omega)
            subst hcn
            have hl0 : (([] : List TxnV).length : Int) = 0 := rfl
            clear hM4 HOP HNO HNO2 hc2
            go_wp2_with fail
            go_ret2
            exact ⟨HR.out, hb4⟩
          · obtain ⟨D, t, rfl⟩ : ∃ D t, c = D ++ [t] := ⟨c.dropLast, c.getLast hcn, (List.dropLast_concat_getLast hcn).symm⟩
            have hlD : (D ++ [t]).length = D.length + 1 := by simp
            have HN := Lib.hid (fun v' => HOP.out _ _ D t v' rfl rfl rfl)
            have HTL := Lib.hid (hc2 t (by simp))
            rw [hlD] at hM4 hc1 ⊢
            obtain ⟨g2, rfl⟩ : ∃ g2, av = some ⟨g2, 0, none⟩ := by
              rcases hM4.1.split with ⟨e, _⟩ | ⟨g, cp, e, _⟩
              · have := (Value.slice.inj e).2.1; omega
              · exact ⟨g, (Value.slice.inj e).1⟩
            have hO4 : OwnT (w3.alloc (.cells #[.bool qw, .int .i64 qk, .int .i64 qv] 26)) w.heap.size (.slice (some ⟨g2, 0, none⟩) (D ++ [t]).length cv) (D ++ [t]) := by rw [hlD]; exact hM4.1
            have a3 := (hO4.at (j := D.length * 4 + 3) (by omega)).1
            have f3 := (hO4.at (j := D.length * 4 + 3) (by omega)).2
            rw [txV_app, ← txV_len D, List.getElem?_append_right (by omega), Nat.add_sub_cancel_left, txV_len D] at a3
            change _ = some t.v at a3
            have hT := hM4.2.1 t (by simp)
            have HL : Hid (∀ v', ∀ u ∈ (D ++ [TxnV.mk t.s t.b t.c v' (t.l ++ [⟨qw, qk, qv⟩])]), u.l.length ≤ k + 1) := Lib.hid (fun v' u hu => by
              rcases List.mem_append.1 hu with hu | hu
              · exact Nat.le_succ_of_le (hc2 u (by simp [hu]))
              · obtain rfl := List.mem_singleton.1 hu
                have := hc2 t (by simp)
                simp; omega)
            have HLL : Hid (∀ v', (D ++ [TxnV.mk t.s t.b t.c v' (t.l ++ [⟨qw, qk, qv⟩])]).length ≤ k + 1) := Lib.hid (fun v' => by simp; omega)
            have HM4 := Lib.hid hM4
            clear hM4 hc2 HOP HNO HNO2 hO4 hcn HRUN
            obtain ⟨ts, tb, tc, tv, tl⟩ := t
            dsimp only at a3 hT HTL HN HL HLL
            obtain ⟨at', ct, rfl, _⟩ := hT.ops.form
            obtain ⟨b0, b1, b2⟩ := opBlock w3 (.bool qw) (.int .i64 qk) (.int .i64 qv) 26
            go_wp2_with fail
            generalize w3.alloc (.cells #[.bool qw, .int .i64 qk, .int .i64 qv] 26) = w4 at *
            generalize w3.heap.size = p at *
            have n1 : w4.heap.size ≠ g2 := Nat.ne_of_gt (block_lt a3)
            have n2 : w4.heap.size ≠ p := Nat.ne_of_gt (block_lt b0)
            have hgl : Hid (g2 < w4.heap.size) := Lib.hid (block_lt a3)
            have hsX : (w4.alloc (.cells #[.bool qw, .int .i64 qk, .int .i64 qv] 26)).heap.size = w4.heap.size + 1 := by simp
            have hbX := box_below w4 (.cells #[.bool qw, .int .i64 qk, .int .i64 qv] 26)
            have HMX := Lib.hid (HM4.out.below hbX)
            have hTX := Lib.hid (hT.below hbX)
            have hgr : Hid (some g2 ≠ (Value.slice at' tl.length ct).ownBlock) := Lib.hid (fun e => by
              rcases own_apart HM4.out.1 hT with q | q
              · rw [q] at e; cases e
              · exact q (by rw [← e]; rfl))
            have hA := Lib.hid ((hbX.cell (p := ⟨g2, D.length * 4 + 3, none⟩) hgl.out).trans a3)
            have hF := Lib.hid ((hbX.frozen (p := ⟨g2, D.length * 4 + 3, none⟩) hgl.out).trans f3)
            have hgX : Hid (g2 < (w4.alloc (.cells #[.bool qw, .int .i64 qk, .int .i64 qv] 26)).heap.size) := Lib.hid (by rw [hsX]; have := hgl.out; omega)
            have hb5 := Lib.hid (hb4.alloc hb4.size (.cells #[.bool qw, .int .i64 qk, .int .i64 qv] 26))
            have hbs : Hid (w.heap.size ≤ (w4.alloc (.cells #[.bool qw, .int .i64 qk, .int .i64 qv] 26)).heap.size) := Lib.hid hb5.out.size
            have u2 := Lib.hid (opV_one [⟨qw, qk, qv⟩])
            have m1 : Hid (tl.length + 1 ≤ maxLen) := Lib.hid (by have := HTL.out; unfold maxLen; omega)
            have m2 : Hid ((tl.length + 1) * 24 ≤ 140737488355328) := Lib.hid (by have := HTL.out; omega)
            have HS4 := Lib.hid hsX
            have HRG : Hid (∀ j, (Value.slice at' tl.length ct).ownBlock = some j → w.heap.size ≤ j) := Lib.hid (fun j hj => (World.ownsRow.lt hT j hj).1)
            have hA1 := hA.out
            have hA2 : (w4.alloc (.cells #[.bool qw, .int .i64 qk, .int .i64 qv] 26)).drew.cell? ⟨g2, D.length * 4 + 3, none⟩ = some (.slice at' tl.length ct) := hA.out
            have HFIN : Hid (∀ g9 c9 w9, World.ownsRow w9 w.heap.size 26 3 (.slice (some ⟨g9, 0, none⟩) (tl.length + 1) c9) (tl.length + 1) (opV tl ++ [.bool qw, .int .i64 qk, .int .i64 qv]) → (w4.alloc (.cells #[.bool qw, .int .i64 qk, .int .i64 qv] 26)).drew.grownBy w9 (Value.slice at' tl.length ct).ownBlock → ((Value.slice at' tl.length ct).ownBlock = some g9 ∨ g9 = w4.heap.size + 1) →
                Made (w9.setCell ⟨g2, D.length * 4 + 3, none⟩ (.slice (some ⟨g9, 0, none⟩) (tl.length + 1) c9)) w.heap.size (.slice (some ⟨g2, 0, none⟩) (D.length + 1) cv) (D ++ [TxnV.mk ts tb tc (.slice (some ⟨g9, 0, none⟩) (tl.length + 1) c9) (tl ++ [⟨qw, qk, qv⟩])]) ∧ Below w.heap.size w (w9.setCell ⟨g2, D.length * 4 + 3, none⟩ (.slice (some ⟨g9, 0, none⟩) (tl.length + 1) c9))) := Lib.hid (fun g9 c9 w9 h1 h2 h3 => by
              have hM := HMX.out.below (Below.refl _ _).drew
              have hO9 : Own w9 w.heap.size (.slice (some ⟨g9, 0, none⟩) (tl.length + 1) c9) (tl ++ [⟨qw, qk, qv⟩]) := by
                unfold Own
                rw [List.length_append, opV_app]
                exact h1
              have hM9 := Made.op hM h2 hO9 (fun b hb => by
                have : g9 = b := by simpa [Value.ownBlock] using hb
                subst this
                rcases h3 with q | q
                · exact .inl q
                · refine .inr ?_
                  have e : (w4.alloc (.cells #[.bool qw, .int .i64 qk, .int .i64 qv] 26)).drew.heap.size = w4.heap.size + 1 := hsX
                  rw [e, q]
                  exact Nat.le_refl _)
              have h5 := (hb5.out.drew).grown h2 hb5.out.size HRG.out
              exact ⟨hM9, h5.setCell (p := ⟨g2, D.length * 4 + 3, none⟩) ((World.ownsRow.lt HM4.out.1 g2 rfl).1) _⟩)
            clear hsX hbX hT HM4
            go_region_law (first
              | (refine step_append_lies _ rfl (.tmp 52) (.tmp 54) 22 rfl w.heap.size 26 i1 (.agg #[.bool false, .int .i64 0, .int .i64 0]) 3 24 Tryd.underlying22 hj hy0 hy1 hy2 rfl (by decide) (.slice at' tl.length ct) tl.length (opV tl) (by simp [Act.eval]) (by first | exact hTX.out | exact drew_own hTX.out) ⟨_, 0, none⟩ 1 1 [.bool qw, .int .i64 qk, .int .i64 qv] (by rfl) rfl (by exact lit_new _ _ _ _ _) u2.out (by decide) m1.out m2.out hbs.out (w4.heap.size + 1) HS4.out ?_
                 intro g9 c9 w9 hown9 hg9 hor9 hlt9; have a9 := (World.grownBy.cell_far hg9 ⟨g2, D.length * 4 + 3, none⟩ hgX.out hgr.out).trans hA.out; have f9 := (World.grownBy.frozen_far hg9 ⟨g2, D.length * 4 + 3, none⟩ hgX.out hgr.out).trans hF.out))
            all_goals
              obtain ⟨hMf, hbf⟩ := HFIN.out _ _ _ hown9 hg9 hor9
              clear hown9 hg9 hor9 HFIN HMX hb5 hTX
              try go_simp
              go_wp2_with fail
              go_roundw
              case rel => exact ⟨k + 1, _, by omega, by go_num, HN.out _, hMf, HLL.out _, HL.out _, hbf⟩
              case measure => simp [intOf]; omega
      · have HN := Lib.hid (HBG.out _ _ _ rfl)
        clear HNO HNO2 HOP HBG CP CB c0
        obtain ⟨av, cv, rfl⟩ : ∃ a cp, u4 = .slice a c.length cp := by
          rcases hM1.1.split with ⟨rfl, rfl⟩ | ⟨g, cp, rfl, _⟩
          · exact ⟨none, 0, rfl⟩
          · exact ⟨_, _, rfl⟩
        have hM2 := hM1.below (box_below w1 (.cells #[.int .i64 ra, .int .i64 rc, .int .i64 rd, .slice none 0 0] 29))
        have hM3 := hM2.below (box_below _ (.cells #[.int .i64 ra, .int .i64 rc, .int .i64 rd, .slice none 0 0] 29))
        have hsz := hb1'.size
        go_wp2_with (first | (at_builtin; refine wpList_append_own _ rfl _ _ 34 rfl w.heap.size 29 i0 (.agg #[.int .i64 0, .int .i64 0, .int .i64 0, .slice none 0 0]) 4 48 Tryd.underlying34 hi hz0 hz1 hz2 rfl (by decide) _ _ _ rfl hM3.1 ⟨_, 0, none⟩ 1 1 [.int .i64 ra, .int .i64 rc, .int .i64 rd, .slice none 0 0] rfl rfl ?c1 ?c2 ?c3 ?c4 ?c5 ?_) | go_in)
        case c1 =>
          have h := lit4 (w1.alloc (.cells #[.int .i64 ra, .int .i64 rc, .int .i64 rd, .slice none 0 0] 29)) (.int .i64 ra) (.int .i64 rc) (.int .i64 rd) (.slice none 0 0) 29
          rw [show (w1.alloc (.cells #[.int .i64 ra, .int .i64 rc, .int .i64 rd, .slice none 0 0] 29)).heap.size = w1.heap.size + 1 from by simp] at h
          exact h
        case c2 =>
          intro u hu
          simp at hu
          rcases hu with rfl | rfl | rfl | rfl <;> rfl
        case c3 => unfold maxLen; omega
        case c4 => omega
        case c5 => simp; omega
        intro v7 w7 hown7 hg7 _
        have hO7 : OwnT w7 w.heap.size v7 (c ++ [TxnV.mk ra rc rd (.slice none 0 0) []]) := by
          unfold OwnT
          rw [List.length_append, txV_app]
          exact hown7
        have hM7 := Made.beg hM3 hO7 hg7
        have hb7 := ((hb1'.alloc hb1'.size (.cells #[.int .i64 ra, .int .i64 rc, .int .i64 rd, .slice none 0 0] 29)).alloc (by simp; omega) (.cells #[.int .i64 ra, .int .i64 rc, .int .i64 rd, .slice none 0 0] 29)).grown hg7 (by simp; omega) (fun j hj => (World.ownsRow.lt hM3.1 j hj).1)
        have HL : Hid (∀ t ∈ (c ++ [TxnV.mk ra rc rd (.slice none 0 0) []]), t.l.length ≤ k + 1) := Lib.hid (fun t ht => by
          rcases List.mem_append.1 ht with ht | ht
          · exact Nat.le_succ_of_le (hc2 t ht)
          · obtain rfl := List.mem_singleton.1 ht
            exact Nat.zero_le _)
        have HLL : Hid ((c ++ [TxnV.mk ra rc rd (.slice none 0 0) []]).length ≤ k + 1) := Lib.hid (by simp; omega)
        clear hown7 hg7 hM hM1 hM2 hM3 hO7 hc2 hb1 hb1' hb
        go_wp2_with fail
        go_roundw
        case rel => exact ⟨k + 1, _, by omega, by go_num, HN.out, hM7, HLL.out, HL.out, hb7⟩
        case measure => simp [intOf]; omega
    · have hkl : k = L.length := by omega
      subst hkl
      rw [List.take_length] at hrun
      have HR : Hid (LinesRes L w.heap.size wr (.returned (.tuple #[u4, .int .i64 0]))) := Lib.hid (.inl ⟨_, c, rfl, hrun, hM, hc1, hc2⟩)
      clear hrun hM hc2
      go_wp2_with fail
      go_ret2
      exact ⟨HR.out, hb⟩
end Go.Proofs.YtlkdojcimlfmdaaDoor

namespace Go.Proofs.YtlkdojcimlfmdaaDoor
set_option maxRecDepth 100000
open Go.RowKit

def okE (t : Int × Int × Int × List OpV) : Prop := (IntOk t.1 ∧ IntOk t.2.1 ∧ IntOk t.2.2.1) ∧ ∀ o ∈ t.2.2.2, o.ok
theorem intOk_small {n : Int} (h : 0 ≤ n ∧ n ≤ 2147483647) : IntOk n := by unfold IntOk; omega
theorem begR_ok {s : ByteArray} {a b c : Int} (h : begR s = (true, a, b, c)) : (0 ≤ a ∧ a ≤ 2147483647) ∧ (0 ≤ b ∧ b ≤ 2147483647) ∧ (0 ≤ c ∧ c ≤ 2147483647) := by
  unfold begR at h
  split at h
  · rename_i hw
    simp only [Bool.and_eq_true] at hw
    obtain ⟨a', b', c', e, h1, h2, h3⟩ := nums_three hw.1
    rw [e] at h
    simp at h
    obtain ⟨rfl, rfl, rfl⟩ := h
    exact ⟨h1, h2, h3⟩
  · simp at h
theorem parseR_mayO {s : ByteArray} {o : OpV} (h : parseR s = (true, o)) : mayO o = true := by
  unfold parseR at h
  split at h
  · split at h
    · split at h
      · rename_i hm
        simp only [Bool.and_eq_true] at hm
        simp at h
        rw [← h]; exact hm.2
      · simp at h
    · simp at h
  · simp at h
theorem mayO_ok {o : OpV} (h : mayO o = true) : o.ok := by
  obtain ⟨h1, h2, _⟩ := (mayO_iff o).1 h
  exact ⟨by unfold IntOk; omega, by unfold IntOk; omega⟩
theorem stepL_ok {H H' : List (Int × Int × Int × List OpV)} {s : ByteArray} (hH : ∀ t ∈ H, okE t) (h : stepL H s = some H') : ∀ t ∈ H', okE t := by
  unfold stepL at h
  cases hb : begR s with
  | mk rb r =>
    obtain ⟨a, b, c⟩ := r
    rw [hb] at h
    cases rb
    · simp only [Bool.false_eq_true, if_false] at h
      cases hl : H.getLast? with
      | none => rw [hl] at h; cases h
      | some t =>
        rw [hl] at h
        cases hp : parseR s with
        | mk qb o =>
          rw [hp] at h
          cases qb
          · cases h
          · simp only [if_true] at h
            obtain rfl := Option.some.inj h
            intro u hu
            rcases List.mem_append.1 hu with hu | hu
            · exact hH u ((List.dropLast_sublist H).subset hu)
            · obtain rfl := List.mem_singleton.1 hu
              have ht := hH t (List.mem_of_getLast? hl)
              refine ⟨ht.1, fun x hx => ?_⟩
              rcases List.mem_append.1 hx with hx | hx
              · exact ht.2 x hx
              · obtain rfl := List.mem_singleton.1 hx
                exact mayO_ok (parseR_mayO hp)
    · simp only [if_true] at h
      obtain rfl := Option.some.inj h
      obtain ⟨h1, h2, h3⟩ := begR_ok hb
      intro u hu
      rcases List.mem_append.1 hu with hu | hu
      · exact hH u hu
      · obtain rfl := List.mem_singleton.1 hu
        exact ⟨⟨intOk_small h1, intOk_small h2, intOk_small h3⟩, by simp⟩
theorem runL_ok (L : List ByteArray) : ∀ (k : Nat) (H : List (Int × Int × Int × List OpV)), k ≤ L.length → runL (L.take k) = some H → ∀ t ∈ H, okE t
  | 0, H, _, h => by
    have : H = [] := by
      unfold runL at h; simp at h; exact h
    rw [this]; simp
  | k + 1, H, hk, h => by
    rw [List.take_succ_eq_append_getElem (by omega), runL_snoc] at h
    cases h2 : runL (L.take k) with
    | none => rw [h2] at h; cases h
    | some H2 =>
      rw [h2] at h
      exact stepL_ok (runL_ok L k H2 (by omega) h2) h
theorem okE_txn {c : List TxnV} (h : ∀ t ∈ c.map txE, okE t) : ∀ t ∈ c, t.ok := fun t ht => h (txE t) (List.mem_map.2 ⟨t, ht, rfl⟩)
/-- What Parse answers, of a text that isn't too long. -/
def ParseRes (s : ByteArray) (base : Nat) (w : World) (e : Ending) : Prop :=
  (∃ k, k < (linesB s).length ∧ (∃ H, runL ((linesB s).take k) = some H) ∧ runL ((linesB s).take (k + 1)) = none ∧ e = .returned (.tuple #[.slice none 0 0, .int .i64 ((k : Int) + 1), .int .i64 1])) ∨
  (∃ c : List TxnV, runL (linesB s) = some (c.map txE) ∧
    ((endedB s = false ∧ e = .returned (.tuple #[.slice none 0 0, .int .i64 (((linesB s).length : Int) + 1), .int .i64 1])) ∨
     (endedB s = true ∧ checkI c ≠ 0 ∧ e = .returned (.tuple #[.slice none 0 0, .int .i64 0, .int .i64 (checkI c)])) ∨
     (endedB s = true ∧ checkI c = 0 ∧ ∃ v, e = .returned (.tuple #[v, .int .i64 0, .int .i64 0]) ∧ Made w base v c)))
theorem linesB_le (s : ByteArray) : (linesB s).length ≤ s.size := by
  have := cut_len_le 10 s
  unfold linesB; rw [List.length_dropLast]; omega
theorem piece_le (c : UInt8) : ∀ (l p : List UInt8), p ∈ cutL c l → p.length ≤ l.length
  | [], p, hp => by simp [cutL] at hp; subst hp; simp
  | b :: l, p, hp => by
    unfold cutL at hp
    split at hp
    · rcases List.mem_cons.1 hp with rfl | hp
      · simp
      · have := piece_le c l p hp; simp; omega
    · rcases List.mem_cons.1 hp with rfl | hp
      · have := cutL_ne c l
        cases hc : cutL c l with
        | nil => exact absurd hc this
        | cons a r =>
          have := piece_le c l a (by rw [hc]; exact List.mem_cons_self)
          simp; omega
      · have := piece_le c l p (List.mem_of_mem_tail hp); simp; omega
theorem linesB_size (s : ByteArray) (hs : s.size ≤ 100000) : ∀ t ∈ linesB s, t.size ≤ 100000 := fun t ht => by
  have ht2 : t ∈ cutB 10 s := (List.dropLast_sublist _).subset ht
  obtain ⟨p, hp, rfl⟩ := List.mem_map.1 ht2
  have := piece_le _ _ _ hp
  have e : (⟨p.toArray⟩ : ByteArray).size = p.length := by simp [ByteArray.size]
  rw [Lib.size_eq] at hs
  rw [e]; omega
set_option maxHeartbeats 8000000 in
theorem sparse_any (s : ByteArray) (w : World) (he : Env w) (hs : s.size ≤ 100000) :
    Calls Tryd.prog 15 #[.string s] w fun e w' => ParseRes s w.heap.size w' e ∧ Below w.heap.size w w' := by
  have HE := Lib.hid (fun wx (hx : Below w.heap.size w wx) => he.below hx)
  have CL := Lib.hid (lines_any s w he hs)
  have hll := linesB_le s
  have hls := Lib.hid (linesB_size s hs)
  have hsz : ¬ (1048576 : Int) < (s.size : Int) := by omega
  have HP : Hid (∀ w e, ParseRes s w.heap.size w e ↔ ParseRes s w.heap.size w e) := Lib.hid (fun _ _ => Iff.rfl)
  clear he HP
  go_enter Tryd.func15, Tryd.ntmps15
  go_wp2_with fail
  refine (CL.out).mono ?_
  rintro e w1 ⟨v, rfl, hS, hb1⟩
  clear CL
  obtain ⟨av, cv, rfl, _⟩ := hS.form
  go_wp2_with fail
  refine (slines_any _ (linesB s) w1 (HE.out _ hb1) hS hls.out (by omega)).mono ?_
  rintro e w2 ⟨hR, hb2⟩
  have hb2' := hb1.trans (hb2.mono hb1.size)
  rcases hR with ⟨v2, c, rfl, hrun, hM, hc1, hc2⟩ | ⟨k, hk, rfl, hH, hrun⟩
  · have HOK := Lib.hid (okE_txn (c := c) (fun t ht => runL_ok (linesB s) (linesB s).length _ (Nat.le_refl _) (by rw [List.take_length]; exact hrun) t ht))
    have HSH : Hid (Short c) := Lib.hid (fun t ht => by have := hc2 t ht; omega)
    have HM := Lib.hid hM
    have HRN := Lib.hid hrun
    obtain ⟨a2, c2, rfl, _⟩ := hM.txns.form
    have hl0 : wrap64 (((linesB s).length : Int) + 1) = ((linesB s).length : Int) + 1 := wrap64_small (by omega) (by omega)
    have hl1 : ¬ ((linesB s).length : Int) + 1 = 0 := by omega
    clear hM hrun hc2 hS hls
    cases hen : endedB s
    · have HRES : Hid (ParseRes s w.heap.size w2 (.returned (.tuple #[.slice none 0 0, .int .i64 (((linesB s).length : Int) + 1), .int .i64 1]))) := Lib.hid (.inr ⟨c, HRN.out, .inl ⟨hen, rfl⟩⟩)
      clear HM
      go_wp2_with fail
      go_ret3
      exact ⟨HRES.out, hb2'⟩
    · have CK := Lib.hid (hcheck_any _ c w2 HM.out.txns HOK.out HSH.out)
      have HK : Hid (checkI c ≠ 0 → ∀ wx, ParseRes s w.heap.size wx (.returned (.tuple #[.slice none 0 0, .int .i64 0, .int .i64 (checkI c)]))) := Lib.hid (fun hne wx => .inr ⟨c, HRN.out, .inr (.inl ⟨hen, hne, rfl⟩)⟩)
      have HK0 : Hid (checkI c = 0 → ∀ wx, Below w2.heap.size w2 wx → ParseRes s w.heap.size wx (.returned (.tuple #[.slice a2 c.length c2, .int .i64 0, .int .i64 0]))) := Lib.hid (fun he wx hx => .inr ⟨c, HRN.out, .inr (.inr ⟨hen, he, _, rfl, by
        have := HM.out.below hx
        exact ⟨⟨this.1.1, by
          rcases this.1.2 with q | ⟨g, cap, cur, q1, q2, q3⟩
          · exact .inl q
          · exact .inr ⟨g, cap, cur, q1, Nat.le_trans hb1.size q2, q3⟩⟩, fun t ht => (this.2.1 t ht).base hb1.size, this.2.2⟩⟩)⟩)
      generalize checkI c = E at *
      clear HM
      go_wp2_with fail
      refine (CK.out).mono ?_
      rintro e w3 ⟨rfl, hb3⟩
      have hb3' := hb2'.trans (hb3.mono hb2'.size)
      by_cases hE : E = 0
      · subst hE
        have HRES := Lib.hid (HK0.out rfl _ hb3)
        clear HK HK0
        go_wp2_with fail
        go_ret3
        exact ⟨HRES.out, hb3'⟩
      · have HRES := Lib.hid (HK.out hE w3)
        clear HK HK0
        go_wp2_with fail
        go_ret3
        exact ⟨HRES.out, hb3'⟩
  · have HRES : Hid (ParseRes s w.heap.size w2 (.returned (.tuple #[.slice none 0 0, .int .i64 ((k : Int) + 1), .int .i64 1]))) := Lib.hid (.inl ⟨k, hk, hH, hrun, rfl⟩)
    have hk1 : ¬ ((k : Int) + 1 = 0) := by omega
    clear hrun hH hS hls
    go_wp2_with fail
    go_ret3
    exact ⟨HRES.out, hb2'⟩
end Go.Proofs.YtlkdojcimlfmdaaDoor

namespace Go.Proofs.YtlkdojcimlfmdaaDoor
set_option maxRecDepth 100000
open Go.RowKit

/-- Operations in words, a line each; a transaction in words. -/
def opsTxt (l : List OpV) : List UInt8 := l.flatMap fun o => (textB o.wr o.key o.val).data.toList ++ [10]
def headTxt (s b c : Int) : List UInt8 := joinTo [116, 120, 110] [s, b, c] ++ [10]
def txnTxt (s b c : Int) (l : List OpV) : ByteArray := ⟨(headTxt s b c ++ opsTxt l).toArray⟩
theorem opsTxt_succ (l : List OpV) (k : Nat) (hk : k < l.length) : opsTxt (l.take (k + 1)) = opsTxt (l.take k) ++ (textB l[k].wr l[k].key l[k].val).data.toList ++ [10] := by
  unfold opsTxt; rw [take_snoc l k hk, List.flatMap_append]; simp
theorem textB_size (o : OpV) (h : o.ok) : (textB o.wr o.key o.val).size ≤ 45 := by
  have hl := joinTo_len (if o.wr then (⟨#[119]⟩ : ByteArray) else ⟨#[114]⟩).data.toList [o.key, o.val] (by intro n hn; simp at hn; rcases hn with rfl | rfl; exact h.1; exact h.2)
  have e : (if o.wr then (⟨#[119]⟩ : ByteArray) else ⟨#[114]⟩).data.toList.length = 1 := by cases o.wr <;> rfl
  rw [e] at hl
  unfold textB joinB
  simp only [ByteArray.size, List.size_toArray]
  simpa using hl
theorem opsTxt_len : ∀ (l : List OpV), (∀ o ∈ l, o.ok) → (opsTxt l).length ≤ 46 * l.length
  | [], _ => by simp [opsTxt]
  | a :: l, h => by
    have h1 := opsTxt_len l (fun o ho => h o (List.mem_cons_of_mem _ ho))
    have h2 := textB_size a (h a List.mem_cons_self)
    rw [Lib.size_eq] at h2
    unfold opsTxt at *
    simp only [List.flatMap_cons, List.length_append, List.length_cons, List.length_nil] at *
    omega
theorem headTxt_len (s b c : Int) (hs : IntOk s) (hb : IntOk b) (hc : IntOk c) : (headTxt s b c).length ≤ 80 := by
  have := joinTo_len [116, 120, 110] [s, b, c] (by intro n hn; simp at hn; rcases hn with rfl | rfl | rfl <;> assumption)
  unfold headTxt; simp at *; omega
set_option maxHeartbeats 8000000 in
theorem ttext_any (s b c : Int) (va : Value) (l : List OpV) (w : World) (he : Ten w) (ha : Ops w va l) (hok : ∀ o ∈ l, o.ok) (hs : IntOk s) (hb : IntOk b) (hc : IntOk c) (hlen : l.length ≤ 100000) :
    Calls Tryd.prog 24 #[.agg #[.int .i64 s, .int .i64 b, .int .i64 c, va]] w fun e w' => e = .returned (.string (txnTxt s b c l)) ∧ Below w.heap.size w w' := by
  obtain ⟨ao, cap, rfl, hal⟩ := ha.form
  have HOK := Lib.hid hok
  have HEN : Hid (∀ wx, Below w.heap.size w wx → Ten wx) := Lib.hid (fun wx h => he.below h)
  have hhl := headTxt_len s b c hs hb hc
  have HL : Hid (∀ k, k ≤ l.length → (opsTxt (l.take k)).length ≤ 46 * k) := Lib.hid (fun k hk => by
    have := opsTxt_len (l.take k) (fun o ho => hok o (List.mem_of_mem_take ho))
    rw [List.length_take, Nat.min_eq_left hk] at this; exact this)
  have hw1 := (Below.refl w.heap.size w).alloc (Nat.le_refl _) (.cells #[.int .i64 s, .int .i64 b, .int .i64 c, .slice ao l.length cap] 29)
  have hB1 := bld_new (w.alloc (.cells #[.int .i64 s, .int .i64 b, .int .i64 c, .slice ao l.length cap] 29))
  obtain ⟨t0, t1, t2, t3⟩ := txnBlock w (.int .i64 s) (.int .i64 b) (.int .i64 c) (.slice ao l.length cap) 29
  rw [show (w.alloc (.cells #[.int .i64 s, .int .i64 b, .int .i64 c, .slice ao l.length cap] 29)).heap.size = w.heap.size + 1 from by simp] at hB1
  have hw2 := hw1.alloc hw1.size (.cells #[.pointer none, .slice none 0 0] 67)
  have HI : Hid (∀ wx : World, Ints (wx.alloc (.cells #[.int .i64 s, .int .i64 b, .int .i64 c] 3)) (.slice (some ⟨wx.heap.size, 0, none⟩) 3 3) [s, b, c]) := Lib.hid (fun wx => ints_lit wx [s, b, c] #[.int .i64 s, .int .i64 b, .int .i64 c] 3 rfl rfl (by decide))
  have HIO : Hid (∀ n ∈ [s, b, c], IntOk n) := Lib.hid (by intro n hn; simp at hn; rcases hn with rfl | rfl | rfl <;> assumption)
  clear hok he hs hb hc
  go_enter Tryd.func24, Tryd.ntmps24
  go_wp2_with fail
  have HSZ : Hid (((w.alloc (.cells #[.int .i64 s, .int .i64 b, .int .i64 c, .slice ao l.length cap] 29)).alloc (.cells #[.pointer none, .slice none 0 0] 67)).heap.size = w.heap.size + 1 + 1) := Lib.hid (by simp)
  have t3' := ((box_below (w.alloc (.cells #[.int .i64 s, .int .i64 b, .int .i64 c, .slice ao l.length cap] 29)) (.cells #[.pointer none, .slice none 0 0] 67)).cell (p := ⟨w.heap.size, 3, none⟩) (block_lt t3)).trans t3
  clear t0 t1 t2 t3 hw1
  generalize (w.alloc (.cells #[.int .i64 s, .int .i64 b, .int .i64 c, .slice ao l.length cap] 29)).alloc (.cells #[.pointer none, .slice none 0 0] 67) = w2 at *
  rw [← HSZ.out]
  have hw3 := hw2.alloc hw2.size (.cells #[.int .i64 s, .int .i64 b, .int .i64 c] 3)
  refine (join_ten ⟨#[116, 120, 110]⟩ _ [s, b, c] _ (HEN.out _ hw3) (HI.out w2) HIO.out (by simp [ByteArray.size])).mono ?_
  rintro e w4 ⟨rfl, hb4⟩
  have hw4 := below_then hw3 hb4
  have hbb4 := below_then ((Below.refl w2.heap.size w2).alloc (Nat.le_refl _) (.cells #[.int .i64 s, .int .i64 b, .int .i64 c] 3)) hb4
  have hB4 := hB1.grown hbb4
  have t4 := (hbb4.cell (p := ⟨w.heap.size, 3, none⟩) (block_lt t3')).trans t3'
  have CW := Lib.hid (write_any (w.heap.size + 1) (w.heap.size + 1) [] (joinB ⟨#[116, 120, 110]⟩ [s, b, c]) w4 hB4 (by
    have := headTxt_len s b c (HIO.out s (by simp)) (HIO.out b (by simp)) (HIO.out c (by simp))
    have h2 : (headTxt s b c).length = (joinB ⟨#[116, 120, 110]⟩ [s, b, c]).size + 1 := by unfold headTxt joinB; simp [ByteArray.size]
    rw [List.length_nil]; omega))
  have HJ : Hid ((joinB ⟨#[116, 120, 110]⟩ [s, b, c]).data.toList ++ [10] = headTxt s b c) := Lib.hid (by unfold headTxt joinB; simp)
  clear hB1 hB4 hw2 hw3 hb4 hbb4 t3' HI HIO HSZ
  generalize joinB ⟨#[116, 120, 110]⟩ [s, b, c] = J at *
  go_wp2_with fail
  refine (CW.out).mono ?_
  rintro e w5 ⟨rfl, hB5, hb5⟩
  have hw5 := hw4.trans (hb5.mono (by omega))
  have t5 := (hb5.cell (p := ⟨w.heap.size, 3, none⟩) (by show w.heap.size < w.heap.size + 1; omega)).trans t4
  rw [List.nil_append] at hB5
  have hjl : Hid (J.data.toList.length + 1 = (headTxt s b c).length) := Lib.hid (by rw [← HJ.out]; simp)
  have CW2 := Lib.hid (write_any (w.heap.size + 1) (w.heap.size + 1) J.data.toList ⟨#[10]⟩ w5 hB5 (by have : (⟨#[10]⟩ : ByteArray).size = 1 := rfl; have := hjl.out; omega))
  clear CW hB5 hb5 hw4 t4
  go_wp2_with fail
  refine (CW2.out).mono ?_
  rintro e w6 ⟨rfl, hB6, hb6⟩
  have hw6 := hw5.trans (hb6.mono (by omega))
  have t6 := (hb6.cell (p := ⟨w.heap.size, 3, none⟩) (by show w.heap.size < w.heap.size + 1; omega)).trans t5
  rw [show J.data.toList ++ (⟨#[10]⟩ : ByteArray).data.toList = headTxt s b c from HJ.out] at hB6
  clear CW2 hb6 hw5 t5 HJ hjl
  have HT : Hid (txnTxt s b c l = ⟨(headTxt s b c ++ opsTxt l).toArray⟩) := Lib.hid rfl
  generalize headTxt s b c = T at *
  go_wp2_with fail
  go_loopw [19] (fun i wr => ∃ k : Nat, k ≤ l.length ∧ i = .int .i64 k ∧ Bld (w.heap.size + 1) (w.heap.size + 1) (T ++ opsTxt (l.take k)) wr ∧ Below w.heap.size w wr) (fun i _ => l.length - (intOf i).toNat)
  case atStart => exact ⟨0, by omega, rfl, by simpa [opsTxt] using hB6, hw6⟩
  case round =>
    obtain ⟨k, hk, rfl, hB, hbw⟩ := hrel
    clear hB6 hw6 t6
    by_cases hlt : k < l.length
    · have hki : (k : Int) < (l.length : Int) := by omega
      obtain ⟨g, o, hao, c0, c1, c2⟩ := (ha.below hbw).at hlt
      cases hao
      have HS := Lib.hid (opsTxt_succ l k hlt)
      have hlk := HL.out k hk
      have hox := HOK.out l[k] (List.getElem_mem hlt)
      have hts := textB_size l[k] hox
      generalize opsTxt (l.take k) = O at *
      generalize l[k] = x at *
      obtain ⟨xw, xk, xv⟩ := x
      try simp only at c0 c1 c2
      have hbx := hbw.alloc hbw.size (.cells #[.bool xw, .int .i64 xk, .int .i64 xv] 26)
      have CT := Lib.hid (text_ten xw xk xv _ (HEN.out _ hbx) hox.1 hox.2)
      have hBx := hB.grown ((Below.refl wr.heap.size wr).alloc (Nat.le_refl _) (.cells #[.bool xw, .int .i64 xk, .int .i64 xv] 26))
      generalize textB xw xk xv = t at *
      have htl := Lib.size_eq t
      clear hox hB hbw
      go_wp2_with fail
      refine (CT.out).mono ?_
      rintro e w7 ⟨rfl, hb7⟩
      have hw7 := below_then hbx hb7
      have hB7 := hBx.grown hb7
      have CW := Lib.hid (write_any (w.heap.size + 1) (w.heap.size + 1) (T ++ O) t w7 hB7 (by simp; omega))
      clear CT hBx hb7 hB7 hbx
      go_wp2_with fail
      refine (CW.out).mono ?_
      rintro e w8 ⟨rfl, hB8, hb8⟩
      have hw8 := hw7.trans (hb8.mono (by omega))
      have CW2 := Lib.hid (write_any (w.heap.size + 1) (w.heap.size + 1) (T ++ O ++ t.data.toList) ⟨#[10]⟩ w8 hB8 (by have : (⟨#[10]⟩ : ByteArray).size = 1 := rfl; simp; omega))
      clear CW hb8 hw7 hB8
      go_wp2_with fail
      refine (CW2.out).mono ?_
      rintro e w9 ⟨rfl, hB9, hb9⟩
      have hw9 := hw8.trans (hb9.mono (by omega))
      clear CW2 hb9 hw8
      go_wp2_with fail
      go_roundw
      case rel => exact ⟨k + 1, by omega, by go_num, by rw [HS.out]; simpa [List.append_assoc] using hB9, hw9⟩
      case measure => simp [intOf]; omega
    · have hkl : k = l.length := by omega
      subst hkl
      rw [List.take_length] at hB
      have CS := Lib.hid (bld_string (w.heap.size + 1) (w.heap.size + 1) _ wr hB)
      have HZ : Hid (txnTxt s b c l = ⟨(T ++ opsTxt l).toArray⟩) := Lib.hid HT.out
      clear hB
      go_wp2_with fail
      refine (CS.out).mono ?_
      rintro e w' ⟨rfl, hbs⟩
      rw [← HZ.out]
      go_wp2_with fail
      go_ret
      exact ⟨rfl, hbw.trans (hbs.mono (by omega))⟩
end Go.Proofs.YtlkdojcimlfmdaaDoor

namespace Go.Proofs.YtlkdojcimlfmdaaDoor
set_option maxRecDepth 100000
open Go.RowKit

/-- Transactions in words. -/
def prTxt (h : List TxnV) : List UInt8 := h.flatMap fun t => headTxt t.s t.b t.c ++ opsTxt t.l
theorem prTxt_succ (h : List TxnV) (k : Nat) (hk : k < h.length) : prTxt (h.take (k + 1)) = prTxt (h.take k) ++ (txnTxt h[k].s h[k].b h[k].c h[k].l).data.toList := by
  unfold prTxt; rw [List.take_succ_eq_append_getElem hk, List.flatMap_append]; simp [txnTxt]
theorem prTxt_len : ∀ (h : List TxnV), (∀ t ∈ h, t.ok ∧ t.l.length ≤ 100000) → (prTxt h).length ≤ 4600080 * h.length
  | [], _ => by simp [prTxt]
  | t :: h, hh => by
    have ih := prTxt_len h (fun u hu => hh u (List.mem_cons_of_mem _ hu))
    obtain ⟨⟨⟨h1, h2, h3⟩, h4⟩, h5⟩ := hh t List.mem_cons_self
    have a1 := headTxt_len t.s t.b t.c h1 h2 h3
    have a2 := opsTxt_len t.l h4
    unfold prTxt at *
    rw [List.flatMap_cons, List.length_append, List.length_append, List.length_cons]
    omega
set_option maxHeartbeats 8000000 in
theorem print_any (va : Value) (h : List TxnV) (w : World) (he : Ten w) (hT : Txns w va h) (hh : ∀ t ∈ h, t.ok ∧ t.l.length ≤ 100000) (hl : h.length ≤ 100000) :
    Calls Tryd.prog 18 #[va] w fun e w' => e = .returned (.string ⟨(prTxt h).toArray⟩) ∧ Below w.heap.size w w' := by
  obtain ⟨ao, cap, rfl, hal⟩ := hT.form
  have HT := Lib.hid (fun wx (hx : Below w.heap.size w wx) => hT.below hx)
  have HE := Lib.hid (fun wx (hx : Below w.heap.size w wx) => he.below hx)
  have HH := Lib.hid hh
  have HL : Hid (∀ k, k ≤ h.length → (prTxt (h.take k)).length ≤ 4600080 * k) := Lib.hid (fun k hk => by
    have := prTxt_len (h.take k) (fun t ht => hh t (List.mem_of_mem_take ht))
    rw [List.length_take, Nat.min_eq_left hk] at this; exact this)
  have hB0 := bld_new w
  have hb0 := box_below w (.cells #[.pointer none, .slice none 0 0] 67)
  clear he hT hh
  go_enter Tryd.func18, Tryd.ntmps18
  go_wp2_with fail
  go_loopw [8] (fun i wr => ∃ k : Nat, k ≤ h.length ∧ i = .int .i64 k ∧ Bld w.heap.size w.heap.size (prTxt (h.take k)) wr ∧ Below w.heap.size w wr) (fun i _ => h.length - (intOf i).toNat)
  case atStart => exact ⟨0, by omega, rfl, hB0, hb0⟩
  case round =>
    obtain ⟨k, hk, rfl, hB, hb⟩ := hrel
    clear hB0 hb0
    by_cases hlt : k < h.length
    · have hki : (k : Int) < (h.length : Int) := by omega
      obtain ⟨g, o, hao, c0, c1, c2, c3⟩ := (HT.out _ hb).at hlt
      cases hao
      have HS := Lib.hid (prTxt_succ h k hlt)
      have hll := HL.out k hk
      have HL1 := Lib.hid (HL.out (k + 1) hlt)
      have hOps := fun wx (hx : Below w.heap.size w wx) => (HT.out wx hx).ops hlt
      obtain ⟨⟨⟨i1, i2, i3⟩, i4⟩, i5⟩ := HH.out h[k] (List.getElem_mem hlt)
      generalize h[k] = t at *
      obtain ⟨s, b, cc, v, l⟩ := t
      simp only at c0 c1 c2 c3 hOps HS i1 i2 i3 i4 i5
      obtain ⟨ai, capi, rfl, _⟩ := (hOps wr hb).form
      have hbx := box_below wr (.cells #[.int .i64 s, .int .i64 b, .int .i64 cc, .slice ai l.length capi] 29)
      have hbb := hb.trans (hbx.mono hb.size)
      have hB1 := hB.grown hbx
      have CT := Lib.hid (ttext_any s b cc _ l _ (HE.out _ hbb) (hOps _ hbb) i4 i1 i2 i3 i5)
      have hts : (prTxt (h.take k)).length + (txnTxt s b cc l).size ≤ 140737488355328 := by
        have := HL1.out
        rw [HS.out, List.length_append] at this
        rw [Lib.size_eq]; omega
      clear hOps i1 i2 i3 i4 i5 hB
      generalize txnTxt s b cc l = T at *
      generalize prTxt (h.take k) = P at *
      go_wp2_with fail
      refine (CT.out).mono ?_
      rintro e w2 ⟨rfl, hb2⟩
      have hB2 := hB1.grown hb2
      have hb3 := hbb.trans (hb2.mono hbb.size)
      clear hB1 hb2 hbx hbb CT
      go_wp2_with fail
      refine (write_any _ _ P T w2 hB2 hts).mono ?_
      rintro e w3 ⟨rfl, hB3, hb4⟩
      have hb5 := hb3.trans hb4
      clear hB2 hb3 hb4
      go_wp2_with fail
      go_roundw
      case rel => exact ⟨k + 1, by omega, by go_num, by rw [HS.out]; exact hB3, hb5⟩
      case measure => simp [intOf]; omega
    · have hkl : k = h.length := by omega
      subst hkl
      rw [List.take_length] at hB
      go_wp2_with fail
      refine (bld_string _ _ _ _ hB).mono ?_
      rintro e w3 ⟨rfl, hb4⟩
      have hb5 := hb.trans hb4
      go_wp2_with fail
      go_ret
      exact ⟨rfl, hb5⟩
end Go.Proofs.YtlkdojcimlfmdaaDoor

namespace Go.Proofs.YtlkdojcimlfmdaaDoor
set_option maxRecDepth 100000
open Go.RowKit

def sp7a : ByteArray := ⟨#[116, 120, 110, 32, 48, 32, 49, 32, 50, 10, 119, 32, 51, 32, 53, 10]⟩
def sp7b : ByteArray := ⟨#[116, 120, 110, 32, 48, 32, 49, 32, 50, 10, 119, 32, 51, 10]⟩
def sp7H : List (Int × Int × Int × List OpV) := [(0, 1, 2, [⟨true, 3, 5⟩])]
theorem sp7a_run : runL (linesB sp7a) = some sp7H := by decide
theorem sp7a_end : endedB sp7a = true := by unfold endedB; rw [ByteArray.toList_eq]; decide
theorem sp7b_len : (linesB sp7b).length = 2 := by decide
theorem one_of {c : List TxnV} {a b d : Int} {l : List OpV} (h : c.map txE = [(a, b, d, l)]) : ∃ v, c = [⟨a, b, d, v, l⟩] := by
  match c, h with
  | [t], h =>
    obtain ⟨s, b', c', v, l'⟩ := t
    simp [txE] at h
    obtain ⟨rfl, rfl, rfl, rfl⟩ := h
    exact ⟨v, rfl⟩
theorem sp7_check (v : Value) : checkI [⟨0, 1, 2, v, [⟨true, 3, 5⟩]⟩] = 0 := by rfl
theorem sp7_print (v : Value) : (⟨(prTxt [⟨0, 1, 2, v, [⟨true, 3, 5⟩]⟩]).toArray⟩ : ByteArray) = sp7a := by
  unfold prTxt headTxt opsTxt textB joinB joinTo
  have e0 : Lib.itoa 0 = [48] := by rw [itoa_digit (by decide) (by decide)]; rfl
  have e1 : Lib.itoa 1 = [49] := by rw [itoa_digit (by decide) (by decide)]; rfl
  have e2 : Lib.itoa 2 = [50] := by rw [itoa_digit (by decide) (by decide)]; rfl
  have e3 : Lib.itoa 3 = [51] := by rw [itoa_digit (by decide) (by decide)]; rfl
  have e5 : Lib.itoa 5 = [53] := by rw [itoa_digit (by decide) (by decide)]; rfl
  simp only [List.flatMap_cons, List.flatMap_nil, e0, e1, e2, e3, e5]
  rfl
theorem sp7_parse (w : World) (he : Env w) :
    Calls Tryd.prog 15 #[.string sp7a] w fun e w' => ∃ v tv, e = .returned (.tuple #[v, .int .i64 0, .int .i64 0]) ∧ Made w' w.heap.size v [⟨0, 1, 2, tv, [⟨true, 3, 5⟩]⟩] ∧ Below w.heap.size w w' :=
  (sparse_any sp7a w he (by decide)).mono fun e w' ⟨hR, hb⟩ => by
    rcases hR with ⟨k, hk, _, hno, _⟩ | ⟨c, hrun, hR⟩
    · exfalso
      have hl : (linesB sp7a).length = 2 := by decide
      rw [hl] at hk
      match k, hk with
      | 0, _ => exact absurd hno (by decide)
      | 1, _ => exact absurd hno (by decide)
    · rw [sp7a_run] at hrun
      obtain ⟨tv, rfl⟩ := one_of (Option.some.inj hrun).symm
      rcases hR with ⟨h1, _⟩ | ⟨_, h1, _⟩ | ⟨_, _, v, rfl, hM⟩
      · rw [sp7a_end] at h1; cases h1
      · exact absurd (sp7_check tv) h1
      · exact ⟨v, tv, rfl, hM, hb⟩
theorem sp7_not (w : World) (he : Env w) :
    Calls Tryd.prog 15 #[.string sp7b] w fun e w' => e = .returned (.tuple #[.slice none 0 0, .int .i64 2, .int .i64 1]) ∧ Below w.heap.size w w' :=
  (sparse_any sp7b w he (by decide)).mono fun e w' ⟨hR, hb⟩ => by
    rcases hR with ⟨k, hk, _, hno, rfl⟩ | ⟨c, hrun, hR⟩
    · rw [sp7b_len] at hk
      match k, hk with
      | 0, _ => exact absurd hno (by decide)
      | 1, _ => exact ⟨rfl, hb⟩
    · exfalso
      have : runL (linesB sp7b) = none := by decide
      rw [this] at hrun; cases hrun
set_option maxHeartbeats 4000000 in
theorem speaks7_any (w : World) (he : Env w) :
    Calls Tryd.prog 14 #[] w fun e w' => e = .returned (.bool true) ∧ Below w.heap.size w w' := by
  have HE := Lib.hid (fun wx (hx : Below w.heap.size w wx) => he.below hx)
  have C1 := Lib.hid (sp7_parse w he)
  have C2 := Lib.hid (fun wx (hx : Below w.heap.size w wx) => sp7_not wx (HE.out wx hx))
  unfold sp7a at C1
  unfold sp7b at C2
  clear he
  go_enter Tryd.func14, Tryd.ntmps14
  go_wp2_with fail
  refine (C1.out).mono ?_
  rintro e w1 ⟨v, tv, rfl, hM, hb1⟩
  go_wp2_with fail
  refine (C2.out _ hb1).mono ?_
  rintro e w2 ⟨rfl, hb2⟩
  have hb3 := hb1.trans (hb2.mono hb1.size)
  have hM2 := hM.below hb2
  obtain ⟨av, cv, rfl, _⟩ := hM2.txns.form
  obtain ⟨g, o, hao, _, _, _, c3⟩ := hM2.txns.at (k := 0) (by simp)
  cases hao
  obtain ⟨ai, ci, hv, _⟩ := (hM2.txns.ops (k := 0) (by simp)).form
  simp at hv c3
  subst hv
  have CP := Lib.hid (print_any _ _ w2 (HE.out _ hb3).1 hM2.txns (by
    intro t ht
    obtain rfl := List.mem_singleton.1 ht
    refine ⟨⟨⟨?_, ?_, ?_⟩, ?_⟩, by simp⟩
    iterate 3 (simp [IntOk])
    intro x hx
    obtain rfl := List.mem_singleton.1 hx
    simp [OpV.ok, IntOk]) (by simp))
  rw [sp7_print] at CP
  unfold sp7a at CP
  clear C1 C2 hM hM2 hb1 hb2
  go_wp2_with fail
  refine (CP.out).mono ?_
  rintro e w3 ⟨rfl, hb4⟩
  have hb5 := hb3.trans (hb4.mono hb3.size)
  clear hb3 hb4 CP
  go_wp2_with fail
  go_ret
  exact ⟨rfl, hb5⟩
end Go.Proofs.YtlkdojcimlfmdaaDoor

namespace Go.Proofs.YtlkdojcimlfmdaaDoor
set_option maxRecDepth 100000
open Go.RowKit

theorem runL_stop {L : List ByteArray} {k : Nat} (h : runL (L.take k) = none) : runL L = none := by
  have : L = L.take k ++ L.drop k := (List.take_append_drop k L).symm
  rw [this]
  unfold runL at *
  rw [List.foldl_append, h]
  generalize L.drop k = M
  induction M with
  | nil => rfl
  | cons s M ih => rw [List.foldl_cons]; exact ih
end Go.Proofs.YtlkdojcimlfmdaaDoor

namespace Go.Proofs.YtlkdojcimlfmdaaDoor
set_option maxRecDepth 100000
open Go.RowKit

/-- A Builder that holds these bytes; the first of them may lie frozen. -/
def BldF (B b : Nat) (l : List UInt8) (w : World) : Prop := Lib.IsBuilderF 67 5 B b (Lib.byteCells l) w ∧ B ≤ w.heap.size
theorem lenF (B b : Nat) (l : List UInt8) (w : World) (h : BldF B b l w) :
    Calls Tryd.prog 41 #[.pointer (some ⟨b, 0, none⟩)] w fun e w' => e = .returned (.int .i64 l.length) ∧ w' = w := by
  have := Any.Builder_Len_f Tryd.lays170 B b (Lib.byteCells l) w h.1
  rwa [Lib.byteCells_length] at this
theorem stringF (B b : Nat) (l : List UInt8) (w : World) (h : BldF B b l w) :
    Calls Tryd.prog 35 #[.pointer (some ⟨b, 0, none⟩)] w fun e w' => e = .returned (.string ⟨l.toArray⟩) ∧ BldF B b l w' ∧ Below B w w' :=
  (Any.Builder_String_any_f Tryd.lays169 Tryd.Builder_Extra_169 B b l w h.1 h.2).mono fun _ _ ⟨h1, h2, h3⟩ => ⟨h1, ⟨h2, Nat.le_trans h.2 h3.size⟩, h3⟩
theorem copyF (B b : Nat) (l : List UInt8) (w : World) (h : BldF B b l w) :
    Calls Tryd.prog 58 #[.pointer (some ⟨b, 0, none⟩)] w fun e w' => e = .returned (.tuple #[]) ∧ Lib.BuilderAtF 67 5 B b (.pointer (some ⟨b, 0, none⟩)) (Lib.byteCells l) w' ∧ Below B w w' := by
  rcases h.1 with h1 | h1
  · refine (copy_fresh b w h1.cell0 h1.shape h1.frozen0).mono ?_
    rintro e w' ⟨rfl, rfl⟩
    exact ⟨rfl, h1.used _, (Below.refl _ _).setCell (p := ⟨b, 0, none⟩) h1.1 _⟩
  · refine (copy_used b w h1.cell0).mono ?_
    rintro e w' ⟨rfl, rfl⟩
    exact ⟨rfl, h1, Below.refl _ _⟩
set_option maxRecDepth 100000 in
set_option maxHeartbeats 1000000 in
theorem writeF (B b : Nat) (l : List UInt8) (s : ByteArray) (w : World) (h : BldF B b l w) (hlen : l.length + s.size ≤ 140737488355328) :
    Calls Tryd.prog 34 #[.pointer (some ⟨b, 0, none⟩), .string s] w fun e w' => e = .returned (.tuple #[.int .i64 s.size, .nilIface]) ∧ BldF B b (l ++ s.data.toList) w' ∧ Below B w w' := by
  obtain ⟨i0, hi, hz0, hz1, hz2⟩ := info_parts infoU8
  have hBw := h.2
  have hll : (Lib.byteCells l).length = l.length := Lib.byteCells_length l
  have C := Lib.hid (copyF B b l w h)
  clear h
  go_enter Tryd.func34, Tryd.ntmps34
  go_wp2_with fail
  refine (C.out).mono ?_
  rintro e w1 ⟨rfl, h1, hb1⟩
  have hlt := h1.lt
  obtain ⟨hB, v, hbk, hown, hne⟩ := h1
  have hsz := hb1.size
  have c0 : w1.cell? ⟨b, 0, none⟩ = some (.pointer (some ⟨b, 0, none⟩)) := by rw [Lib.cell_of_heap hbk]; rfl
  have c1 : w1.cell? ⟨b, 1, none⟩ = some v := by rw [Lib.cell_of_heap hbk]; rfl
  rw [hll] at hown
  have HBK := Lib.hid hbk
  clear hbk hll
  go_wp2_with (at_builtin; refine Lib.wpList_append_own_stringF _ rfl _ _ 65 9 rfl B 5 i0 Tryd.underlying65 Tryd.underlying9 hi hz0 hz1 hz2 _ _ _ rfl hown s rfl ?c3 ?c4 ?c5 ?_)
  case c3 => unfold maxLen; omega
  case c4 => omega
  case c5 => omega
  intro v' w2 hown' hgrow _
  have hb2 : w2.heap[b]? = some (.cells #[.pointer (some ⟨b, 0, none⟩), v] 67 (0, 0)) := by
    rw [hgrow.block b hlt (fun e => hne e.symm)]
    exact HBK.out
  have d0 : w2.cell? ⟨b, 0, none⟩ = some (.pointer (some ⟨b, 0, none⟩)) := by rw [Lib.cell_of_heap hb2]; rfl
  have d1 : w2.cell? ⟨b, 1, none⟩ = some v := by rw [Lib.cell_of_heap hb2]; rfl
  have f1 : w2.frozen? ⟨b, 1, none⟩ = false := Lib.frozen_of_heap hb2 1
  have HB2 := Lib.hid hb2
  clear hb2 c0 c1
  obtain ⟨ao, k, cap, rfl⟩ : ∃ ao k cap, v' = .slice ao k cap := by
    rcases hown'.2 with ⟨hv, _⟩ | ⟨g, cap, cur, fz, hv, _⟩
    · exact ⟨_, _, _, hv⟩
    · exact ⟨_, _, _, hv⟩
  go_wp2
  go_ret2
  refine ⟨rfl, ⟨.inr ?_, ?_⟩, ?_⟩
  · refine Lib.BuilderAtF.put hB HB2.out (bs' := Lib.byteCells (l ++ s.data.toList)) ?_ (by decide)
    rw [Lib.byteCells_append, ← strCells_bytes]
    simpa [Lib.strCells_length, Lib.byteCells_length] using hown'
  · have := hgrow.size; simp [World.setCell]; omega
  · exact (hb1.grown hgrow (by omega) (fun k hk => (hown.lt k hk).1)).setCell (p := ⟨b, 1, none⟩) hB _
end Go.Proofs.YtlkdojcimlfmdaaDoor

namespace Go.Proofs.YtlkdojcimlfmdaaDoor
set_option maxRecDepth 100000
open Go.RowKit

theorem run_min3 {P : Program} {w : World} (ts : Array TypeId) (t : TypeId) (x y z r : Int) (hr : r = if z < (if y < x then y else x) then z else (if y < x then y else x)) :
    (Builtin.min_ ts t #[.int .i64 x, .int .i64 y, .int .i64 z]).run P w = .ok (.int .i64 r) w := by
  subst hr
  simp [Builtin.min_, Builtin.min2]
set_option maxHeartbeats 4000000 in
theorem repeat_byte (c : UInt8) (h1 : ¬ (c.toNat : Int) = 32) (h2 : ¬ (c.toNat : Int) = 45) (h3 : ¬ (c.toNat : Int) = 48) (h4 : ¬ (c.toNat : Int) = 61) (h5 : ¬ (c.toNat : Int) = 9) (n : Nat) (hn : 8192 < n) (hn2 : n ≤ 2000000) (w : World) :
    Calls Tryd.prog 21 #[.string ⟨#[c]⟩, .int .i64 n] w fun e w' => e = .returned (.string ⟨(List.replicate n c).toArray⟩) ∧ Below w.heap.size w w' := by
  have HM : Hid (Calls Tryd.prog 38 #[.int .u64 1, .int .u64 n] w fun e w' => e = .returned (.tuple #[.int .u64 0, .int .u64 n]) ∧ w' = w) := Lib.hid (by
    have := Tryd.bits_Mul 1 n (by omega) (by omega) w
    rw [Nat.one_mul, Nat.div_eq_of_lt (by omega), Nat.mod_eq_of_lt (by omega)] at this
    exact this)
  have q0 : ¬ (n : Int) = 0 := by omega
  have q1 : ¬ (n : Int) = 1 := by omega
  have q2 : ¬ (n : Int) < 0 := by omega
  have q3 : (8192 : Int) < (n : Int) := by omega
  have q4 : ¬ (9223372036854775807 : Int) < (n : Int) := by omega
  have f1 : ((((⟨#[c]⟩ : ByteArray)[0]'(Nat.zero_lt_one)).toNat : Int) == 32) = false := by show ((c.toNat : Int) == 32) = false; simpa using h1
  have f2 : ((((⟨#[c]⟩ : ByteArray)[0]'(Nat.zero_lt_one)).toNat : Int) == 45) = false := by show ((c.toNat : Int) == 45) = false; simpa using h2
  have f3 : ((((⟨#[c]⟩ : ByteArray)[0]'(Nat.zero_lt_one)).toNat : Int) == 48) = false := by show ((c.toNat : Int) == 48) = false; simpa using h3
  have f4 : ((((⟨#[c]⟩ : ByteArray)[0]'(Nat.zero_lt_one)).toNat : Int) == 61) = false := by show ((c.toNat : Int) == 61) = false; simpa using h4
  have f5 : ((((⟨#[c]⟩ : ByteArray)[0]'(Nat.zero_lt_one)).toNat : Int) == 9) = false := by show ((c.toNat : Int) == 9) = false; simpa using h5
  clear h1 h2 h3 h4 h5
  go_enter Tryd.func21, Tryd.ntmps21
  go_wp2_with fail
  refine (HM.out).mono ?_
  rintro e w' ⟨rfl, hw⟩
  subst hw
  have b0 := box_below w' (.cells #[.pointer none, .slice none 0 0] 67)
  have hsz : (w'.alloc (.cells #[.pointer none, .slice none 0 0] 67)).heap.size = w'.heap.size + 1 := by simp
  have HG := Lib.hid (Tryd.Builder_Grow_fresh w'.heap.size w'.heap.size n (w'.alloc (.cells #[.pointer none, .slice none 0 0] 67)) (Nat.le_refl _) (heap_alloc_new w' _) b0.size (by omega))
  clear HM hsz
  go_wp2_with fail
  refine (HG.out).mono ?_
  rintro e w1 ⟨rfl, hB, hb1⟩
  have hB1 : BldF w'.heap.size w'.heap.size [] w1 := ⟨Lib.IsBuilderF.of (.inr hB), Nat.le_trans b0.size hb1.size⟩
  have hb1' := b0.trans hb1
  clear HG hB hb1 b0
  go_wp2_with fail
  refine (writeF _ _ [] ⟨#[c]⟩ w1 hB1 (by simp [ByteArray.size])).mono ?_
  rintro e w2 ⟨rfl, hB2, hb2⟩
  have hb2' := hb1'.trans hb2
  have hB2 : BldF w'.heap.size w'.heap.size (List.replicate 1 c) w2 := hB2
  clear hB1 hb1' hb2 f1 f2 f3 f4 f5
  go_wp2_with fail
  go_loopg [] (n - 1) (fun g wx => ∃ m : Nat, 1 ≤ m ∧ m + g = n ∧ BldF w'.heap.size w'.heap.size (List.replicate m c) wx ∧ Below w'.heap.size w' wx)
  case atStart => exact ⟨1, Nat.le_refl _, by omega, hB2, hb2'⟩
  case round =>
    obtain ⟨m, hm1, hmg, hB, hb⟩ := hrel
    clear hB2 hb2'
    have CL := lenF _ _ _ wr hB
    rw [List.length_replicate] at CL
    have CS := stringF _ _ _ wr hB
    cases gk with
    | zero =>
      obtain rfl : m = n := by omega
      have hmn : ¬ (m : Int) < (m : Int) := by omega
      go_wp2_with fail
      refine CL.mono ?_
      rintro e w3 ⟨rfl, hw⟩
      subst hw
      go_wp2_with fail
      refine CS.mono ?_
      rintro e w4 ⟨rfl, _, hb4⟩
      have hb5 := hb.trans hb4
      go_wp2_with fail
      go_ret
      exact ⟨rfl, hb5⟩
    | succ g =>
      have hmn : (m : Int) < (n : Int) := by omega
      obtain ⟨k, hk1, hkm, hkn, hmin⟩ : ∃ k : Nat, 1 ≤ k ∧ k ≤ m ∧ m + k ≤ n ∧ ∀ (ts : Array TypeId) (t : TypeId) (W : World), (Builtin.min_ ts t #[.int .i64 ((n : Int) - (m : Int)), .int .i64 (m : Int), .int .i64 8192]).run Tryd.prog W = .ok (.int .i64 (k : Int)) W :=
        ⟨min (n - m) (min m 8192), by omega, by omega, by omega, fun ts t W => run_min3 ts t _ _ _ _ (by split <;> split <;> omega)⟩
      go_wp2_with fail
      refine CL.mono ?_
      rintro e w3 ⟨rfl, hw⟩
      subst hw
      go_wp2_with fail
      refine CL.mono ?_
      rintro e w3 ⟨rfl, hw⟩
      subst hw
      go_wp2_with fail
      refine CL.mono ?_
      rintro e w3 ⟨rfl, hw⟩
      subst hw
      go_wp2_with fail
      refine CS.mono ?_
      rintro e w4 ⟨rfl, hB4, hb4⟩
      have hb4' := hb.trans hb4
      obtain ⟨S, hS⟩ : ∃ S : ByteArray, (⟨(List.replicate m c).toArray⟩ : ByteArray) = S := ⟨_, rfl⟩
      have hSd : S.data.toList = List.replicate m c := by rw [← hS]
      have hSz : S.size = m := by rw [Lib.size_eq, hSd, List.length_replicate]
      have hkS : (k : Int) ≤ (S.size : Int) := by rw [hSz]; omega
      have hk0 : (0 : Int) ≤ (k : Int) := by omega
      have CW := Lib.hid (writeF _ _ _ (S.extract 0 k) w4 hB4 (by
        rw [List.length_replicate, Lib.size_eq, Lib.extract_data, hSd]
        simp
        omega))
      have hx : (S.extract 0 k).data.toList = List.replicate k c := by
        rw [Lib.extract_data, hSd]
        simp
        omega
      rw [hx, List.replicate_append_replicate] at CW
      rw [hS]
      clear hS hSd hx hB CL CS hB4
      go_wp2_with fail
      refine (CW.out).mono ?_
      rintro e w5 ⟨rfl, hB5, hb5⟩
      have hb5' := hb4'.trans hb5
      clear CW
      go_wp2_with fail
      go_roundg (n - (m + k))
      case measure => omega
      case rel => exact ⟨m + k, by omega, by omega, hB5, hb5'⟩
end Go.Proofs.YtlkdojcimlfmdaaDoor

namespace Go.Proofs.YtlkdojcimlfmdaaDoor
set_option maxRecDepth 100000
open Go.RowKit

theorem split_big (s : ByteArray) (c : UInt8) (w : World) (he : Env w) (hs : s.size ≤ 2000000) :
    Calls Tryd.prog 48 #[.string s, .string ⟨#[c]⟩] w fun e w' => e = .returned (.slice (some ⟨w.heap.size, 0, none⟩) (cutB c s).length (cutB c s).length) ∧ w' = w.alloc (.cells ((cutB c s).map Value.string).toArray 9) := by
  obtain ⟨_, m, hm⟩ := he
  refine (Tryd.strings_Split s ⟨#[c]⟩ m w (by omega) hm (Nat.le_refl 1)).mono fun e w' ⟨he, hw⟩ => ?_
  rw [countB_cut, ← cutB_length] at he
  rw [splitB_cut] at hw
  exact ⟨he, hw⟩
set_option maxHeartbeats 1000000 in
theorem lines_big (s : ByteArray) (w : World) (he : Env w) (hs : s.size ≤ 2000000) :
    Calls Tryd.prog 26 #[.string s] w fun e w' => ∃ v, e = .returned (.tuple #[v, .bool (endedB s)]) ∧ Strs w' v (linesB s) ∧ Below w.heap.size w w' := by
  have CS := Lib.hid (split_big s 10 w he hs)
  obtain ⟨hl1, hl2⟩ := cut_len_le 10 s
  have hS := strs_lit w (cutB 10 s) (by unfold maxLen; omega)
  have hb := (Below.refl w.heap.size w).alloc (Nat.le_refl _) (.cells ((cutB 10 s).map Value.string).toArray 9)
  have HL : Hid (linesB s = (cutB 10 s).dropLast ∧ endedB s = ((cutB 10 s).getLastD ⟨#[]⟩).toList.isEmpty) := Lib.hid ⟨rfl, rfl⟩
  generalize cutB 10 s = P at *
  obtain ⟨n, hn⟩ : ∃ n, P.length = n + 1 := ⟨P.length - 1, by omega⟩
  have hnl : n < P.length := by omega
  rw [hn] at hS CS
  obtain ⟨b, off, hao, hc⟩ := hS.at (k := n) hnl
  cases hao
  rw [Nat.zero_add] at hc
  have HQ := Lib.hid (last_at hn hnl)
  have HS := Lib.hid hS.cut
  clear hS hl2
  generalize P[n] = q at *
  have hnb : (n : Int) ≤ 3000000 := by omega
  clear hn hnl hl1 he hs
  go_enter Tryd.func26, Tryd.ntmps26
  go_wp2_with fail
  refine (CS.out).mono ?_
  rintro e w' ⟨rfl, rfl⟩
  generalize w.alloc (.cells (P.map Value.string).toArray 9) = w1 at *
  clear CS
  go_wp2_with fail
  go_quiet (fail)
  go_wp2_with fail
  go_ret2
  exact ⟨_, ret_vb (by rw [HL.out.2, HQ.out]), by rw [HL.out.1]; exact Row.drewN HS.out _, below_drewN hb _⟩
theorem parse_over (s : ByteArray) (w : World) (hs : 1048576 < s.size) :
    Calls Tryd.prog 15 #[.string s] w fun e w' => e = .returned (.tuple #[.slice none 0 0, .int .i64 0, .int .i64 6]) ∧ Below w.heap.size w w' := by
  have hsz : (1048576 : Int) < (s.size : Int) := by omega
  clear hs
  go_enter Tryd.func15, Tryd.ntmps15
  go_wp2_with fail
  go_ret3
  exact ⟨rfl, Below.refl _ _⟩
theorem cut_tens : ∀ n : Nat, cutL 10 (List.replicate n 10) = List.replicate (n + 1) []
  | 0 => rfl
  | n + 1 => by rw [List.replicate_succ, cutL, if_pos rfl, cut_tens n]; rfl
theorem lines_tens (n : Nat) : linesB ⟨(List.replicate n 10).toArray⟩ = List.replicate n ⟨#[]⟩ := by
  unfold linesB cutB
  have e : (⟨(List.replicate n (10 : UInt8)).toArray⟩ : ByteArray).data.toList = List.replicate n 10 := by simp
  rw [e, cut_tens, List.map_replicate, List.replicate_succ', List.dropLast_concat]
set_option maxHeartbeats 4000000 in
theorem parse_tens (s : ByteArray) (n : Nat) (hz : s.size = n) (hl : linesB s = List.replicate n ⟨#[]⟩) (h1 : 1 ≤ n) (h2 : n ≤ 1048576) (w : World) (he : Env w) :
    Calls Tryd.prog 15 #[.string s] w fun e w' => e = .returned (.tuple #[.slice none 0 0, .int .i64 1, .int .i64 1]) ∧ Below w.heap.size w w' := by
  have HE := Lib.hid (fun wx (hx : Below w.heap.size w wx) => he.below hx)
  have CL := Lib.hid (lines_big s w he (by omega))
  rw [hl] at CL
  have hsz : ¬ (1048576 : Int) < (s.size : Int) := by omega
  have HSL : Hid (∀ wx v, Below w.heap.size w wx → Strs wx v (List.replicate n ⟨#[]⟩) → Calls Tryd.prog 27 #[v] wx fun e w' => e = .returned (.tuple #[.slice none 0 0, .int .i64 1]) ∧ Below wx.heap.size wx w') := Lib.hid (fun wx v hx hS => by
    refine (slines_any v _ wx (HE.out _ hx) hS (fun s hs => by rw [List.eq_of_mem_replicate hs]; decide) (by rw [List.length_replicate]; omega)).mono ?_
    rintro e w' ⟨hR, hb⟩
    have hone : runL ((List.replicate n (⟨#[]⟩ : ByteArray)).take (0 + 1)) = none := by
      rw [List.take_replicate, Nat.min_eq_left (by omega)]
      decide
    rcases hR with ⟨_, c, _, hrun, _⟩ | ⟨k, hk, rfl, hH, hno⟩
    · rw [runL_stop hone] at hrun; cases hrun
    · have : k = 0 := by
        rcases Nat.eq_zero_or_pos k with q | q
        · exact q
        · obtain ⟨H, hH⟩ := hH
          have e1 : (List.replicate n (⟨#[]⟩ : ByteArray)).take (0 + 1) = ((List.replicate n (⟨#[]⟩ : ByteArray)).take k).take (0 + 1) := by rw [List.take_take, Nat.min_eq_left (by omega)]
          rw [e1] at hone
          rw [runL_stop hone] at hH
          cases hH
      subst this
      exact ⟨rfl, hb⟩)
  generalize List.replicate n (⟨#[]⟩ : ByteArray) = LL at *
  clear hz he hl h1 h2
  go_enter Tryd.func15, Tryd.ntmps15
  go_wp2_with fail
  refine (CL.out).mono ?_
  rintro e w1 ⟨v, rfl, hS, hb1⟩
  have CS := Lib.hid (HSL.out _ _ hb1 hS)
  obtain ⟨av, cv, rfl, _⟩ := hS.form
  clear CL hS HSL
  go_wp2_with fail
  refine (CS.out).mono ?_
  rintro e w2 ⟨rfl, hb2⟩
  have hb3 := hb1.trans (hb2.mono hb1.size)
  clear CS
  go_wp2_with fail
  go_ret3
  exact ⟨rfl, hb3⟩
set_option maxHeartbeats 4000000 in
theorem long7_walk (t : ByteArray) (y : Int) (w : World) (he : Env w) (hy : 0 ≤ y ∧ y ≤ 255) :
    Calls Tryd.prog 6 #[.string t, .int .u8 y] w fun e w' => e = .returned (.bool true) ∧ Below w.heap.size w w' := by
  have HE := Lib.hid (fun wx (hx : Below w.heap.size w wx) => he.below hx)
  have CS := Lib.hid (speaks7_any w he)
  clear he
  go_enter Tryd.func6, Tryd.ntmps6
  go_wp2_with fail
  refine (CS.out).mono ?_
  rintro e w1 ⟨rfl, hb1⟩
  clear CS
  by_cases hbig : 1000 < t.size
  · have hbig' : (1000 : Int) < (t.size : Int) := by omega
    go_wp2_with fail
    go_ret
    exact ⟨rfl, hb1⟩
  have hbig' : ¬ (1000 : Int) < (t.size : Int) := by omega
  by_cases hy3 : 3 < y
  · go_wp2_with fail
    go_ret
    exact ⟨rfl, hb1⟩
  obtain ⟨n, hn⟩ : ∃ n : Nat, (n : Int) = 1048577 - (t.size : Int) + y := ⟨(1048577 - (t.size : Int) + y).toNat, by omega⟩
  have hwy : IntKind.i64.wrap y = y := by rw [IntKind.wrap_i64]; omega
  have hw1 : wrap64 (1048577 - (t.size : Int)) = 1048577 - (t.size : Int) := wrap64_small (by omega) (by omega)
  have hw2 : wrap64 (1048577 - (t.size : Int) + y) = (n : Int) := by rw [← hn]; exact wrap64_small (by omega) (by omega)
  have C1 := Lib.hid (fun wx => repeat_byte 120 (by decide) (by decide) (by decide) (by decide) (by decide) n (by omega) (by omega) wx)
  obtain ⟨T, hT⟩ : ∃ T : ByteArray, (⟨(List.replicate n (120 : UInt8)).toArray⟩ : ByteArray) = T := ⟨_, rfl⟩
  have hTz : T.size = n := by rw [← hT]; simp [ByteArray.size]
  rw [hT] at C1
  rw [hn] at C1
  have hcat : ¬ 9223372036854775807 < T.size + t.size := by omega
  have hsz : (T ++ t).size = T.size + t.size := by simp [ByteArray.size_append]
  have CO := Lib.hid (fun wx => parse_over (T ++ t) wx (by omega))
  obtain ⟨N, hN⟩ : ∃ N : Nat, N = 1048576 := ⟨_, rfl⟩
  have hNi : (N : Int) = 1048576 := by omega
  have C2 := Lib.hid (fun wx => repeat_byte 10 (by decide) (by decide) (by decide) (by decide) (by decide) N (by omega) (by omega) wx)
  have hU1 : (⟨(List.replicate N (10 : UInt8)).toArray⟩ : ByteArray).size = N := by simp [ByteArray.size]
  have hU2 := lines_tens N
  rw [hNi] at C2
  obtain ⟨U, hU⟩ : ∃ U : ByteArray, (⟨(List.replicate N (10 : UInt8)).toArray⟩ : ByteArray) = U := ⟨_, rfl⟩
  rw [hU] at C2 hU1 hU2
  have C3 := Lib.hid (fun wx (hx : Below w.heap.size w wx) => parse_tens U N hU1 hU2 (by omega) (by omega) wx (HE.out _ hx))
  clear hU hU1 hU2 hT hTz hsz hN hNi hn hbig
  go_wp2_with fail
  refine (C1.out _).mono ?_
  rintro e w2 ⟨rfl, hb2⟩
  have hb3 := hb1.trans (hb2.mono hb1.size)
  clear C1 hb1 hb2
  go_wp2_with fail
  refine (CO.out _).mono ?_
  rintro e w3 ⟨rfl, hb2⟩
  have hb4 := hb3.trans (hb2.mono hb3.size)
  clear CO hb3 hb2
  go_wp2_with fail
  refine (C2.out _).mono ?_
  rintro e w4 ⟨rfl, hb2⟩
  have hb5 := hb4.trans (hb2.mono hb4.size)
  have C4 := Lib.hid (C3.out _ hb5)
  clear C2 C3 hb4 hb2
  go_wp2_with fail
  refine (C4.out).mono ?_
  rintro e w5 ⟨rfl, hb2⟩
  have hb6 := hb5.trans (hb2.mono hb5.size)
  clear C4 hb5 hb2
  go_wp2_with fail
  go_ret
  exact ⟨rfl, hb6⟩
end Go.Proofs.YtlkdojcimlfmdaaDoor
