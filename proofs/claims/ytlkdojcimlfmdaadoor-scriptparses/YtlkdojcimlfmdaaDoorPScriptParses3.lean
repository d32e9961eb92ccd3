/- Walks and plain facts that the proof of the statement ScriptParses uses, joined: ScrI ScrJ ScrD ScrK TxnN ScrE ScrF OpC OpD OpE OpF OpG OpH OpI ScrG ScrH ScrL. Conditions: each theorem's own. -/
import Derived.Laws.StructEq
import Derived.Deep.RegionHeld3
import Derived.StillTailTactics
import Derived.Test.YtlkdojcimlfmdaaDoorPScriptParses0
import Derived.Test.YtlkdojcimlfmdaaDoorPScriptParses1
import Derived.Test.YtlkdojcimlfmdaaDoorPScriptParses2
namespace Go.Proofs.YtlkdojcimlfmdaaDoor
set_option maxRecDepth 100000
open Go.RowKit

def opRV (r : Bool × OpV) : Value := .tuple #[.agg #[.bool r.2.wr, .int .i64 r.2.key, .int .i64 r.2.val], .bool r.1]
set_option maxHeartbeats 4000000 in
theorem opOf_any (s : ByteArray) (w : World) (hs : s.size ≤ 100000) :
    Calls Tryd.prog 57 #[.string s] w fun e w' => e = .returned (opRV (parseR s)) ∧ Below w.heap.size w w' := by
  have hb0 := box_below w (.cells #[.bool false, .int .i64 0, .int .i64 0] 26)
  cases h : wordsOK s 2
  · have CW := Lib.hid (fun wx => rwords_isnt s 2 wx hs (by decide) (by decide) h)
    have HR := Lib.hid (parseR_no h)
    clear hs h
    go_enter Tryd.func57, Tryd.ntmps57
    go_wp2_with fail
    refine (CW.out _).mono ?_
    rintro e w1 ⟨rfl, hb1⟩
    obtain ⟨⟨c0, c1, c2⟩, f0, f1, f2⟩ := op_cells (by simpa using hb1)
    have hb2 := hb0.trans (hb1.mono (by simp))
    go_wp2_with fail
    obtain ⟨d0, d1, d2⟩ := put_three (.bool false) (.int .i64 0) (.int .i64 0) c0 c1 c2
    have hb3 := below_three (.bool false) (.int .i64 0) (.int .i64 0) hb2 (Nat.le_refl _)
    generalize World.setCell _ _ _ = w5 at *
    refine bodyPost_ret (v := .tuple #[.agg #[.bool false, .int .i64 0, .int .i64 0], .bool false]) (by simp [results, Tryd.results57, go_sem, d0, d1, d2]) rfl ⟨?_, hb3⟩
    rw [HR.out]; rfl
  · have CW := Lib.hid (fun wx => rwords_is s 2 wx hs (by decide) (by decide) h)
    obtain ⟨a, b, hab, ⟨ha0, ha1⟩, hb0', hb1'⟩ := nums_two h
    have HR := Lib.hid (parseR_at h hab)
    rw [hab] at CW
    have HW : Hid (isW s = decide ((headB s).data.toList = [119])) := Lib.hid rfl
    have HRd : Hid (isRd s = decide ((headB s).data.toList = [114])) := Lib.hid rfl
    generalize isW s = iw at *
    generalize isRd s = ir at *
    generalize headB s = p at *
    generalize parseR s = R at *
    clear hs h hab
    go_enter Tryd.func57, Tryd.ntmps57
    go_wp2_with fail
    refine (CW.out _).mono ?_
    rintro e w1 ⟨v, rfl, hI, hb1⟩
    obtain ⟨⟨c0, c1, c2⟩, f0, f1, f2⟩ := op_cells (by simpa using hb1)
    have hb2 := hb0.trans (hb1.mono (by simp))
    obtain ⟨ao, cap, rfl, _⟩ := hI.form
    obtain ⟨g, o, hg, k0⟩ := hI.at (k := 0) (by simp)
    subst hg
    obtain ⟨g', o', hg', k1⟩ := hI.at (k := 1) (by simp)
    cases hg'
    change w1.cell? ⟨g, o + 0, none⟩ = some (.int .i64 a) at k0
    rw [Nat.add_zero] at k0
    change w1.cell? ⟨g, o + 1, none⟩ = some (.int .i64 b) at k1
    have key : ∀ (wr : Bool), (p.toList == [119]) = wr → (p.toList = [114] ∨ p.toList = [119]) → Hid (R = if mayO ⟨wr, a, b⟩ then (true, ⟨wr, a, b⟩) else (false, opZ)) := by
      intro wr h1 h2
      refine Lib.hid ?_
      rw [HR.out]
      have e1 : iw = wr := by
        rw [HW.out, ← h1, ← ByteArray.toList_eq, Bool.eq_iff_iff]; simp
      have e2 : (iw || ir) = true := by
        rw [HW.out, HRd.out, ← ByteArray.toList_eq]
        rcases h2 with h2 | h2 <;> simp [h2]
      rw [e2, e1, Bool.true_and]
    by_cases hr : p.toList = [114]
    · have HK := key false (by rw [hr]; rfl) (.inl hr)
      have q1 : (p.toList == [119]) = false := by rw [hr]; rfl
      clear key HR HW HRd CW hI
      by_cases ha : (63 : Int) < a
      · have H : Hid (R = (false, opZ)) := Lib.hid (by
          rw [HK.out]
          cases hm : mayO ⟨false, a, b⟩
          · rfl
          · have := (mayO_iff _).1 hm; simp at this; omega)
        clear HK
        go_wp2_with fail
        obtain ⟨d0, d1, d2⟩ := put_three (.bool false) (.int .i64 0) (.int .i64 0) c0 c1 c2
        have hb3 := below_three (.bool false) (.int .i64 0) (.int .i64 0) hb2 (Nat.le_refl _)
        generalize World.setCell _ _ _ = w5 at *
        refine bodyPost_ret (v := .tuple #[.agg #[.bool false, .int .i64 0, .int .i64 0], .bool false]) (by simp [results, Tryd.results57, go_sem, d0, d1, d2]) rfl ⟨?_, hb3⟩
        rw [H.out]; rfl
      · have H : Hid (R = (true, ⟨false, a, b⟩)) := Lib.hid (by
          rw [HK.out, if_pos]
          exact (mayO_iff _).2 ⟨⟨ha0, by simp; omega⟩, ⟨hb0', hb1'⟩, fun h => by cases h⟩)
        clear HK
        go_wp2_with fail
        go_still_tail 9, (by kernel_rfl)
        go_wp2_with fail
        obtain ⟨d0, d1, d2⟩ := put_three (.bool false) (.int .i64 a) (.int .i64 b) c0 c1 c2
        have hb3 := below_three (.bool false) (.int .i64 a) (.int .i64 b) hb2 (Nat.le_refl _)
        generalize World.setCell _ _ _ = w5 at *
        refine bodyPost_ret (v := .tuple #[.agg #[.bool false, .int .i64 a, .int .i64 b], .bool true]) (by simp [results, Tryd.results57, go_sem, d0, d1, d2]) rfl ⟨?_, hb3.drew⟩
        rw [H.out]; rfl
    by_cases hw : p.toList = [119]
    · have HK := key true (by rw [hw]; rfl) (.inr hw)
      have q1 : (p.toList == [114]) = false := by rw [hw]; rfl
      clear key HR HW HRd CW hI
      by_cases ha : (63 : Int) < a
      · have H : Hid (R = (false, opZ)) := Lib.hid (by
          rw [HK.out]
          cases hm : mayO ⟨true, a, b⟩
          · rfl
          · have := (mayO_iff _).1 hm; simp at this; omega)
        clear HK
        go_wp2_with fail
        obtain ⟨d0, d1, d2⟩ := put_three (.bool false) (.int .i64 0) (.int .i64 0) c0 c1 c2
        have hb3 := below_three (.bool false) (.int .i64 0) (.int .i64 0) hb2 (Nat.le_refl _)
        generalize World.setCell _ _ _ = w5 at *
        refine bodyPost_ret (v := .tuple #[.agg #[.bool false, .int .i64 0, .int .i64 0], .bool false]) (by simp [results, Tryd.results57, go_sem, d0, d1, d2]) rfl ⟨?_, hb3⟩
        rw [H.out]; rfl
      by_cases hbz : b = 0
      · have H : Hid (R = (false, opZ)) := Lib.hid (by
          rw [HK.out]
          cases hm : mayO ⟨true, a, b⟩
          · rfl
          · have := (mayO_iff _).1 hm; simp at this; omega)
        subst hbz
        clear HK
        go_wp2_with fail
        obtain ⟨d0, d1, d2⟩ := put_three (.bool false) (.int .i64 0) (.int .i64 0) c0 c1 c2
        have hb3 := below_three (.bool false) (.int .i64 0) (.int .i64 0) hb2 (Nat.le_refl _)
        generalize World.setCell _ _ _ = w5 at *
        refine bodyPost_ret (v := .tuple #[.agg #[.bool false, .int .i64 0, .int .i64 0], .bool false]) (by simp [results, Tryd.results57, go_sem, d0, d1, d2]) rfl ⟨?_, hb3⟩
        rw [H.out]; rfl
      · have H : Hid (R = (true, ⟨true, a, b⟩)) := Lib.hid (by
          rw [HK.out, if_pos]
          exact (mayO_iff _).2 ⟨⟨ha0, by simp; omega⟩, ⟨hb0', hb1'⟩, fun _ => hbz⟩)
        have hbz' : (b == 0) = false := by simp [hbz]
        clear HK
        go_wp2_with fail
        go_still_tail 9, (by kernel_rfl)
        go_wp2_with fail
        obtain ⟨d0, d1, d2⟩ := put_three (.bool true) (.int .i64 a) (.int .i64 b) c0 c1 c2
        have hb3 := below_three (.bool true) (.int .i64 a) (.int .i64 b) hb2 (Nat.le_refl _)
        generalize World.setCell _ _ _ = w5 at *
        refine bodyPost_ret (v := .tuple #[.agg #[.bool true, .int .i64 a, .int .i64 b], .bool true]) (by simp [results, Tryd.results57, go_sem, d0, d1, d2]) rfl ⟨?_, hb3.drew⟩
        rw [H.out]; rfl
    · have HK : Hid (R = (false, opZ)) := Lib.hid (by
        rw [HR.out]
        have e1 : iw = false := by rw [HW.out, ← ByteArray.toList_eq]; simp [hw]
        have e2 : ir = false := by rw [HRd.out, ← ByteArray.toList_eq]; simp [hr]
        rw [e1, e2]; rfl)
      have b1 : (p.toList == [114]) = false := by simp [hr]
      have b2 : (p.toList == [119]) = false := by simp [hw]
      clear key HR HW HRd CW hI
      go_wp2_with fail
      obtain ⟨d0, d1, d2⟩ := put_three (.bool false) (.int .i64 0) (.int .i64 0) c0 c1 c2
      have hb6 := below_three (.bool false) (.int .i64 0) (.int .i64 0) hb2 (Nat.le_refl _)
      generalize World.setCell _ _ _ = w5 at *
      refine bodyPost_ret (v := .tuple #[.agg #[.bool false, .int .i64 0, .int .i64 0], .bool false]) (by simp [results, Tryd.results57, go_sem, d0, d1, d2]) rfl ⟨?_, hb6⟩
      rw [HK.out]; rfl
end Go.Proofs.YtlkdojcimlfmdaaDoor

namespace Go.Proofs.YtlkdojcimlfmdaaDoor
set_option maxRecDepth 100000
open Go.RowKit

/-- Behind the appends: the box of a transaction whose operations are one more. -/
def Tail8 (q : Nat) (ts tb tc : Int) (tl : List OpV) (o : OpV) (w4 wx : World) : Prop := ∃ a8 c8, wx.cell? ⟨q, 0, none⟩ = some (.int .i64 ts) ∧ wx.cell? ⟨q, 1, none⟩ = some (.int .i64 tb) ∧ wx.cell? ⟨q, 2, none⟩ = some (.int .i64 tc) ∧ wx.cell? ⟨q, 3, none⟩ = some (.slice a8 (tl.length + 1) c8) ∧ Own wx q (.slice a8 (tl.length + 1) c8) (tl ++ [o]) ∧ Below q w4 wx
set_option maxHeartbeats 16000000 in
theorem rlines_any (va : Value) (L : List ByteArray) (w : World) (ha : Strs w va L) (hs : ∀ s ∈ L, s.size ≤ 100000) (hL : L.length ≤ 2000000) :
    Calls Tryd.prog 30 #[va] w fun e w' => LinesRes L w.heap.size w' e ∧ Below w.heap.size w w' := by
  obtain ⟨i0, hi, hz0, hz1, hz2⟩ := info_parts infoTxn
  obtain ⟨i1, hj, hy0, hy1, hy2⟩ := info_parts infoOp
  obtain ⟨ao, cap, rfl, ⟨hal, hcl⟩, _⟩ := ha.form
  have HS := Lib.hid hs
  clear hs
  have hb0 := box_below w (.cells #[] 29)
  have hM0 : Made (w.alloc (.cells #[] 29)) w.heap.size (.slice (some ⟨w.heap.size, 0, none⟩) 0 0) [] := ⟨World.ownsRow_made w #[] 0 (Nat.le_refl _) (by decide) rfl, by simp, List.Pairwise.nil⟩
  go_enter Tryd.func30, Tryd.ntmps30
  go_wp2_with fail
  go_loopw [4, 5] (fun hv i wr => ∃ (k : Nat) (c : List TxnV), k ≤ L.length ∧ i = .int .i64 k ∧ runL (L.take k) = some (c.map txE) ∧ Made wr w.heap.size hv c ∧ c.length ≤ k ∧ (∀ t ∈ c, t.l.length ≤ k) ∧ Below w.heap.size w wr) (fun _ i _ => L.length - (intOf i).toNat)
  case atStart => exact ⟨0, [], by omega, rfl, rfl, hM0, Nat.le_refl _, by simp, hb0⟩
  case round =>
    obtain ⟨k, c, hk, rfl, hrun, hM, hc1, hc2, hb⟩ := hrel
    clear hM0 hb0
    by_cases hlt : k < L.length
    · have hki : (k : Int) < (L.length : Int) := by omega
      obtain ⟨g, o, hao, c0⟩ := (ha.below hb).at hlt
      cases hao
      have hAT := Lib.hid (fun wx (hx : Below w.heap.size w wx) => (ha.below hx).at hlt)
      have HA := Lib.hid (runL_at hlt hrun)
      have hsl := HS.out _ (List.getElem_mem hlt)
      have CP := Lib.hid (fun wx => opOf_any L[k] wx hsl)
      have CW1 : Hid (wordsOK L[k] 3 = true → ∀ wx, Calls Tryd.prog 56 #[.string L[k], .int .i64 3] wx fun e w' => ∃ v, e = .returned (.tuple #[.string (headB L[k]), v, .bool true]) ∧ Ints w' v (numsOf L[k]) ∧ Below wx.heap.size wx w') := Lib.hid (fun h wx => rwords_is L[k] 3 wx hsl (by decide) (by decide) h)
      have CW0 : Hid (wordsOK L[k] 3 = false → ∀ wx, Calls Tryd.prog 56 #[.string L[k], .int .i64 3] wx fun e w' => e = .returned (.tuple #[.string ⟨#[]⟩, .slice none 0 0, .bool false]) ∧ Below wx.heap.size wx w') := Lib.hid (fun h wx => rwords_isnt L[k] 3 wx hsl (by decide) (by decide) h)
      have HN3 := Lib.hid (fun (h : wordsOK L[k] 3 = true) => nums_three h)
      have HBA := Lib.hid (fun (h : (wordsOK L[k] 3 && isT L[k]) = true) a b d hn => begR_at h (a := a) (b := b) (c := d) hn)
      have HBN := Lib.hid (fun (h : (wordsOK L[k] 3 && isT L[k]) = false) => begR_no h)
      have HIT : Hid (isT L[k] = decide ((headB L[k]).data.toList = [116, 120, 110])) := Lib.hid rfl
      have HNO : Hid (∀ r, begR L[k] = (false, r) → c = [] → runL (L.take (k + 1)) = none) := Lib.hid (fun r h1 h2 => by rw [HA.out, h2]; exact stepL_nil h1)
      have HNO2 : Hid (∀ r o, begR L[k] = (false, r) → parseR L[k] = (false, o) → runL (L.take (k + 1)) = none) := Lib.hid (fun r o h1 h2 => by rw [HA.out]; exact stepL_no h1 h2)
      have HBG : Hid (∀ a b d, begR L[k] = (true, a, b, d) → runL (L.take (k + 1)) = some ((c ++ [TxnV.mk a b d (.slice none 0 0) []]).map txE)) := Lib.hid (fun a b d h1 => by rw [HA.out, stepL_beg h1, txE_app]; rfl)
      have HOP : Hid (∀ r o D t v', begR L[k] = (false, r) → parseR L[k] = (true, o) → c = D ++ [t] → runL (L.take (k + 1)) = some ((D ++ [TxnV.mk t.s t.b t.c v' (t.l ++ [o])]).map txE)) := Lib.hid (fun r o D t v' h1 h2 h3 => by rw [HA.out, h3, txE_app, stepL_op h1 h2, txE_app]; rfl)
      have HRUN := Lib.hid hrun
      generalize L[k] = s at *
      generalize wordsOK s 3 = wk at *
      generalize isT s = it at *
      generalize headB s = p at *
      generalize numsOf s = nums at *
      generalize begR s = R at *
      generalize parseR s = Q at *
      obtain ⟨qb, qo⟩ := Q
      obtain ⟨qw, qk, qv⟩ := qo
      unfold opRV at CP
      simp only at CP
      clear HA hrun hsl
      cases hwt : (wk && decide (p.data.toList = [116, 120, 110]))
      · have hR0 := HBN.out (by rw [HIT.out]; exact hwt)
        subst hR0
        have HW : Hid (∀ wx, Calls Tryd.prog 56 #[.string s, .int .i64 3] wx fun e w' => ∃ q v b, e = .returned (.tuple #[.string q, v, .bool b]) ∧ (b = true → (q.toList == [116, 120, 110]) = false) ∧ Below wx.heap.size wx w') := Lib.hid (fun wx => by
          cases wk
          · exact (CW0.out rfl wx).mono fun e w' ⟨h1, h2⟩ => ⟨_, _, _, h1, (fun h => by cases h), h2⟩
          · refine (CW1.out rfl wx).mono fun e w' ⟨v, h1, _, h2⟩ => ⟨_, _, _, h1, fun _ => ?_, h2⟩
            simp at hwt
            rw [ByteArray.toList_eq]
            simpa using hwt)
        clear CW0 CW1 HN3 HBA HBN HBG HIT hwt
        go_wp2_with fail
        refine (HW.out wr).mono ?_
        rintro e w1 ⟨q, v, b, rfl, hqb, hb1⟩
        have hb1' := hb.trans (hb1.mono hb.size)
        obtain ⟨g', o', hao', c0'⟩ := hAT.out _ hb1'
        cases hao'
        go_wp2_with fail
        refine (CP.out w1).mono ?_
        rintro e w3 ⟨rfl, hb3⟩
        have hb3' := hb1'.trans (hb3.mono hb1'.size)
        have hM3 := (hM.below hb1).below hb3
        have hb4 := hb3'.alloc hb3'.size (.cells #[.bool qw, .int .i64 qk, .int .i64 qv] 26)
        have hM4 := hM3.below (box_below w3 (.cells #[.bool qw, .int .i64 qk, .int .i64 qv] 26))
        obtain ⟨b0, b1, b2⟩ := opBlock w3 (.bool qw) (.int .i64 qk) (.int .i64 qv) 26
        clear hM hM3 hb1 hb1' hb3 hb3' hb c0 c0' CP HW hAT
        go_upto_region 7 with fail
        generalize w3.alloc (.cells #[.bool qw, .int .i64 qk, .int .i64 qv] 26) = w4 at *
        generalize w3.heap.size = pp at *
        go_cut [40] from 13 to 81 (fun v wx => v = .bool false ∧ w4 = wx)
        case first =>
          cases b
          · go_wp2_with fail
            go_meet
            exact ⟨rfl, rfl⟩
          · have hq := hqb rfl
            go_wp2_with fail
            go_meet
            exact ⟨rfl, rfl⟩
        case rest =>
        obtain ⟨rfl, rfl⟩ := hcut
        clear hqb
        cases qb
        · have HR : Hid (LinesRes L w.heap.size w4 (.returned (.tuple #[.slice none 0 0, .int .i64 ((k : Int) + 1)]))) := Lib.hid (.inr ⟨k, hlt, rfl, ⟨_, HRUN.out⟩, HNO2.out _ _ rfl rfl⟩)
          have hw1 : wrap64 ((k : Int) + 1) = (k : Int) + 1 := wrap64_small (by omega) (by omega)
          clear hM4 HOP HNO HNO2 hc2
          go_wp2_with fail
          go_ret2
          exact ⟨HR.out, hb4⟩
        · obtain ⟨av, cv, rfl⟩ : ∃ a cp, u4 = .slice a c.length cp := by
            rcases hM4.1.split with ⟨rfl, rfl⟩ | ⟨g, cp, rfl, _⟩
            · exact ⟨none, 0, rfl⟩
            · exact ⟨_, _, rfl⟩
          by_cases hcn : c = []
          · have HR : Hid (LinesRes L w.heap.size w4 (.returned (.tuple #[.slice none 0 0, .int .i64 ((k : Int) + 1)]))) := Lib.hid (.inr ⟨k, hlt, rfl, ⟨_, HRUN.out⟩, HNO.out _ rfl hcn⟩)
            have hw1 : wrap64 ((k : Int) + 1) = (k : Int) + 1 := wrap64_small (by omega) (by omega)
            subst hcn
            have hl0 : (([] : List TxnV).length : Int) = 0 := rfl
            clear hM4 HOP HNO HNO2 hc2
            go_wp2_with fail
            go_ret2
            exact ⟨HR.out, hb4⟩
          · obtain ⟨D, t, rfl⟩ : ∃ D t, c = D ++ [t] := ⟨c.dropLast, c.getLast hcn, (List.dropLast_concat_getLast hcn).symm⟩
            have hlD : (D ++ [t]).length = D.length + 1 := by simp
            have HN := Lib.hid (fun v' => HOP.out _ _ D t v' rfl rfl rfl)
            have HTL := Lib.hid (hc2 t (by simp))
            rw [hlD] at hM4 hc1 ⊢
            obtain ⟨g2, rfl⟩ : ∃ g2, av = some ⟨g2, 0, none⟩ := by
              rcases hM4.1.split with ⟨e, _⟩ | ⟨g, cp, e, _⟩
              · have := (Value.slice.inj e).2.1; omega
              · exact ⟨g, (Value.slice.inj e).1⟩
            have hO4 : OwnT w4 w.heap.size (.slice (some ⟨g2, 0, none⟩) (D ++ [t]).length cv) (D ++ [t]) := by rw [hlD]; exact hM4.1
            have HCELL : ∀ i, i < 4 → w4.cell? ⟨g2, D.length * 4 + i, none⟩ = (txV [t])[i]? := fun i hi => by
              rw [(hO4.at (j := D.length * 4 + i) (by omega)).1, txV_app, ← txV_len D, List.getElem?_append_right (by omega), Nat.add_sub_cancel_left]
            have a0 : w4.cell? ⟨g2, D.length * 4, none⟩ = some (.int .i64 t.s) := HCELL 0 (by decide)
            have a1 : w4.cell? ⟨g2, D.length * 4 + 1, none⟩ = some (.int .i64 t.b) := HCELL 1 (by decide)
            have a2 : w4.cell? ⟨g2, D.length * 4 + 2, none⟩ = some (.int .i64 t.c) := HCELL 2 (by decide)
            have a3 : w4.cell? ⟨g2, D.length * 4 + 3, none⟩ = some t.v := HCELL 3 (by decide)
            have hT := hM4.2.1 t (by simp)
            have HL : Hid (∀ v', ∀ u ∈ (D ++ [TxnV.mk t.s t.b t.c v' (t.l ++ [⟨qw, qk, qv⟩])]), u.l.length ≤ k + 1) := Lib.hid (fun v' u hu => by
              rcases List.mem_append.1 hu with hu | hu
              · exact Nat.le_succ_of_le (hc2 u (by simp [hu]))
              · obtain rfl := List.mem_singleton.1 hu
                have := hc2 t (by simp)
                simp; omega)
            have HLL : Hid (∀ v', (D ++ [TxnV.mk t.s t.b t.c v' (t.l ++ [⟨qw, qk, qv⟩])]).length ≤ k + 1) := Lib.hid (fun v' => by simp; omega)
            have HM4 := Lib.hid hM4
            clear hM4 hc2 HOP HNO HNO2 hO4 hcn HRUN HCELL
            obtain ⟨ts, tb, tc, tv, tl⟩ := t
            dsimp only at a0 a1 a2 a3 hT HTL HN HL HLL
            obtain ⟨at', ct, rfl, _⟩ := hT.ops.form
            go_upto_region 11 with fail
            obtain ⟨x0, x1, x2, x3⟩ := txnBlock w4 (.int .i64 ts) (.int .i64 tb) (.int .i64 tc) (.slice at' tl.length ct) 29
            have hk5 := box_below w4 (.cells #[.int .i64 ts, .int .i64 tb, .int .i64 tc, .slice at' tl.length ct] 29)
            have hf3 := (txn_cells (w := w4) (x := .int .i64 ts) (y := .int .i64 tb) (z := .int .i64 tc) (u := .slice at' tl.length ct) (t := 29) (Below.refl _ _)).2.2.2.2
            have b0 := (hk5.cell (p := ⟨pp, 0, none⟩) (block_lt b0)).trans b0
            have b1 := (hk5.cell (p := ⟨pp, 1, none⟩) (block_lt b1)).trans b1
            have b2 := (hk5.cell (p := ⟨pp, 2, none⟩) (block_lt b2)).trans b2
            have hT5 := hT.ops.below hk5
            generalize w4.alloc (.cells #[.int .i64 ts, .int .i64 tb, .int .i64 tc, .slice at' tl.length ct] 29) = w5 at *
            generalize hq5 : w4.heap.size = q5 at *
            have hl5 : Hid (q5 < w5.heap.size) := Lib.hid (block_lt x0)
            have hlp : Hid (pp < w5.heap.size) := Lib.hid (block_lt b0)
            have n5 : w5.heap.size ≠ q5 := Nat.ne_of_gt hl5.out
            have np : w5.heap.size ≠ pp := Nat.ne_of_gt hlp.out
            have z1 : ∀ O, (w5.alloc O).cell? ⟨q5, 3, none⟩ = some (.slice at' tl.length ct) := fun O => (World.cell?_alloc_lt w5 O _ hl5.out).trans x3
            have z2 : ∀ O O', ((w5.alloc O).alloc O').cell? ⟨q5, 3, none⟩ = some (.slice at' tl.length ct) := fun O O' => (World.cell?_alloc_lt _ O' _ (Nat.lt_of_lt_of_le hl5.out (box_below w5 O).size)).trans (z1 O)
            have r0 : ∀ O, (w5.alloc O).cell? ⟨pp, 0, none⟩ = some (.bool qw) := fun O => (World.cell?_alloc_lt w5 O _ hlp.out).trans b0
            have r1 : ∀ O, (w5.alloc O).cell? ⟨pp, 1, none⟩ = some (.int .i64 qk) := fun O => (World.cell?_alloc_lt w5 O _ hlp.out).trans b1
            have r2 : ∀ O, (w5.alloc O).cell? ⟨pp, 2, none⟩ = some (.int .i64 qv) := fun O => (World.cell?_alloc_lt w5 O _ hlp.out).trans b2
            go_cut [11] from 13 to 81 (fun v wx => v = Value.pointer (some ⟨q5, 0, none⟩) ∧ Tail8 q5 ts tb tc tl ⟨qw, qk, qv⟩ w4 wx)
            case first =>
              have hsE : (w5.alloc (.cells #[] 26)).heap.size = w5.heap.size + 1 := by simp
              have hsX : (w5.alloc (.cells #[.bool qw, .int .i64 qk, .int .i64 qv] 26)).heap.size = w5.heap.size + 1 := by simp
              have KA := Lib.hid ((Below.refl w5.heap.size w5).alloc (Nat.le_refl _) (.cells #[] 26))
              have KB := Lib.hid (((Below.refl w5.heap.size w5).alloc (Nat.le_refl _) (.cells #[] 26)).alloc (by rw [hsE]; exact Nat.le_succ _) (.cells #[.bool qw, .int .i64 qk, .int .i64 qv] 26))
              have KC := Lib.hid (((Below.refl w5.heap.size w5).alloc (Nat.le_refl _) (.cells #[.bool qw, .int .i64 qk, .int .i64 qv] 26)).alloc (by rw [hsX]; exact Nat.le_succ _) (.cells #[] 26))
              have OA : Hid ((w5.alloc (.cells #[] 26)).drew.ownsRow w5.heap.size 26 3 (.slice (some ⟨w5.heap.size, 0, none⟩) 0 0) 0 []) := Lib.hid (drew_own (own_made (Nat.le_refl _) rfl))
              have OB : Hid (((w5.alloc (.cells #[] 26)).alloc (.cells #[.bool qw, .int .i64 qk, .int .i64 qv] 26)).drew.ownsRow w5.heap.size 26 3 (.slice (some ⟨w5.heap.size, 0, none⟩) 0 0) 0 []) := Lib.hid (drew_own ((own_made (Nat.le_refl _) rfl).alloc _))
              have OC : Hid (((w5.alloc (.cells #[.bool qw, .int .i64 qk, .int .i64 qv] 26)).alloc (.cells #[] 26)).drew.ownsRow w5.heap.size 26 3 (.slice (some ⟨w5.heap.size + 1, 0, none⟩) 0 0) 0 []) := Lib.hid (drew_own (own_made (by rw [hsX]; exact Nat.le_succ _) hsX.symm))
              have PB : Hid (((w5.alloc (.cells #[] 26)).alloc (.cells #[.bool qw, .int .i64 qk, .int .i64 qv] 26)).drew.cell? ⟨w5.heap.size + 1, 0, none⟩ = some (.bool qw) ∧ ((w5.alloc (.cells #[] 26)).alloc (.cells #[.bool qw, .int .i64 qk, .int .i64 qv] 26)).drew.cell? ⟨w5.heap.size + 1, 1, none⟩ = some (.int .i64 qk) ∧ ((w5.alloc (.cells #[] 26)).alloc (.cells #[.bool qw, .int .i64 qk, .int .i64 qv] 26)).drew.cell? ⟨w5.heap.size + 1, 2, none⟩ = some (.int .i64 qv)) := Lib.hid (by
                have h := opBlock (w5.alloc (.cells #[] 26)) (.bool qw) (.int .i64 qk) (.int .i64 qv) 26
                rw [hsE] at h
                exact h)
              have PC : Hid (((w5.alloc (.cells #[.bool qw, .int .i64 qk, .int .i64 qv] 26)).alloc (.cells #[] 26)).drew.cell? ⟨w5.heap.size, 0, none⟩ = some (.bool qw) ∧ ((w5.alloc (.cells #[.bool qw, .int .i64 qk, .int .i64 qv] 26)).alloc (.cells #[] 26)).drew.cell? ⟨w5.heap.size, 1, none⟩ = some (.int .i64 qk) ∧ ((w5.alloc (.cells #[.bool qw, .int .i64 qk, .int .i64 qv] 26)).alloc (.cells #[] 26)).drew.cell? ⟨w5.heap.size, 2, none⟩ = some (.int .i64 qv)) := Lib.hid (by
                have h := opBlock w5 (.bool qw) (.int .i64 qk) (.int .i64 qv) 26
                have hb := box_below (w5.alloc (.cells #[.bool qw, .int .i64 qk, .int .i64 qv] 26)) (.cells #[] 26)
                have hl : w5.heap.size < (w5.alloc (.cells #[.bool qw, .int .i64 qk, .int .i64 qv] 26)).heap.size := by rw [hsX]; exact Nat.lt_succ_self _
                exact ⟨(hb.cell (p := ⟨w5.heap.size, 0, none⟩) hl).trans h.1, (hb.cell (p := ⟨w5.heap.size, 1, none⟩) hl).trans h.2.1, (hb.cell (p := ⟨w5.heap.size, 2, none⟩) hl).trans h.2.2⟩)
              have nB : Hid (some (w5.heap.size + 1) ≠ some w5.heap.size) := Lib.hid (by simp)
              have nC : Hid (some w5.heap.size ≠ some (w5.heap.size + 1)) := Lib.hid (by simp)
              have HO5 := Lib.hid (fun wx (hx : Below w5.heap.size w5 wx) => hT5.below hx)
              have s2 := Lib.hid (opV_one tl)
              have u2' := Lib.hid (opV_one [⟨qw, qk, qv⟩])
              have m1 : Hid (0 + tl.length ≤ maxLen) := Lib.hid (by have := HTL.out; unfold maxLen; omega)
              have m2 : Hid ((0 + tl.length) * 24 ≤ 140737488355328) := Lib.hid (by have := HTL.out; omega)
              have m3 : Hid (0 + tl.length + 1 ≤ maxLen) := Lib.hid (by have := HTL.out; unfold maxLen; omega)
              have m4 : Hid ((0 + tl.length + 1) * 24 ≤ 140737488355328) := Lib.hid (by have := HTL.out; omega)
              have HG : Hid (∀ wx wy row, Below w5.heap.size w5 wx → wx.grownBy wy row → (∀ j, row = some j → w5.heap.size ≤ j) → Below w5.heap.size w5 wy) := Lib.hid (fun wx wy row h hg hB => h.grown hg h.size hB)
              have HF : Hid (∀ w9 v9, World.ownsRow w9 w5.heap.size 26 3 v9 (0 + tl.length + 1) (([] ++ opV tl) ++ [.bool qw, .int .i64 qk, .int .i64 qv]) → Own w9 w5.heap.size v9 (tl ++ [⟨qw, qk, qv⟩])) := Lib.hid (fun w9 v9 h => by
                unfold Own
                rw [List.length_append, opV_app]
                rw [Nat.zero_add] at h
                exact h)
              have HFIN : Hid (∀ w8 a8 c8, Below w5.heap.size w5 w8 → Own w8 w5.heap.size (.slice a8 (tl.length + 1) c8) (tl ++ [⟨qw, qk, qv⟩]) → Tail8 q5 ts tb tc tl ⟨qw, qk, qv⟩ w4 (w8.setCell ⟨q5, 3, none⟩ (.slice a8 (tl.length + 1) c8))) := Lib.hid (fun w8 a8 c8 h1 h2 => by
                have hne : ∀ i, i ≠ 3 → (⟨q5, i, none⟩ : Addr) ≠ ⟨q5, 3, none⟩ := fun i hi e => by cases e; exact hi rfl
                have hg2 := grown_setC w8 ⟨q5, 3, none⟩ (.slice a8 (tl.length + 1) c8)
                refine ⟨a8, c8, ?_, ?_, ?_, ?_, ?_, ?_⟩
                · rw [World.cell?_setCell_other _ _ _ _ (hne 0 (by decide)).symm]; exact (h1.cell (p := ⟨q5, 0, none⟩) hl5.out).trans x0
                · rw [World.cell?_setCell_other _ _ _ _ (hne 1 (by decide)).symm]; exact (h1.cell (p := ⟨q5, 1, none⟩) hl5.out).trans x1
                · rw [World.cell?_setCell_other _ _ _ _ (hne 2 (by decide)).symm]; exact (h1.cell (p := ⟨q5, 2, none⟩) hl5.out).trans x2
                · exact World.cell?_setCell_same _ _ _ ((h1.cell (p := ⟨q5, 3, none⟩) hl5.out).trans x3)
                · exact Own.base (base' := q5) (World.ownsRow.kept h2 hg2 (.inr (fun e => by
                    have := (World.ownsRow.lt h2 q5 e).1
                    have := hl5.out
                    omega))) (Nat.le_of_lt hl5.out)
                · exact (hk5.trans (h1.mono (Nat.le_of_lt hl5.out))).setCell (p := ⟨q5, 3, none⟩) (Nat.le_refl _) _)
              clear hsE hsX hT5 hT
              go_region_law (first
                | (refine step_app _ rfl (.tmp 69) (.tmp 71) 22 rfl w5.heap.size 26 i1 (.agg #[.bool false, .int .i64 0, .int .i64 0]) 3 24 Tryd.underlying22 hj hy0 hy1 hy2 rfl (by decide) v7 (0 + tl.length) _ (by simp [Act.eval]) (by first | exact hown7 | exact hown7.alloc _ | exact drew_own hown7 | exact drew_own (hown7.alloc _) | exact (drew_own hown7).alloc _ | exact drew_own ((drew_own hown7).alloc _)) ⟨_, 0, none⟩ 1 1 [.bool qw, .int .i64 qk, .int .i64 qv] (by rfl) rfl (by first | exact lit_of p0 p1 p2 | exact lit_new _ _ _ _ _) u2'.out m3.out m4.out (by first | exact k7.size | exact (k7.alloc k7.size _).size) ?_
                   intro v8 w8 hown8 hg8; have k8 : Below w5.heap.size w5 w8 := (by first | exact HG.out _ _ _ k7 hg8 hL7 | exact HG.out _ _ _ (k7.alloc k7.size _) hg8 hL7); have hO8 := HF.out _ _ hown8; have hO8f := hO8.ops.form; rw [List.length_append] at hO8f; obtain ⟨a8, c8, hv8, _⟩ := hO8f; subst hv8; have hz3 := (k8.cell (p := ⟨q5, 3, none⟩) hl5.out).trans x3; have hzf := (k8.frozen (p := ⟨q5, 3, none⟩) hl5.out).trans hf3)
                | (refine step_app_row (w5.alloc (.cells #[] 26)).drew rfl (.tmp 66) (.tmp 68) 22 rfl w5.heap.size 26 i1 (.agg #[.bool false, .int .i64 0, .int .i64 0]) 3 24 Tryd.underlying22 hj hy0 hy1 hy2 rfl (by decide) (.slice (some ⟨w5.heap.size, 0, none⟩) 0 0) 0 [] (by simp [Act.eval]) OA.out (.slice at' tl.length ct) tl.length (opV tl) (by simp [Act.eval]) (HO5.out _ KA.out.drew) s2.out m1.out m2.out KA.out.size ?_
                   intro v7 w7 hown7 hg7; have k7 := HG.out _ _ _ KA.out.drew hg7 (fun j hj => by cases hj; exact Nat.le_refl _); have hL7 := fun j hj => (World.ownsRow.lt hown7 j hj).1; have y0 := (k7.cell (p := ⟨pp, 0, none⟩) hlp.out).trans b0; have y1 := (k7.cell (p := ⟨pp, 1, none⟩) hlp.out).trans b1; have y2 := (k7.cell (p := ⟨pp, 2, none⟩) hlp.out).trans b2)
                | (refine step_app_row ((w5.alloc (.cells #[] 26)).alloc (.cells #[.bool qw, .int .i64 qk, .int .i64 qv] 26)).drew rfl (.tmp 66) (.tmp 68) 22 rfl w5.heap.size 26 i1 (.agg #[.bool false, .int .i64 0, .int .i64 0]) 3 24 Tryd.underlying22 hj hy0 hy1 hy2 rfl (by decide) (.slice (some ⟨w5.heap.size, 0, none⟩) 0 0) 0 [] (by simp [Act.eval]) OB.out (.slice at' tl.length ct) tl.length (opV tl) (by simp [Act.eval]) (HO5.out _ KB.out.drew) s2.out m1.out m2.out KB.out.size ?_
                   intro v7 w7 hown7 hg7; have k7 := HG.out _ _ _ KB.out.drew hg7 (fun j hj => by cases hj; exact Nat.le_refl _); have hL7 := fun j hj => (World.ownsRow.lt hown7 j hj).1; have y0 := (k7.cell (p := ⟨pp, 0, none⟩) hlp.out).trans b0; have y1 := (k7.cell (p := ⟨pp, 1, none⟩) hlp.out).trans b1; have y2 := (k7.cell (p := ⟨pp, 2, none⟩) hlp.out).trans b2; have p0 := hg7.cell PB.out.1 nB.out; have p1 := hg7.cell PB.out.2.1 nB.out; have p2 := hg7.cell PB.out.2.2 nB.out)
                | (refine step_app_row ((w5.alloc (.cells #[.bool qw, .int .i64 qk, .int .i64 qv] 26)).alloc (.cells #[] 26)).drew rfl (.tmp 66) (.tmp 68) 22 rfl w5.heap.size 26 i1 (.agg #[.bool false, .int .i64 0, .int .i64 0]) 3 24 Tryd.underlying22 hj hy0 hy1 hy2 rfl (by decide) (.slice (some ⟨w5.heap.size + 1, 0, none⟩) 0 0) 0 [] (by simp [Act.eval]) OC.out (.slice at' tl.length ct) tl.length (opV tl) (by simp [Act.eval]) (HO5.out _ KC.out.drew) s2.out m1.out m2.out KC.out.size ?_
                   intro v7 w7 hown7 hg7; have k7 := HG.out _ _ _ KC.out.drew hg7 (fun j hj => by cases hj; exact Nat.le_succ _); have hL7 := fun j hj => (World.ownsRow.lt hown7 j hj).1; have y0 := (k7.cell (p := ⟨pp, 0, none⟩) hlp.out).trans b0; have y1 := (k7.cell (p := ⟨pp, 1, none⟩) hlp.out).trans b1; have y2 := (k7.cell (p := ⟨pp, 2, none⟩) hlp.out).trans b2; have p0 := hg7.cell PC.out.1 nC.out; have p1 := hg7.cell PC.out.2.1 nC.out; have p2 := hg7.cell PC.out.2.2 nC.out))
              all_goals (try go_simp; go_wp2; go_meet; exact ⟨rfl, HFIN.out _ _ _ k8 hO8⟩)
            case rest =>
            obtain ⟨rfl, a8, c8, e0, e1, e2, e3, hO8, hbc⟩ := hcut
            subst hq5
            have HMc := HM4.out.below hbc
            have hb8 := hb4.trans (hbc.mono hb4.size)
            have hle4 := hb4.size
            have HAP : Hid (∀ u ∈ D, ∀ b, u.v.ownBlock = some b → (Value.slice a8 (tl.length + 1) c8).ownBlock ≠ some b) := Lib.hid (fun u hu b h1 h2 => by
              have q1 := (World.ownsRow.lt (HM4.out.2.1 u (by simp [hu])) b h1).2
              have q2 := (World.ownsRow.lt hO8 b h2).1
              omega)
            have hgl : g2 < w4.heap.size := block_lt a0
            clear x0 x1 x2 x3 hk5 hf3 b0 b1 b2 hT5 hl5 hlp n5 np z1 z2 r0 r1 r2 hT HM4 hbc hb4 a0 a1 a2 a3
            generalize wc = w8 at *
            have hO4 : OwnT w8 w.heap.size (.slice (some ⟨g2, 0, none⟩) (D ++ [TxnV.mk ts tb tc (.slice at' tl.length ct) tl]).length cv) (D ++ [TxnV.mk ts tb tc (.slice at' tl.length ct) tl]) := by rw [show (D ++ [TxnV.mk ts tb tc (.slice at' tl.length ct) tl]).length = D.length + 1 by simp]; exact HMc.1
            have hTX : ∀ i, i < 4 → (txV (D ++ [TxnV.mk ts tb tc (.slice at' tl.length ct) tl]))[D.length * 4 + i]? = (txV [TxnV.mk ts tb tc (.slice at' tl.length ct) tl])[i]? := fun i hi => by
              rw [txV_app, ← txV_len D, List.getElem?_append_right (by omega), Nat.add_sub_cancel_left]
            have hlq : (D ++ [TxnV.mk ts tb tc (.slice at' tl.length ct) tl]).length * 4 = D.length * 4 + 4 := by simp; omega
            have d0 : w8.cell? ⟨g2, D.length * 4, none⟩ = some (.int .i64 ts) := ((hO4.at (j := D.length * 4) (by omega)).1).trans (hTX 0 (by decide))
            have d1 : w8.cell? ⟨g2, D.length * 4 + 1, none⟩ = some (.int .i64 tb) := ((hO4.at (j := D.length * 4 + 1) (by omega)).1).trans (hTX 1 (by decide))
            have d2 : w8.cell? ⟨g2, D.length * 4 + 2, none⟩ = some (.int .i64 tc) := ((hO4.at (j := D.length * 4 + 2) (by omega)).1).trans (hTX 2 (by decide))
            have d3 : w8.cell? ⟨g2, D.length * 4 + 3, none⟩ = some (.slice at' tl.length ct) := ((hO4.at (j := D.length * 4 + 3) (by omega)).1).trans (hTX 3 (by decide))
            have f0 := (hO4.at (j := D.length * 4) (by omega)).2
            have f1 := (hO4.at (j := D.length * 4 + 1) (by omega)).2
            have f2 := (hO4.at (j := D.length * 4 + 2) (by omega)).2
            have f3 := (hO4.at (j := D.length * 4 + 3) (by omega)).2
            have HM9 : Hid (Made ((((w8.setCell ⟨g2, D.length * 4, none⟩ (.int .i64 ts)).setCell ⟨g2, D.length * 4 + 1, none⟩ (.int .i64 tb)).setCell ⟨g2, D.length * 4 + 2, none⟩ (.int .i64 tc)).setCell ⟨g2, D.length * 4 + 3, none⟩ (.slice a8 (tl.length + 1) c8)) w.heap.size (.slice (some ⟨g2, 0, none⟩) (D.length + 1) cv) (D ++ [TxnV.mk ts tb tc (.slice a8 (tl.length + 1) c8) (tl ++ [⟨qw, qk, qv⟩])])) := Lib.hid (by
              have h0 : Made w8 w.heap.size (.slice (some ⟨g2, 0, none⟩) (D ++ [TxnV.mk ts tb tc (.slice at' tl.length ct) tl]).length cv) (D ++ [TxnV.mk ts tb tc (.slice at' tl.length ct) tl]) := ⟨hO4, HMc.2⟩
              have h1 := Made.same h0 (j := D.length * 4) (u := .int .i64 ts) (hTX 0 (by decide))
              have h2 := Made.same h1 (j := D.length * 4 + 1) (u := .int .i64 tb) (hTX 1 (by decide))
              have h3 := Made.same h2 (j := D.length * 4 + 2) (u := .int .i64 tc) (hTX 2 (by decide))
              have hk : ∀ (wx : World) (p : Addr) (u : Value), p.block = g2 → Own wx w4.heap.size (.slice a8 (tl.length + 1) c8) (tl ++ [⟨qw, qk, qv⟩]) → Own (wx.setCell p u) w4.heap.size (.slice a8 (tl.length + 1) c8) (tl ++ [⟨qw, qk, qv⟩]) := fun wx p u hp hx => World.ownsRow.kept hx (grown_setC wx p u) (.inr (fun e => by
                have := (World.ownsRow.lt hx g2 (by rw [e, hp])).1
                omega))
              have k3 := hk _ ⟨g2, D.length * 4 + 2, none⟩ (.int .i64 tc) rfl (hk _ ⟨g2, D.length * 4 + 1, none⟩ (.int .i64 tb) rfl (hk _ ⟨g2, D.length * 4, none⟩ (.int .i64 ts) rfl hO8))
              refine Made.put (t := TxnV.mk ts tb tc (.slice at' tl.length ct) tl) ?_ (k3.base hle4) HAP.out
              rw [show D.length + 1 = (D ++ [TxnV.mk ts tb tc (.slice at' tl.length ct) tl]).length by simp]
              exact h3)
            have hg0 : w.heap.size ≤ g2 := (World.ownsRow.lt hO4 g2 rfl).1
            have HB9 := Lib.hid ((((hb8.setCell (p := ⟨g2, D.length * 4, none⟩) hg0 (.int .i64 ts)).setCell (p := ⟨g2, D.length * 4 + 1, none⟩) hg0 (.int .i64 tb)).setCell (p := ⟨g2, D.length * 4 + 2, none⟩) hg0 (.int .i64 tc)).setCell (p := ⟨g2, D.length * 4 + 3, none⟩) hg0 (.slice a8 (tl.length + 1) c8))
            clear hO4 hTX hlq HMc hO8 HAP hb8
            go_wp2_with fail
            go_roundw
            case rel => exact ⟨k + 1, _, by omega, by go_num, HN.out _, HM9.out, HLL.out _, HL.out _, HB9.out⟩
            case measure => simp [intOf]; omega
      · have hwt2 := hwt
        simp only [Bool.and_eq_true, decide_eq_true_eq] at hwt2
        obtain ⟨rfl, hp⟩ := hwt2
        obtain ⟨a, b, d, rfl, _⟩ := HN3.out rfl
        have hR1 := HBA.out (by rw [HIT.out]; exact hwt) a b d rfl
        subst hR1
        have HN := Lib.hid (HBG.out _ _ _ rfl)
        have hpe : p.toList = [116, 120, 110] := by rw [ByteArray.toList_eq]; exact hp
        have HW := Lib.hid (CW1.out rfl wr)
        have HL : Hid (∀ t ∈ (c ++ [TxnV.mk a b d (.slice none 0 0) []]), t.l.length ≤ k + 1) := Lib.hid (fun t ht => by
          rcases List.mem_append.1 ht with ht | ht
          · exact Nat.le_succ_of_le (hc2 t ht)
          · obtain rfl := List.mem_singleton.1 ht
            exact Nat.zero_le _)
        have HLL : Hid ((c ++ [TxnV.mk a b d (.slice none 0 0) []]).length ≤ k + 1) := Lib.hid (by simp; omega)
        clear CW0 CW1 HN3 HBA HBN HBG HIT hwt HNO HNO2 HOP HRUN hc2 hp
        go_wp2_with fail
        refine (HW.out).mono ?_
        rintro e w1 ⟨v, rfl, hI, hb1⟩
        have hb1' := hb.trans (hb1.mono hb.size)
        obtain ⟨g', o', hao', c0'⟩ := hAT.out _ hb1'
        cases hao'
        go_wp2_with fail
        refine (CP.out w1).mono ?_
        rintro e w3 ⟨rfl, hb3⟩
        have hb3' := hb1'.trans (hb3.mono hb1'.size)
        have hM3 := (hM.below hb1).below hb3
        have hb4 := hb3'.alloc hb3'.size (.cells #[.bool qw, .int .i64 qk, .int .i64 qv] 26)
        have hM4 := hM3.below (box_below w3 (.cells #[.bool qw, .int .i64 qk, .int .i64 qv] 26))
        have hI4 := (hI.below hb3).below (box_below w3 (.cells #[.bool qw, .int .i64 qk, .int .i64 qv] 26))
        obtain ⟨ao', cap', rfl, _⟩ := hI4.form
        obtain ⟨gn, on, hgn, k0⟩ := hI4.at (k := 0) (by simp)
        subst hgn
        obtain ⟨g', o', hg', k1⟩ := hI4.at (k := 1) (by simp)
        cases hg'
        obtain ⟨g', o', hg', k2⟩ := hI4.at (k := 2) (by simp)
        cases hg'
        obtain ⟨av, cv, rfl⟩ : ∃ a cp, u4 = .slice a c.length cp := by
          rcases hM4.1.split with ⟨rfl, rfl⟩ | ⟨g, cp, rfl, _⟩
          · exact ⟨none, 0, rfl⟩
          · exact ⟨_, _, rfl⟩
        clear hM hM3 hI hI4 hb1 hb1' hb3 hb3' hb c0 c0' CP HW hAT
        go_upto_region 8 with fail
        generalize w3.alloc (.cells #[.bool qw, .int .i64 qk, .int .i64 qv] 26) = w4 at *
        generalize w3.heap.size = pp at *
        change w4.cell? ⟨gn, on + 0, none⟩ = some (.int .i64 a) at k0
        rw [Nat.add_zero] at k0
        change w4.cell? ⟨gn, on + 1, none⟩ = some (.int .i64 b) at k1
        change w4.cell? ⟨gn, on + 2, none⟩ = some (.int .i64 d) at k2
        have hbX := box_below w4 (.cells #[.int .i64 a, .int .i64 b, .int .i64 d, .slice none 0 0] 29)
        have HMX := Lib.hid (hM4.below hbX)
        have hb5 := Lib.hid (hb4.alloc hb4.size (.cells #[.int .i64 a, .int .i64 b, .int .i64 d, .slice none 0 0] 29))
        have hbs : Hid (w.heap.size ≤ (w4.alloc (.cells #[.int .i64 a, .int .i64 b, .int .i64 d, .slice none 0 0] 29)).heap.size) := Lib.hid hb5.out.size
        have m1 : Hid (c.length + 1 ≤ maxLen) := Lib.hid (by unfold maxLen; omega)
        have m2 : Hid ((c.length + 1) * 48 ≤ 140737488355328) := Lib.hid (by omega)
        have u2 : Hid (∀ u ∈ ([.int .i64 a, .int .i64 b, .int .i64 d, .slice none 0 0] : List Value), u.oneCell' = true) := Lib.hid (by
          intro u hu
          simp at hu
          rcases hu with rfl | rfl | rfl | rfl <;> rfl)
        have HFIN : Hid (∀ v7 w7, World.ownsRow w7 w.heap.size 29 4 v7 (c.length + 1) (txV c ++ [.int .i64 a, .int .i64 b, .int .i64 d, .slice none 0 0]) → (w4.alloc (.cells #[.int .i64 a, .int .i64 b, .int .i64 d, .slice none 0 0] 29)).drew.grownBy w7 (Value.slice av c.length cv).ownBlock → Made w7 w.heap.size v7 (c ++ [TxnV.mk a b d (.slice none 0 0) []]) ∧ Below w.heap.size w w7) := Lib.hid (fun v7 w7 h1 h2 => by
          have hM := HMX.out.below (Below.refl _ _).drew
          have hO7 : OwnT w7 w.heap.size v7 (c ++ [TxnV.mk a b d (.slice none 0 0) []]) := by
            unfold OwnT
            rw [List.length_append, txV_app]
            exact h1
          exact ⟨Made.beg hM hO7 h2, (hb5.out.drew).grown h2 hb5.out.size (fun j hj => (World.ownsRow.lt hM.1 j hj).1)⟩)
        clear hbX hM4
        go_wp2_with fail
        go_region_law (first
          | (refine step_app _ rfl (.tmp 41) (.tmp 52) 34 rfl w.heap.size 29 i0 (.agg #[.int .i64 0, .int .i64 0, .int .i64 0, .slice none 0 0]) 4 48 Tryd.underlying34 hi hz0 hz1 hz2 rfl (by decide) (.slice av c.length cv) c.length (txV c) (by simp [Act.eval]) (by first | exact HMX.out.1 | exact drew_own HMX.out.1) ⟨_, 0, none⟩ 1 1 [.int .i64 a, .int .i64 b, .int .i64 d, .slice none 0 0] (by rfl) rfl (by exact lit4 _ _ _ _ _ _) u2.out m1.out m2.out hbs.out ?_
             intro v7 w7 hown7 hg7))
        all_goals
          obtain ⟨hMf, hbf⟩ := HFIN.out _ _ hown7 hg7
          clear hown7 hg7 HFIN HMX hb5
          try go_simp
          go_wp2_with fail
          go_roundw
          case rel => exact ⟨k + 1, _, by omega, by go_num, HN.out, hMf, HLL.out, HL.out, hbf⟩
          case measure => simp [intOf]; omega
    · have hkl : k = L.length := by omega
      subst hkl
      rw [List.take_length] at hrun
      have HR : Hid (LinesRes L w.heap.size wr (.returned (.tuple #[u4, .int .i64 0]))) := Lib.hid (.inl ⟨_, c, rfl, hrun, hM, hc1, hc2⟩)
      clear hrun hM hc2
      go_wp2_with fail
      go_ret2
      exact ⟨HR.out, hb⟩
end Go.Proofs.YtlkdojcimlfmdaaDoor

namespace Go.Proofs.YtlkdojcimlfmdaaDoor
set_option maxRecDepth 100000
open Go.RowKit

def okE (t : Int × Int × Int × List OpV) : Prop := (IntOk t.1 ∧ IntOk t.2.1 ∧ IntOk t.2.2.1) ∧ ∀ o ∈ t.2.2.2, o.ok
theorem intOk_small {n : Int} (h : 0 ≤ n ∧ n ≤ 2147483647) : IntOk n := by unfold IntOk; omega
theorem begR_ok {s : ByteArray} {a b c : Int} (h : begR s = (true, a, b, c)) : (0 ≤ a ∧ a ≤ 2147483647) ∧ (0 ≤ b ∧ b ≤ 2147483647) ∧ (0 ≤ c ∧ c ≤ 2147483647) := by
  unfold begR at h
  split at h
  · rename_i hw
    simp only [Bool.and_eq_true] at hw
    obtain ⟨a', b', c', e, h1, h2, h3⟩ := nums_three hw.1
    rw [e] at h
    simp at h
    obtain ⟨rfl, rfl, rfl⟩ := h
    exact ⟨h1, h2, h3⟩
  · simp at h
theorem parseR_mayO {s : ByteArray} {o : OpV} (h : parseR s = (true, o)) : mayO o = true := by
  unfold parseR at h
  split at h
  · split at h
    · split at h
      · rename_i hm
        simp only [Bool.and_eq_true] at hm
        simp at h
        rw [← h]; exact hm.2
      · simp at h
    · simp at h
  · simp at h
theorem mayO_ok {o : OpV} (h : mayO o = true) : o.ok := by
  obtain ⟨h1, h2, _⟩ := (mayO_iff o).1 h
  exact ⟨by unfold IntOk; omega, by unfold IntOk; omega⟩
theorem stepL_ok {H H' : List (Int × Int × Int × List OpV)} {s : ByteArray} (hH : ∀ t ∈ H, okE t) (h : stepL H s = some H') : ∀ t ∈ H', okE t := by
  unfold stepL at h
  cases hb : begR s with
  | mk rb r =>
    obtain ⟨a, b, c⟩ := r
    rw [hb] at h
    cases rb
    · simp only [Bool.false_eq_true, if_false] at h
      cases hl : H.getLast? with
      | none => rw [hl] at h; cases h
      | some t =>
        rw [hl] at h
        cases hp : parseR s with
        | mk qb o =>
          rw [hp] at h
          cases qb
          · cases h
          · simp only [if_true] at h
            obtain rfl := Option.some.inj h
            intro u hu
            rcases List.mem_append.1 hu with hu | hu
            · exact hH u ((List.dropLast_sublist H).subset hu)
            · obtain rfl := List.mem_singleton.1 hu
              have ht := hH t (List.mem_of_getLast? hl)
              refine ⟨ht.1, fun x hx => ?_⟩
              rcases List.mem_append.1 hx with hx | hx
              · exact ht.2 x hx
              · obtain rfl := List.mem_singleton.1 hx
                exact mayO_ok (parseR_mayO hp)
    · simp only [if_true] at h
      obtain rfl := Option.some.inj h
      obtain ⟨h1, h2, h3⟩ := begR_ok hb
      intro u hu
      rcases List.mem_append.1 hu with hu | hu
      · exact hH u hu
      · obtain rfl := List.mem_singleton.1 hu
        exact ⟨⟨intOk_small h1, intOk_small h2, intOk_small h3⟩, by simp⟩
theorem runL_ok (L : List ByteArray) : ∀ (k : Nat) (H : List (Int × Int × Int × List OpV)), k ≤ L.length → runL (L.take k) = some H → ∀ t ∈ H, okE t
  | 0, H, _, h => by
    have : H = [] := by
      unfold runL at h; simp at h; exact h
    rw [this]; simp
  | k + 1, H, hk, h => by
    rw [List.take_succ_eq_append_getElem (by omega), runL_snoc] at h
    cases h2 : runL (L.take k) with
    | none => rw [h2] at h; cases h
    | some H2 =>
      rw [h2] at h
      exact stepL_ok (runL_ok L k H2 (by omega) h2) h
theorem okE_txn {c : List TxnV} (h : ∀ t ∈ c.map txE, okE t) : ∀ t ∈ c, t.ok := fun t ht => h (txE t) (List.mem_map.2 ⟨t, ht, rfl⟩)
/-- What Parse answers, of a text that isn't too long. -/
def ParseRes (s : ByteArray) (base : Nat) (w : World) (e : Ending) : Prop :=
  (∃ k, k < (linesB s).length ∧ (∃ H, runL ((linesB s).take k) = some H) ∧ runL ((linesB s).take (k + 1)) = none ∧ e = .returned (.tuple #[.slice none 0 0, .int .i64 ((k : Int) + 1), .int .i64 1])) ∨
  (∃ c : List TxnV, runL (linesB s) = some (c.map txE) ∧
    ((endedB s = false ∧ e = .returned (.tuple #[.slice none 0 0, .int .i64 (((linesB s).length : Int) + 1), .int .i64 1])) ∨
     (endedB s = true ∧ checkI c ≠ 0 ∧ e = .returned (.tuple #[.slice none 0 0, .int .i64 0, .int .i64 (checkI c)])) ∨
     (endedB s = true ∧ checkI c = 0 ∧ ∃ v, e = .returned (.tuple #[v, .int .i64 0, .int .i64 0]) ∧ Made w base v c)))
theorem linesB_le (s : ByteArray) : (linesB s).length ≤ s.size := by
  have := cut_len_le 10 s
  unfold linesB; rw [List.length_dropLast]; omega
theorem piece_le (c : UInt8) : ∀ (l p : List UInt8), p ∈ cutL c l → p.length ≤ l.length
  | [], p, hp => by simp [cutL] at hp; subst hp; simp
  | b :: l, p, hp => by
    unfold cutL at hp
    split at hp
    · rcases List.mem_cons.1 hp with rfl | hp
      · simp
      · have := piece_le c l p hp; simp; omega
    · rcases List.mem_cons.1 hp with rfl | hp
      · have := cutL_ne c l
        cases hc : cutL c l with
        | nil => exact absurd hc this
        | cons a r =>
          have := piece_le c l a (by rw [hc]; exact List.mem_cons_self)
          simp; omega
      · have := piece_le c l p (List.mem_of_mem_tail hp); simp; omega
theorem linesB_size (s : ByteArray) (hs : s.size ≤ 100000) : ∀ t ∈ linesB s, t.size ≤ 100000 := fun t ht => by
  have ht2 : t ∈ cutB 10 s := (List.dropLast_sublist _).subset ht
  obtain ⟨p, hp, rfl⟩ := List.mem_map.1 ht2
  have := piece_le _ _ _ hp
  have e : (⟨p.toArray⟩ : ByteArray).size = p.length := by simp [ByteArray.size]
  rw [Lib.size_eq] at hs
  rw [e]; omega
set_option maxHeartbeats 8000000 in
theorem sparse_any (s : ByteArray) (w : World) (he : Env w) (hs : s.size ≤ 100000) :
    Calls Tryd.prog 15 #[.string s] w fun e w' => ParseRes s w.heap.size w' e ∧ Below w.heap.size w w' := by
  have HE := Lib.hid (fun wx (hx : Below w.heap.size w wx) => he.below hx)
  have CL := Lib.hid (lines_any s w he hs)
  have hll := linesB_le s
  have hls := Lib.hid (linesB_size s hs)
  have hsz : ¬ (1048576 : Int) < (s.size : Int) := by omega
  have HP : Hid (∀ w e, ParseRes s w.heap.size w e ↔ ParseRes s w.heap.size w e) := Lib.hid (fun _ _ => Iff.rfl)
  clear he HP
  go_enter Tryd.func15, Tryd.ntmps15
  go_wp2_with fail
  refine (CL.out).mono ?_
  rintro e w1 ⟨v, rfl, hS, hb1⟩
  clear CL
  obtain ⟨av, cv, rfl, _⟩ := hS.form
  go_wp2_with fail
  refine (slines_any _ (linesB s) w1 (HE.out _ hb1) hS hls.out (by omega)).mono ?_
  rintro e w2 ⟨hR, hb2⟩
  have hb2' := hb1.trans (hb2.mono hb1.size)
  rcases hR with ⟨v2, c, rfl, hrun, hM, hc1, hc2⟩ | ⟨k, hk, rfl, hH, hrun⟩
  · have HOK := Lib.hid (okE_txn (c := c) (fun t ht => runL_ok (linesB s) (linesB s).length _ (Nat.le_refl _) (by rw [List.take_length]; exact hrun) t ht))
    have HSH : Hid (Short c) := Lib.hid (fun t ht => by have := hc2 t ht; omega)
    have HM := Lib.hid hM
    have HRN := Lib.hid hrun
    obtain ⟨a2, c2, rfl, _⟩ := hM.txns.form
    have hl0 : wrap64 (((linesB s).length : Int) + 1) = ((linesB s).length : Int) + 1 := wrap64_small (by omega) (by omega)
    have hl1 : ¬ ((linesB s).length : Int) + 1 = 0 := by omega
    clear hM hrun hc2 hS hls
    cases hen : endedB s
    · have HRES : Hid (ParseRes s w.heap.size w2 (.returned (.tuple #[.slice none 0 0, .int .i64 (((linesB s).length : Int) + 1), .int .i64 1]))) := Lib.hid (.inr ⟨c, HRN.out, .inl ⟨hen, rfl⟩⟩)
      clear HM
      go_wp2_with fail
      go_ret3
      exact ⟨HRES.out, hb2'⟩
    · have CK := Lib.hid (hcheck_any _ c w2 HM.out.txns HOK.out HSH.out)
      have HK : Hid (checkI c ≠ 0 → ∀ wx, ParseRes s w.heap.size wx (.returned (.tuple #[.slice none 0 0, .int .i64 0, .int .i64 (checkI c)]))) := Lib.hid (fun hne wx => .inr ⟨c, HRN.out, .inr (.inl ⟨hen, hne, rfl⟩)⟩)
      have HK0 : Hid (checkI c = 0 → ∀ wx, Below w2.heap.size w2 wx → ParseRes s w.heap.size wx (.returned (.tuple #[.slice a2 c.length c2, .int .i64 0, .int .i64 0]))) := Lib.hid (fun he wx hx => .inr ⟨c, HRN.out, .inr (.inr ⟨hen, he, _, rfl, by
        have := HM.out.below hx
        exact ⟨⟨this.1.1, by
          rcases this.1.2 with q | ⟨g, cap, cur, q1, q2, q3⟩
          · exact .inl q
          · exact .inr ⟨g, cap, cur, q1, Nat.le_trans hb1.size q2, q3⟩⟩, fun t ht => (this.2.1 t ht).base hb1.size, this.2.2⟩⟩)⟩)
      generalize checkI c = E at *
      clear HM
      go_wp2_with fail
      refine (CK.out).mono ?_
      rintro e w3 ⟨rfl, hb3⟩
      have hb3' := hb2'.trans (hb3.mono hb2'.size)
      by_cases hE : E = 0
      · subst hE
        have HRES := Lib.hid (HK0.out rfl _ hb3)
        clear HK HK0
        go_wp2_with fail
        go_ret3
        exact ⟨HRES.out, hb3'⟩
      · have HRES := Lib.hid (HK.out hE w3)
        clear HK HK0
        go_wp2_with fail
        go_ret3
        exact ⟨HRES.out, hb3'⟩
  · have HRES : Hid (ParseRes s w.heap.size w2 (.returned (.tuple #[.slice none 0 0, .int .i64 ((k : Int) + 1), .int .i64 1]))) := Lib.hid (.inl ⟨k, hk, hH, hrun, rfl⟩)
    have hk1 : ¬ ((k : Int) + 1 = 0) := by omega
    clear hrun hH hS hls
    go_wp2_with fail
    go_ret3
    exact ⟨HRES.out, hb2'⟩
end Go.Proofs.YtlkdojcimlfmdaaDoor

namespace Go.Proofs.YtlkdojcimlfmdaaDoor
set_option maxRecDepth 100000
open Go.RowKit

theorem Made.base {w : World} {base base' : Nat} {v : Value} {c : List TxnV} (h : Made w base v c) (hb : base' ≤ base) : Made w base' v c :=
  ⟨⟨h.1.1, by
    rcases h.1.2 with q | ⟨g, cap, cur, q1, q2, q3⟩
    · exact .inl q
    · exact .inr ⟨g, cap, cur, q1, Nat.le_trans hb q2, q3⟩⟩, fun t ht => (h.2.1 t ht).base hb, h.2.2⟩
theorem Strs.take {w : World} {ao : Option Addr} {n cap : Nat} {P : List ByteArray} (h : Strs w (.slice ao n cap) P) {k : Nat} (hk : k ≤ P.length) : Strs w (.slice ao k cap) (P.take k) := by
  have hn : n = P.length := by obtain ⟨_, ao', cap', he, _⟩ := h; simp at he; exact he.2.1
  subst hn
  have hl : (P.take k).length = k := by rw [List.length_take]; omega
  have := Row.take h hk
  unfold Strs
  rw [hl, List.map_take]
  simpa using this
set_option maxHeartbeats 8000000 in
theorem rparse_any (s : ByteArray) (w : World) (hs : s.size ≤ 100000) :
    Calls Tryd.prog 16 #[.string s] w fun e w' => ParseRes s w.heap.size w' e ∧ Below w.heap.size w w' := by
  have CL : Hid (Calls Tryd.prog 29 #[.string s, .int .u8 10] w fun e w' => ∃ v, e = .returned v ∧ Strs w' v (cutB 10 s) ∧ Below w.heap.size w w') := Lib.hid (cut_any s 10 w hs)
  obtain ⟨hl1, hl2⟩ := cut_len_le 10 s
  have hls := Lib.hid (linesB_size s hs)
  obtain ⟨n, hn⟩ : ∃ n, (cutB 10 s).length = n + 1 := ⟨(cutB 10 s).length - 1, by omega⟩
  have hnl : n < (cutB 10 s).length := by omega
  have hLT : linesB s = (cutB 10 s).take n := by unfold linesB; rw [List.dropLast_eq_take, hn]; rfl
  have hLL : (linesB s).length = n := by rw [hLT, List.length_take]; omega
  have hEB : endedB s = (cutB 10 s)[n].toList.isEmpty := by unfold endedB; rw [last_at hn hnl]
  have hn0 : n ≤ 100000 := by omega
  have HPQ : Hid (∀ wx v, Strs wx v (cutB 10 s) → ∃ ao cap, v = .slice ao (n + 1) cap ∧ n + 1 ≤ cap ∧ Strs wx (.slice ao n cap) (linesB s) ∧ ∃ g o, ao = some ⟨g, o, none⟩ ∧ wx.cell? ⟨g, o + n, none⟩ = some (.string (cutB 10 s)[n])) := Lib.hid (fun wx v h => by
    obtain ⟨ao, cap, rfl, ⟨hc, _⟩, _⟩ := h.form
    obtain ⟨g, o, rfl, hc2⟩ := h.at hnl
    rw [hn] at h hc ⊢
    refine ⟨_, cap, rfl, hc, ?_, g, o, rfl, hc2⟩
    rw [hLT]
    exact h.take (by omega))
  have hs64 : wrap64 (((n + 1 : Nat) : Int) - 1) = (n : Int) := by rw [show ((n + 1 : Nat) : Int) - 1 = (n : Int) by omega]; exact wrap64_small (by omega) (by omega)
  have hs64' : wrap64 (n : Int) = (n : Int) := wrap64_small (by omega) (by omega)
  have hn1 : (0 : Int) ≤ (n : Int) := by omega
  have hn2 : ((n : Int)).toNat = n := by omega
  generalize (cutB 10 s)[n] = q at *
  clear hs hl1 hl2 hnl hLT
  go_enter Tryd.func16, Tryd.ntmps16
  go_wp2_with fail
  refine (CL.out).mono ?_
  rintro e w1 ⟨v, rfl, hS, hb1⟩
  obtain ⟨ao, cap, rfl, hcap, hSL, g, o, rfl, hq⟩ := HPQ.out _ _ hS
  have hcap' : (n : Int) ≤ (cap : Int) := by omega
  clear CL hS HPQ hn
  go_wp2_with fail
  refine (rlines_any _ (linesB s) w1 hSL hls.out (by omega)).mono ?_
  rintro e w2 ⟨hR, hb2⟩
  have hb2' := hb1.trans (hb2.mono hb1.size)
  have hq2 := (hb2.cell (p := ⟨g, o + n, none⟩) (block_lt hq)).trans hq
  clear hSL hls
  rcases hR with ⟨v2, c, rfl, hrun, hM, hc1, hc2⟩ | ⟨k, hk, rfl, hH, hrun⟩
  · obtain ⟨a2, c2, rfl, _⟩ := hM.txns.form
    have HSH : Hid (Short c) := Lib.hid (fun t ht => by have := hc2 t ht; omega)
    have HM := Lib.hid (hM.base hb1.size)
    have HRN := Lib.hid hrun
    clear hM hrun hc2 hq
    cases hen : q.toList.isEmpty
    · have HRES : Hid (ParseRes s w.heap.size w2 (.returned (.tuple #[.slice none 0 0, .int .i64 ((n : Int) + 1), .int .i64 1]))) := Lib.hid (.inr ⟨c, HRN.out, .inl ⟨by rw [hEB, hen], by rw [hLL]⟩⟩)
      have hne : ¬ q.toList = [] := by intro h; rw [h] at hen; cases hen
      clear HM hEB
      go_wp2_with fail
      go_ret3
      exact ⟨HRES.out, hb2'⟩
    · have hem : q.toList = [] := by simpa using hen
      have CK := Lib.hid (fun wx (hx : Below w2.heap.size w2 wx) => rcheck_any _ c wx (HM.out.txns.below hx) HSH.out)
      have HK : Hid (checkR c ≠ 0 → ∀ wx, ParseRes s w.heap.size wx (.returned (.tuple #[.slice none 0 0, .int .i64 0, .int .i64 (checkR c)]))) := Lib.hid (fun hne wx => .inr ⟨c, HRN.out, .inr (.inl ⟨by rw [hEB, hen], by rw [check_ref]; exact hne, by rw [check_ref]⟩)⟩)
      have HK0 : Hid (checkR c = 0 → ∀ wx, Below w2.heap.size w2 wx → ParseRes s w.heap.size wx (.returned (.tuple #[.slice a2 c.length c2, .int .i64 0, .int .i64 0]))) := Lib.hid (fun he wx hx => .inr ⟨c, HRN.out, .inr (.inr ⟨by rw [hEB, hen], by rw [check_ref]; exact he, _, rfl, HM.out.below hx⟩)⟩)
      generalize checkR c = E at *
      clear HM hEB hen
      go_wp2_with fail
      refine (CK.out _ (Below.refl _ _)).mono ?_
      rintro e w3 ⟨rfl, hb3⟩
      have hb3' := hb2'.trans (hb3.mono hb2'.size)
      by_cases hE : E = 0
      · subst hE
        have HRES := Lib.hid (HK0.out rfl _ hb3)
        clear HK HK0 CK
        go_wp2_with fail
        go_ret3
        exact ⟨HRES.out, hb3'⟩
      · have HK2 := Lib.hid (HK.out hE)
        clear HK HK0
        go_wp2_with fail
        refine (CK.out _ hb3).mono ?_
        rintro e w4 ⟨rfl, hb4⟩
        have hb4' := hb3'.trans (hb4.mono hb3'.size)
        clear CK
        go_wp2_with fail
        go_ret3
        exact ⟨HK2.out _, hb4'⟩
  · have HRES : Hid (ParseRes s w.heap.size w2 (.returned (.tuple #[.slice none 0 0, .int .i64 ((k : Int) + 1), .int .i64 1]))) := Lib.hid (.inl ⟨k, hk, hH, hrun, rfl⟩)
    have hk1 : (0 : Int) < (k : Int) + 1 := by omega
    clear hrun hH hq hEB
    go_wp2_with fail
    go_ret3
    exact ⟨HRES.out, hb2'⟩
end Go.Proofs.YtlkdojcimlfmdaaDoor

namespace Go.Proofs.YtlkdojcimlfmdaaDoor
set_option maxRecDepth 100000
open Go.RowKit

/-- Operations in words, a line each; a transaction in words. -/
def opsTxt (l : List OpV) : List UInt8 := l.flatMap fun o => (textB o.wr o.key o.val).data.toList ++ [10]
def headTxt (s b c : Int) : List UInt8 := joinTo [116, 120, 110] [s, b, c] ++ [10]
def txnTxt (s b c : Int) (l : List OpV) : ByteArray := ⟨(headTxt s b c ++ opsTxt l).toArray⟩
theorem opsTxt_succ (l : List OpV) (k : Nat) (hk : k < l.length) : opsTxt (l.take (k + 1)) = opsTxt (l.take k) ++ (textB l[k].wr l[k].key l[k].val).data.toList ++ [10] := by
  unfold opsTxt; rw [take_snoc l k hk, List.flatMap_append]; simp
theorem textB_size (o : OpV) (h : o.ok) : (textB o.wr o.key o.val).size ≤ 45 := by
  have hl := joinTo_len (if o.wr then (⟨#[119]⟩ : ByteArray) else ⟨#[114]⟩).data.toList [o.key, o.val] (by intro n hn; simp at hn; rcases hn with rfl | rfl; exact h.1; exact h.2)
  have e : (if o.wr then (⟨#[119]⟩ : ByteArray) else ⟨#[114]⟩).data.toList.length = 1 := by cases o.wr <;> rfl
  rw [e] at hl
  unfold textB joinB
  simp only [ByteArray.size, List.size_toArray]
  simpa using hl
theorem opsTxt_len : ∀ (l : List OpV), (∀ o ∈ l, o.ok) → (opsTxt l).length ≤ 46 * l.length
  | [], _ => by simp [opsTxt]
  | a :: l, h => by
    have h1 := opsTxt_len l (fun o ho => h o (List.mem_cons_of_mem _ ho))
    have h2 := textB_size a (h a List.mem_cons_self)
    rw [Lib.size_eq] at h2
    unfold opsTxt at *
    simp only [List.flatMap_cons, List.length_append, List.length_cons, List.length_nil] at *
    omega
theorem headTxt_len (s b c : Int) (hs : IntOk s) (hb : IntOk b) (hc : IntOk c) : (headTxt s b c).length ≤ 80 := by
  have := joinTo_len [116, 120, 110] [s, b, c] (by intro n hn; simp at hn; rcases hn with rfl | rfl | rfl <;> assumption)
  unfold headTxt; simp at *; omega
set_option maxHeartbeats 8000000 in
theorem ttext_any (s b c : Int) (va : Value) (l : List OpV) (w : World) (he : Ten w) (ha : Ops w va l) (hok : ∀ o ∈ l, o.ok) (hs : IntOk s) (hb : IntOk b) (hc : IntOk c) (hlen : l.length ≤ 100000) :
    Calls Tryd.prog 24 #[.agg #[.int .i64 s, .int .i64 b, .int .i64 c, va]] w fun e w' => e = .returned (.string (txnTxt s b c l)) ∧ Below w.heap.size w w' := by
  obtain ⟨ao, cap, rfl, hal⟩ := ha.form
  have HOK := Lib.hid hok
  have HEN : Hid (∀ wx, Below w.heap.size w wx → Ten wx) := Lib.hid (fun wx h => he.below h)
  have hhl := headTxt_len s b c hs hb hc
  have HL : Hid (∀ k, k ≤ l.length → (opsTxt (l.take k)).length ≤ 46 * k) := Lib.hid (fun k hk => by
    have := opsTxt_len (l.take k) (fun o ho => hok o (List.mem_of_mem_take ho))
    rw [List.length_take, Nat.min_eq_left hk] at this; exact this)
  have hw1 := (Below.refl w.heap.size w).alloc (Nat.le_refl _) (.cells #[.int .i64 s, .int .i64 b, .int .i64 c, .slice ao l.length cap] 29)
  have hB1 := bld_new (w.alloc (.cells #[.int .i64 s, .int .i64 b, .int .i64 c, .slice ao l.length cap] 29))
  obtain ⟨t0, t1, t2, t3⟩ := txnBlock w (.int .i64 s) (.int .i64 b) (.int .i64 c) (.slice ao l.length cap) 29
  rw [show (w.alloc (.cells #[.int .i64 s, .int .i64 b, .int .i64 c, .slice ao l.length cap] 29)).heap.size = w.heap.size + 1 from by simp] at hB1
  have hw2 := hw1.alloc hw1.size (.cells #[.pointer none, .slice none 0 0] 67)
  have HI : Hid (∀ wx : World, Ints (wx.alloc (.cells #[.int .i64 s, .int .i64 b, .int .i64 c] 3)) (.slice (some ⟨wx.heap.size, 0, none⟩) 3 3) [s, b, c]) := Lib.hid (fun wx => ints_lit wx [s, b, c] #[.int .i64 s, .int .i64 b, .int .i64 c] 3 rfl rfl (by decide))
  have HIO : Hid (∀ n ∈ [s, b, c], IntOk n) := Lib.hid (by intro n hn; simp at hn; rcases hn with rfl | rfl | rfl <;> assumption)
  clear hok he hs hb hc
  go_enter Tryd.func24, Tryd.ntmps24
  go_wp2_with fail
  have HSZ : Hid (((w.alloc (.cells #[.int .i64 s, .int .i64 b, .int .i64 c, .slice ao l.length cap] 29)).alloc (.cells #[.pointer none, .slice none 0 0] 67)).heap.size = w.heap.size + 1 + 1) := Lib.hid (by simp)
  have t3' := ((box_below (w.alloc (.cells #[.int .i64 s, .int .i64 b, .int .i64 c, .slice ao l.length cap] 29)) (.cells #[.pointer none, .slice none 0 0] 67)).cell (p := ⟨w.heap.size, 3, none⟩) (block_lt t3)).trans t3
  clear t0 t1 t2 t3 hw1
  generalize (w.alloc (.cells #[.int .i64 s, .int .i64 b, .int .i64 c, .slice ao l.length cap] 29)).alloc (.cells #[.pointer none, .slice none 0 0] 67) = w2 at *
  rw [← HSZ.out]
  have hw3 := hw2.alloc hw2.size (.cells #[.int .i64 s, .int .i64 b, .int .i64 c] 3)
  refine (join_ten ⟨#[116, 120, 110]⟩ _ [s, b, c] _ (HEN.out _ hw3) (HI.out w2) HIO.out (by simp [ByteArray.size])).mono ?_
  rintro e w4 ⟨rfl, hb4⟩
  have hw4 := below_then hw3 hb4
  have hbb4 := below_then ((Below.refl w2.heap.size w2).alloc (Nat.le_refl _) (.cells #[.int .i64 s, .int .i64 b, .int .i64 c] 3)) hb4
  have hB4 := hB1.grown hbb4
  have t4 := (hbb4.cell (p := ⟨w.heap.size, 3, none⟩) (block_lt t3')).trans t3'
  have CW := Lib.hid (write_any (w.heap.size + 1) (w.heap.size + 1) [] (joinB ⟨#[116, 120, 110]⟩ [s, b, c]) w4 hB4 (by
    have := headTxt_len s b c (HIO.out s (by simp)) (HIO.out b (by simp)) (HIO.out c (by simp))
    have h2 : (headTxt s b c).length = (joinB ⟨#[116, 120, 110]⟩ [s, b, c]).size + 1 := by unfold headTxt joinB; simp [ByteArray.size]
    rw [List.length_nil]; omega))
  have HJ : Hid ((joinB ⟨#[116, 120, 110]⟩ [s, b, c]).data.toList ++ [10] = headTxt s b c) := Lib.hid (by unfold headTxt joinB; simp)
  clear hB1 hB4 hw2 hw3 hb4 hbb4 t3' HI HIO HSZ
  generalize joinB ⟨#[116, 120, 110]⟩ [s, b, c] = J at *
  go_wp2_with fail
  refine (CW.out).mono ?_
  rintro e w5 ⟨rfl, hB5, hb5⟩
  have hw5 := hw4.trans (hb5.mono (by omega))
  have t5 := (hb5.cell (p := ⟨w.heap.size, 3, none⟩) (by show w.heap.size < w.heap.size + 1; omega)).trans t4
  rw [List.nil_append] at hB5
  have hjl : Hid (J.data.toList.length + 1 = (headTxt s b c).length) := Lib.hid (by rw [← HJ.out]; simp)
  have CW2 := Lib.hid (write_any (w.heap.size + 1) (w.heap.size + 1) J.data.toList ⟨#[10]⟩ w5 hB5 (by have : (⟨#[10]⟩ : ByteArray).size = 1 := rfl; have := hjl.out; omega))
  clear CW hB5 hb5 hw4 t4
  go_wp2_with fail
  refine (CW2.out).mono ?_
  rintro e w6 ⟨rfl, hB6, hb6⟩
  have hw6 := hw5.trans (hb6.mono (by omega))
  have t6 := (hb6.cell (p := ⟨w.heap.size, 3, none⟩) (by show w.heap.size < w.heap.size + 1; omega)).trans t5
  rw [show J.data.toList ++ (⟨#[10]⟩ : ByteArray).data.toList = headTxt s b c from HJ.out] at hB6
  clear CW2 hb6 hw5 t5 HJ hjl
  have HT : Hid (txnTxt s b c l = ⟨(headTxt s b c ++ opsTxt l).toArray⟩) := Lib.hid rfl
  generalize headTxt s b c = T at *
  go_wp2_with fail
  go_loopw [19] (fun i wr => ∃ k : Nat, k ≤ l.length ∧ i = .int .i64 k ∧ Bld (w.heap.size + 1) (w.heap.size + 1) (T ++ opsTxt (l.take k)) wr ∧ Below w.heap.size w wr) (fun i _ => l.length - (intOf i).toNat)
  case atStart => exact ⟨0, by omega, rfl, by simpa [opsTxt] using hB6, hw6⟩
  case round =>
    obtain ⟨k, hk, rfl, hB, hbw⟩ := hrel
    clear hB6 hw6 t6
    by_cases hlt : k < l.length
    · have hki : (k : Int) < (l.length : Int) := by omega
      obtain ⟨g, o, hao, c0, c1, c2⟩ := (ha.below hbw).at hlt
      cases hao
      have HS := Lib.hid (opsTxt_succ l k hlt)
      have hlk := HL.out k hk
      have hox := HOK.out l[k] (List.getElem_mem hlt)
      have hts := textB_size l[k] hox
      generalize opsTxt (l.take k) = O at *
      generalize l[k] = x at *
      obtain ⟨xw, xk, xv⟩ := x
      try simp only at c0 c1 c2
      have hbx := hbw.alloc hbw.size (.cells #[.bool xw, .int .i64 xk, .int .i64 xv] 26)
      have CT := Lib.hid (text_ten xw xk xv _ (HEN.out _ hbx) hox.1 hox.2)
      have hBx := hB.grown ((Below.refl wr.heap.size wr).alloc (Nat.le_refl _) (.cells #[.bool xw, .int .i64 xk, .int .i64 xv] 26))
      generalize textB xw xk xv = t at *
      have htl := Lib.size_eq t
      clear hox hB hbw
      go_wp2_with fail
      refine (CT.out).mono ?_
      rintro e w7 ⟨rfl, hb7⟩
      have hw7 := below_then hbx hb7
      have hB7 := hBx.grown hb7
      have CW := Lib.hid (write_any (w.heap.size + 1) (w.heap.size + 1) (T ++ O) t w7 hB7 (by simp; omega))
      clear CT hBx hb7 hB7 hbx
      go_wp2_with fail
      refine (CW.out).mono ?_
      rintro e w8 ⟨rfl, hB8, hb8⟩
      have hw8 := hw7.trans (hb8.mono (by omega))
      have CW2 := Lib.hid (write_any (w.heap.size + 1) (w.heap.size + 1) (T ++ O ++ t.data.toList) ⟨#[10]⟩ w8 hB8 (by have : (⟨#[10]⟩ : ByteArray).size = 1 := rfl; simp; omega))
      clear CW hb8 hw7 hB8
      go_wp2_with fail
      refine (CW2.out).mono ?_
      rintro e w9 ⟨rfl, hB9, hb9⟩
      have hw9 := hw8.trans (hb9.mono (by omega))
      clear CW2 hb9 hw8
      go_wp2_with fail
      go_roundw
      case rel => exact ⟨k + 1, by omega, by go_num, by rw [HS.out]; simpa [List.append_assoc] using hB9, hw9⟩
      case measure => simp [intOf]; omega
    · have hkl : k = l.length := by omega
      subst hkl
      rw [List.take_length] at hB
      have CS := Lib.hid (bld_string (w.heap.size + 1) (w.heap.size + 1) _ wr hB)
      have HZ : Hid (txnTxt s b c l = ⟨(T ++ opsTxt l).toArray⟩) := Lib.hid HT.out
      clear hB
      go_wp2_with fail
      refine (CS.out).mono ?_
      rintro e w' ⟨rfl, hbs⟩
      rw [← HZ.out]
      go_wp2_with fail
      go_ret
      exact ⟨rfl, hbw.trans (hbs.mono (by omega))⟩
end Go.Proofs.YtlkdojcimlfmdaaDoor

namespace Go.Proofs.YtlkdojcimlfmdaaDoor
set_option maxRecDepth 100000
open Go.RowKit

/-- Transactions in words. -/
def prTxt (h : List TxnV) : List UInt8 := h.flatMap fun t => headTxt t.s t.b t.c ++ opsTxt t.l
theorem prTxt_succ (h : List TxnV) (k : Nat) (hk : k < h.length) : prTxt (h.take (k + 1)) = prTxt (h.take k) ++ (txnTxt h[k].s h[k].b h[k].c h[k].l).data.toList := by
  unfold prTxt; rw [List.take_succ_eq_append_getElem hk, List.flatMap_append]; simp [txnTxt]
theorem prTxt_len : ∀ (h : List TxnV), (∀ t ∈ h, t.ok ∧ t.l.length ≤ 100000) → (prTxt h).length ≤ 4600080 * h.length
  | [], _ => by simp [prTxt]
  | t :: h, hh => by
    have ih := prTxt_len h (fun u hu => hh u (List.mem_cons_of_mem _ hu))
    obtain ⟨⟨⟨h1, h2, h3⟩, h4⟩, h5⟩ := hh t List.mem_cons_self
    have a1 := headTxt_len t.s t.b t.c h1 h2 h3
    have a2 := opsTxt_len t.l h4
    unfold prTxt at *
    rw [List.flatMap_cons, List.length_append, List.length_append, List.length_cons]
    omega
set_option maxHeartbeats 8000000 in
theorem print_any (va : Value) (h : List TxnV) (w : World) (he : Ten w) (hT : Txns w va h) (hh : ∀ t ∈ h, t.ok ∧ t.l.length ≤ 100000) (hl : h.length ≤ 100000) :
    Calls Tryd.prog 18 #[va] w fun e w' => e = .returned (.string ⟨(prTxt h).toArray⟩) ∧ Below w.heap.size w w' := by
  obtain ⟨ao, cap, rfl, hal⟩ := hT.form
  have HT := Lib.hid (fun wx (hx : Below w.heap.size w wx) => hT.below hx)
  have HE := Lib.hid (fun wx (hx : Below w.heap.size w wx) => he.below hx)
  have HH := Lib.hid hh
  have HL : Hid (∀ k, k ≤ h.length → (prTxt (h.take k)).length ≤ 4600080 * k) := Lib.hid (fun k hk => by
    have := prTxt_len (h.take k) (fun t ht => hh t (List.mem_of_mem_take ht))
    rw [List.length_take, Nat.min_eq_left hk] at this; exact this)
  have hB0 := bld_new w
  have hb0 := box_below w (.cells #[.pointer none, .slice none 0 0] 67)
  clear he hT hh
  go_enter Tryd.func18, Tryd.ntmps18
  go_wp2_with fail
  go_loopw [8] (fun i wr => ∃ k : Nat, k ≤ h.length ∧ i = .int .i64 k ∧ Bld w.heap.size w.heap.size (prTxt (h.take k)) wr ∧ Below w.heap.size w wr) (fun i _ => h.length - (intOf i).toNat)
  case atStart => exact ⟨0, by omega, rfl, hB0, hb0⟩
  case round =>
    obtain ⟨k, hk, rfl, hB, hb⟩ := hrel
    clear hB0 hb0
    by_cases hlt : k < h.length
    · have hki : (k : Int) < (h.length : Int) := by omega
      obtain ⟨g, o, hao, c0, c1, c2, c3⟩ := (HT.out _ hb).at hlt
      cases hao
      have HS := Lib.hid (prTxt_succ h k hlt)
      have hll := HL.out k hk
      have HL1 := Lib.hid (HL.out (k + 1) hlt)
      have hOps := fun wx (hx : Below w.heap.size w wx) => (HT.out wx hx).ops hlt
      obtain ⟨⟨⟨i1, i2, i3⟩, i4⟩, i5⟩ := HH.out h[k] (List.getElem_mem hlt)
      generalize h[k] = t at *
      obtain ⟨s, b, cc, v, l⟩ := t
      simp only at c0 c1 c2 c3 hOps HS i1 i2 i3 i4 i5
      obtain ⟨ai, capi, rfl, _⟩ := (hOps wr hb).form
      have hbx := box_below wr (.cells #[.int .i64 s, .int .i64 b, .int .i64 cc, .slice ai l.length capi] 29)
      have hbb := hb.trans (hbx.mono hb.size)
      have hB1 := hB.grown hbx
      have CT := Lib.hid (ttext_any s b cc _ l _ (HE.out _ hbb) (hOps _ hbb) i4 i1 i2 i3 i5)
      have hts : (prTxt (h.take k)).length + (txnTxt s b cc l).size ≤ 140737488355328 := by
        have := HL1.out
        rw [HS.out, List.length_append] at this
        rw [Lib.size_eq]; omega
      clear hOps i1 i2 i3 i4 i5 hB
      generalize txnTxt s b cc l = T at *
      generalize prTxt (h.take k) = P at *
      go_wp2_with fail
      refine (CT.out).mono ?_
      rintro e w2 ⟨rfl, hb2⟩
      have hB2 := hB1.grown hb2
      have hb3 := hbb.trans (hb2.mono hbb.size)
      clear hB1 hb2 hbx hbb CT
      go_wp2_with fail
      refine (write_any _ _ P T w2 hB2 hts).mono ?_
      rintro e w3 ⟨rfl, hB3, hb4⟩
      have hb5 := hb3.trans hb4
      clear hB2 hb3 hb4
      go_wp2_with fail
      go_roundw
      case rel => exact ⟨k + 1, by omega, by go_num, by rw [HS.out]; exact hB3, hb5⟩
      case measure => simp [intOf]; omega
    · have hkl : k = h.length := by omega
      subst hkl
      rw [List.take_length] at hB
      go_wp2_with fail
      refine (bld_string _ _ _ _ hB).mono ?_
      rintro e w3 ⟨rfl, hb4⟩
      have hb5 := hb.trans hb4
      go_wp2_with fail
      go_ret
      exact ⟨rfl, hb5⟩
end Go.Proofs.YtlkdojcimlfmdaaDoor

namespace Go.Proofs.YtlkdojcimlfmdaaDoor
set_option maxRecDepth 100000
open Go.RowKit

def sp7a : ByteArray := ⟨#[116, 120, 110, 32, 48, 32, 49, 32, 50, 10, 119, 32, 51, 32, 53, 10]⟩
def sp7b : ByteArray := ⟨#[116, 120, 110, 32, 48, 32, 49, 32, 50, 10, 119, 32, 51, 10]⟩
def sp7H : List (Int × Int × Int × List OpV) := [(0, 1, 2, [⟨true, 3, 5⟩])]
theorem sp7a_run : runL (linesB sp7a) = some sp7H := by decide
theorem sp7a_end : endedB sp7a = true := by unfold endedB; rw [ByteArray.toList_eq]; decide
theorem sp7b_len : (linesB sp7b).length = 2 := by decide
theorem one_of {c : List TxnV} {a b d : Int} {l : List OpV} (h : c.map txE = [(a, b, d, l)]) : ∃ v, c = [⟨a, b, d, v, l⟩] := by
  match c, h with
  | [t], h =>
    obtain ⟨s, b', c', v, l'⟩ := t
    simp [txE] at h
    obtain ⟨rfl, rfl, rfl, rfl⟩ := h
    exact ⟨v, rfl⟩
theorem sp7_check (v : Value) : checkI [⟨0, 1, 2, v, [⟨true, 3, 5⟩]⟩] = 0 := by rfl
theorem sp7_print (v : Value) : (⟨(prTxt [⟨0, 1, 2, v, [⟨true, 3, 5⟩]⟩]).toArray⟩ : ByteArray) = sp7a := by
  unfold prTxt headTxt opsTxt textB joinB joinTo
  have e0 : Lib.itoa 0 = [48] := by rw [itoa_digit (by decide) (by decide)]; rfl
  have e1 : Lib.itoa 1 = [49] := by rw [itoa_digit (by decide) (by decide)]; rfl
  have e2 : Lib.itoa 2 = [50] := by rw [itoa_digit (by decide) (by decide)]; rfl
  have e3 : Lib.itoa 3 = [51] := by rw [itoa_digit (by decide) (by decide)]; rfl
  have e5 : Lib.itoa 5 = [53] := by rw [itoa_digit (by decide) (by decide)]; rfl
  simp only [List.flatMap_cons, List.flatMap_nil, e0, e1, e2, e3, e5]
  rfl
theorem sp7_parse (w : World) (he : Env w) :
    Calls Tryd.prog 15 #[.string sp7a] w fun e w' => ∃ v tv, e = .returned (.tuple #[v, .int .i64 0, .int .i64 0]) ∧ Made w' w.heap.size v [⟨0, 1, 2, tv, [⟨true, 3, 5⟩]⟩] ∧ Below w.heap.size w w' :=
  (sparse_any sp7a w he (by decide)).mono fun e w' ⟨hR, hb⟩ => by
    rcases hR with ⟨k, hk, _, hno, _⟩ | ⟨c, hrun, hR⟩
    · exfalso
      have hl : (linesB sp7a).length = 2 := by decide
      rw [hl] at hk
      match k, hk with
      | 0, _ => exact absurd hno (by decide)
      | 1, _ => exact absurd hno (by decide)
    · rw [sp7a_run] at hrun
      obtain ⟨tv, rfl⟩ := one_of (Option.some.inj hrun).symm
      rcases hR with ⟨h1, _⟩ | ⟨_, h1, _⟩ | ⟨_, _, v, rfl, hM⟩
      · rw [sp7a_end] at h1; cases h1
      · exact absurd (sp7_check tv) h1
      · exact ⟨v, tv, rfl, hM, hb⟩
theorem sp7_not (w : World) (he : Env w) :
    Calls Tryd.prog 15 #[.string sp7b] w fun e w' => e = .returned (.tuple #[.slice none 0 0, .int .i64 2, .int .i64 1]) ∧ Below w.heap.size w w' :=
  (sparse_any sp7b w he (by decide)).mono fun e w' ⟨hR, hb⟩ => by
    rcases hR with ⟨k, hk, _, hno, rfl⟩ | ⟨c, hrun, hR⟩
    · rw [sp7b_len] at hk
      match k, hk with
      | 0, _ => exact absurd hno (by decide)
      | 1, _ => exact ⟨rfl, hb⟩
    · exfalso
      have : runL (linesB sp7b) = none := by decide
      rw [this] at hrun; cases hrun
set_option maxHeartbeats 4000000 in
theorem speaks7_any (w : World) (he : Env w) :
    Calls Tryd.prog 14 #[] w fun e w' => e = .returned (.bool true) ∧ Below w.heap.size w w' := by
  have HE := Lib.hid (fun wx (hx : Below w.heap.size w wx) => he.below hx)
  have C1 := Lib.hid (sp7_parse w he)
  have C2 := Lib.hid (fun wx (hx : Below w.heap.size w wx) => sp7_not wx (HE.out wx hx))
  unfold sp7a at C1
  unfold sp7b at C2
  clear he
  go_enter Tryd.func14, Tryd.ntmps14
  go_wp2_with fail
  refine (C1.out).mono ?_
  rintro e w1 ⟨v, tv, rfl, hM, hb1⟩
  go_wp2_with fail
  refine (C2.out _ hb1).mono ?_
  rintro e w2 ⟨rfl, hb2⟩
  have hb3 := hb1.trans (hb2.mono hb1.size)
  have hM2 := hM.below hb2
  obtain ⟨av, cv, rfl, _⟩ := hM2.txns.form
  obtain ⟨g, o, hao, _, _, _, c3⟩ := hM2.txns.at (k := 0) (by simp)
  cases hao
  obtain ⟨ai, ci, hv, _⟩ := (hM2.txns.ops (k := 0) (by simp)).form
  simp at hv c3
  subst hv
  have CP := Lib.hid (print_any _ _ w2 (HE.out _ hb3).1 hM2.txns (by
    intro t ht
    obtain rfl := List.mem_singleton.1 ht
    refine ⟨⟨⟨?_, ?_, ?_⟩, ?_⟩, by simp⟩
    iterate 3 (simp [IntOk])
    intro x hx
    obtain rfl := List.mem_singleton.1 hx
    simp [OpV.ok, IntOk]) (by simp))
  rw [sp7_print] at CP
  unfold sp7a at CP
  clear C1 C2 hM hM2 hb1 hb2
  go_wp2_with fail
  refine (CP.out).mono ?_
  rintro e w3 ⟨rfl, hb4⟩
  have hb5 := hb3.trans (hb4.mono hb3.size)
  clear hb3 hb4 CP
  go_wp2_with fail
  go_ret
  exact ⟨rfl, hb5⟩
end Go.Proofs.YtlkdojcimlfmdaaDoor

namespace Go.Proofs.YtlkdojcimlfmdaaDoor
set_option maxRecDepth 100000
open Go.RowKit

theorem cut_inv {c : UInt8} : ∀ (l : List UInt8) {p : List UInt8} {ps : List (List UInt8)}, cutL c l = p :: ps → l = p ++ ps.flatMap (fun q => c :: q)
  | [], p, ps, h => by
    simp [cutL] at h
    obtain ⟨rfl, rfl⟩ := h
    rfl
  | b :: l, p, ps, h => by
    unfold cutL at h
    split at h
    · rename_i hb
      obtain ⟨rfl, rfl⟩ := List.cons.inj h
      cases hc : cutL c l with
      | nil => exact absurd hc (cutL_ne c l)
      | cons q qs =>
        have := cut_inv l hc
        rw [List.nil_append, List.flatMap_cons, hb]
        rw [this]; simp
    · obtain ⟨rfl, rfl⟩ := List.cons.inj h
      cases hc : cutL c l with
      | nil => exact absurd hc (cutL_ne c l)
      | cons q qs =>
        have := cut_inv l hc
        simp
        rw [this]
        try simp
theorem okN_itoa_back {l : List UInt8} (h : okN l = true) : Lib.itoa ((numV l : Nat) : Int) = l := by
  unfold Lib.itoa
  rw [if_neg (by omega), Int.toNat_natCast, okN_dec h]
theorem join_words {s : ByteArray} {many : Int} (h : wordsOK s many = true) : joinB (headB s) (numsOf s) = s := by
  unfold wordsOK at h
  simp only [Bool.and_eq_true, List.all_eq_true] at h
  obtain ⟨_, hall⟩ := h
  apply byteArray_ext
  unfold joinB joinTo headB numsOf numsB
  unfold cutB at *
  cases hc : cutL 32 s.data.toList with
  | nil => exact absurd hc (cutL_ne _ _)
  | cons p ps =>
    have hi := cut_inv _ hc
    rw [hc] at hall
    simp only [List.map_cons, List.tail_cons, List.headD_cons] at hall ⊢
    rw [hi]
    simp only [List.map_map, List.flatMap_map]
    congr 1
    have : ∀ q ∈ ps, (32 :: Lib.itoa ((numV q : Nat) : Int)) = 32 :: q := by
      intro q hq
      have := hall ⟨q.toArray⟩ (List.mem_map.2 ⟨q, hq, rfl⟩)
      rw [okN_itoa_back (by simpa using this)]
    clear hall hi hc
    induction ps with
    | nil => rfl
    | cons q qs ih =>
      rw [List.flatMap_cons, List.flatMap_cons, ← ih (fun q hq => this q (List.mem_cons_of_mem _ hq))]
      have := this q List.mem_cons_self
      simp at this ⊢
      exact this
end Go.Proofs.YtlkdojcimlfmdaaDoor

namespace Go.Proofs.YtlkdojcimlfmdaaDoor
set_option maxRecDepth 100000
open Go.RowKit

def textO (o : OpV) : ByteArray := textB o.wr o.key o.val
end Go.Proofs.YtlkdojcimlfmdaaDoor

namespace Go.Proofs.YtlkdojcimlfmdaaDoor
set_option maxRecDepth 100000
open Go.RowKit

/-- A transaction, its operations nowhere. -/
def zT (t : TxnV) : TxnV := ⟨t.s, t.b, t.c, .slice none 0 0, t.l⟩
theorem zT_of {c h : List TxnV} (e : c.map txE = h.map txE) : c.map zT = h.map zT := by
  have k : ∀ l : List TxnV, l.map zT = (l.map txE).map fun q => (⟨q.1, q.2.1, q.2.2.1, .slice none 0 0, q.2.2.2⟩ : TxnV) := fun l => by rw [List.map_map]; rfl
  rw [k, k, e]
theorem opsN_z (h : List TxnV) : opsN (h.map zT) = opsN h := by unfold opsN; rw [List.map_map]; rfl
theorem partsB_z (h : List TxnV) : partsB (h.map zT) = partsB h := by unfold partsB; rw [List.all_map]; rfl
theorem wvH_z (h : List TxnV) : wvH (h.map zT) = wvH h := by unfold wvH; rw [List.flatMap_map]; rfl
theorem opsAt_z (h : List TxnV) (k : Nat) : opsAt (h.map zT) k = opsAt h k := by unfold opsAt; rw [List.getElem?_map]; cases h[k]? <;> rfl
theorem wrTo_z (h : List TxnV) (k : Nat) : wrTo (h.map zT) k = wrTo h k := by
  unfold wrTo
  congr 1
  funext F j
  rw [opsAt_z]
theorem valuesB_z (h : List TxnV) : valuesB (h.map zT) = valuesB h := by
  unfold valuesB okW
  rw [wvH_z, List.all_map, List.length_map, wrTo_z]; rfl
theorem stampsB_z (h : List TxnV) : stampsB (h.map zT) = stampsB h := by
  have : stL (h.map zT) = stL h := by unfold stL; rw [List.flatMap_map]; rfl
  unfold stampsB; rw [this]
theorem endF_z (h : List TxnV) : endF (h.map zT) = endF h := by
  funext x
  unfold endF
  rw [List.filter_map, List.getLast?_map, Option.map_map]; rfl
theorem sesOk_z (h : List TxnV) (k : Nat) : sesOk (h.map zT) k = sesOk h k := by
  unfold sesOk
  rw [List.getElem?_map, ← List.map_take, endF_z]
  cases h[k]? <;> rfl
theorem sesB_z (h : List TxnV) : sesB (h.map zT) = sesB h := by
  unfold sesB
  rw [List.length_map]
  congr 1
  funext k
  exact sesOk_z h k
theorem checkI_z (h : List TxnV) : checkI (h.map zT) = checkI h := by
  unfold checkI rightB
  rw [List.length_map, opsN_z, partsB_z, valuesB_z, stampsB_z, sesB_z]
theorem checkI_txE {c h : List TxnV} (e : c.map txE = h.map txE) : checkI c = checkI h := by
  rw [← checkI_z c, ← checkI_z h, zT_of e]
theorem checkI_right {h : List TxnV} (e : checkI h = 0) : h.length ≤ 64 ∧ opsN h ≤ 1024 ∧ ∀ t ∈ h, mayT t.s t.b t.c t.l = true := by
  unfold checkI at e
  split at e
  · cases e
  · split at e
    · rename_i h1 h2
      refine ⟨by omega, by omega, ?_⟩
      unfold rightB at h2
      simp only [Bool.and_eq_true] at h2
      exact List.all_eq_true.1 h2.1
    · cases e
/-- The line that begins a transaction. -/
def headT (a b c : Int) : ByteArray := joinB ⟨#[116, 120, 110]⟩ [a, b, c]
def txnLines (t : TxnV) : List ByteArray := headT t.s t.b t.c :: t.l.map textO
def allLines (h : List TxnV) : List ByteArray := h.flatMap txnLines
theorem prTxt_lines (h : List TxnV) : prTxt h = (allLines h).flatMap fun s => s.data.toList ++ [10] := by
  unfold prTxt allLines
  rw [List.flatMap_assoc]
  congr 1
  funext t
  unfold txnLines
  rw [List.flatMap_cons, List.flatMap_map]
  rfl
end Go.Proofs.YtlkdojcimlfmdaaDoor

namespace Go.Proofs.YtlkdojcimlfmdaaDoor
set_option maxRecDepth 100000
open Go.RowKit

theorem runL_stop {L : List ByteArray} {k : Nat} (h : runL (L.take k) = none) : runL L = none := by
  have : L = L.take k ++ L.drop k := (List.take_append_drop k L).symm
  rw [this]
  unfold runL at *
  rw [List.foldl_append, h]
  generalize L.drop k = M
  induction M with
  | nil => rfl
  | cons s M ih => rw [List.foldl_cons]; exact ih
end Go.Proofs.YtlkdojcimlfmdaaDoor

namespace Go.Proofs.YtlkdojcimlfmdaaDoor
set_option maxRecDepth 100000
open Go.RowKit

theorem begR_text {s : ByteArray} {a b c : Int} (h : begR s = (true, a, b, c)) : s = headT a b c := by
  unfold begR at h
  split at h
  · rename_i hw
    simp only [Bool.and_eq_true] at hw
    obtain ⟨a', b', c', e, _, _, _⟩ := nums_three hw.1
    rw [e] at h
    simp at h
    obtain ⟨rfl, rfl, rfl⟩ := h
    have hj := join_words hw.1
    have hi := hw.2
    unfold isT at hi
    have hh : headB s = ⟨#[116, 120, 110]⟩ := by
      apply byteArray_ext
      rw [of_decide_eq_true hi]
    rw [e, hh] at hj
    exact hj.symm
  · simp at h
theorem parseR_text {s : ByteArray} {o : OpV} (h : parseR s = (true, o)) : s = textO o := by
  unfold parseR at h
  split at h
  · rename_i hw
    obtain ⟨a, b, e, _, _⟩ := nums_two hw
    have hj := join_words hw
    rw [e] at h hj
    simp only at h
    split at h
    · rename_i hm
      simp only [Bool.and_eq_true] at hm
      simp at h
      subst h
      unfold textO textB
      have hh : headB s = (if isW s = true then ⟨#[119]⟩ else ⟨#[114]⟩) := by
        cases hi : isW s
        · have : isRd s = true := by have := hm.1; rw [hi] at this; simpa using this
          unfold isRd at this
          apply byteArray_ext
          rw [of_decide_eq_true this]; rfl
        · unfold isW at hi
          apply byteArray_ext
          rw [of_decide_eq_true hi]; rfl
      rw [hh] at hj
      exact hj.symm
    · simp at h
  · simp at h
def linesE (H : List (Int × Int × Int × List OpV)) : List ByteArray := H.flatMap fun t => headT t.1 t.2.1 t.2.2.1 :: t.2.2.2.map textO
theorem linesE_txE (c : List TxnV) : linesE (c.map txE) = allLines c := by unfold linesE allLines; rw [List.flatMap_map]; rfl
theorem linesE_step {H H' : List (Int × Int × Int × List OpV)} {s : ByteArray} (h : stepL H s = some H') : linesE H' = linesE H ++ [s] := by
  unfold stepL at h
  cases hb : begR s with
  | mk rb r =>
    obtain ⟨a, b, c⟩ := r
    rw [hb] at h
    cases rb
    · simp only [Bool.false_eq_true, if_false] at h
      cases hl : H.getLast? with
      | none => rw [hl] at h; cases h
      | some t =>
        rw [hl] at h
        cases hp : parseR s with
        | mk qb o =>
          rw [hp] at h
          cases qb
          · cases h
          · simp only [if_true] at h
            obtain rfl := Option.some.inj h
            have hne : H ≠ [] := by rintro rfl; cases hl
            have hH : H = H.dropLast ++ [t] := by
              rw [List.getLast?_eq_some_getLast hne] at hl
              rw [← Option.some.inj hl]
              exact (List.dropLast_concat_getLast hne).symm
            have e : linesE H = linesE H.dropLast ++ (headT t.1 t.2.1 t.2.2.1 :: t.2.2.2.map textO) := by
              conv => lhs; rw [hH]
              unfold linesE; rw [List.flatMap_append]; simp
            rw [e]
            unfold linesE
            rw [List.flatMap_append]
            simp [parseR_text hp]
    · simp only [if_true] at h
      obtain rfl := Option.some.inj h
      unfold linesE
      rw [List.flatMap_append]
      simp [begR_text hb]
theorem linesE_run (L : List ByteArray) : ∀ (k : Nat) (H : List (Int × Int × Int × List OpV)), k ≤ L.length → runL (L.take k) = some H → linesE H = L.take k
  | 0, H, _, h => by
    have : H = [] := by
      unfold runL at h; simp at h; exact h
    rw [this]; rfl
  | k + 1, H, hk, h => by
    rw [List.take_succ_eq_append_getElem (by omega), runL_snoc] at h
    rw [List.take_succ_eq_append_getElem (by omega)]
    cases h2 : runL (L.take k) with
    | none => rw [h2] at h; cases h
    | some H2 =>
      rw [h2] at h
      rw [linesE_step h, linesE_run L k H2 (by omega) h2]
theorem cut_ended (c : UInt8) : ∀ (M : List (List UInt8)) (p : List UInt8), p ++ (M ++ [[]]).flatMap (fun q => c :: q) = (p :: M).flatMap (fun q => q ++ [c])
  | [], p => by simp
  | q :: M, p => by
    have := cut_ended c M q
    rw [List.cons_append, List.flatMap_cons, List.cons_append, this]
    simp
theorem cut_back {c : UInt8} {l : List UInt8} {M : List (List UInt8)} (h : cutL c l = M ++ [[]]) : l = M.flatMap fun q => q ++ [c] := by
  cases M with
  | nil => have := cut_inv l (p := []) (ps := []) h; simpa using this
  | cons p M =>
    have := cut_inv l (p := p) (ps := M ++ [[]]) h
    rw [this, cut_ended]
theorem print_inv {s : ByteArray} {c : List TxnV} (hr : runL (linesB s) = some (c.map txE)) (he : endedB s = true) : (⟨(prTxt c).toArray⟩ : ByteArray) = s := by
  have hL : allLines c = linesB s := by
    have := linesE_run (linesB s) (linesB s).length _ (Nat.le_refl _) (by rw [List.take_length]; exact hr)
    rw [List.take_length, linesE_txE] at this
    exact this
  rw [prTxt_lines, hL]
  have hne := cutL_ne 10 s.data.toList
  have hcl := (List.dropLast_concat_getLast hne).symm
  have hlast : (cutL 10 s.data.toList).getLast hne = [] := by
    unfold endedB cutB at he
    rw [List.getLastD_eq_getLast?, List.getLast?_map, List.getLast?_eq_some_getLast hne] at he
    simpa [ByteArray.toList_eq] using he
  rw [hlast] at hcl
  have hb := cut_back hcl
  have hlb : linesB s = (cutL 10 s.data.toList).dropLast.map fun q => (⟨q.toArray⟩ : ByteArray) := by
    unfold linesB cutB; rw [List.map_dropLast]
  rw [hlb, List.flatMap_map]
  apply byteArray_ext
  simp only
  exact hb.symm
theorem parse_two {s : ByteArray} {b b' : Nat} {w w' : World} {e e' : Ending} (h : ParseRes s b w e) (k : ParseRes s b' w' e') :
    (∃ n x : Int, x ≠ 0 ∧ e = .returned (.tuple #[.slice none 0 0, .int .i64 n, .int .i64 x]) ∧ e' = .returned (.tuple #[.slice none 0 0, .int .i64 n, .int .i64 x])) ∨
    (∃ v v' c c', e = .returned (.tuple #[v, .int .i64 0, .int .i64 0]) ∧ e' = .returned (.tuple #[v', .int .i64 0, .int .i64 0]) ∧ Made w b v c ∧ Made w' b' v' c' ∧ c.map txE = c'.map txE ∧ runL (linesB s) = some (c.map txE) ∧ endedB s = true ∧ checkI c = 0) := by
  have stop : ∀ i j, i < j → runL ((linesB s).take (i + 1)) = none → (∃ H, runL ((linesB s).take j) = some H) → False := fun i j hij h1 ⟨H, h2⟩ => by
    have e1 : (linesB s).take (i + 1) = ((linesB s).take j).take (i + 1) := by rw [List.take_take, Nat.min_eq_left (by omega)]
    rw [e1] at h1
    rw [runL_stop h1] at h2
    cases h2
  rcases h with ⟨i, hi, hiH, hin, rfl⟩ | ⟨c, hr, h⟩ <;> rcases k with ⟨j, hj, hjH, hjn, rfl⟩ | ⟨c', hr', k⟩
  · left
    have : i = j := by
      rcases Nat.lt_trichotomy i j with q | q | q
      · exact (stop i j q hin hjH).elim
      · exact q
      · exact (stop j i q hjn hiH).elim
    subst this
    exact ⟨_, 1, by decide, rfl, rfl⟩
  · rw [runL_stop hin] at hr'; cases hr'
  · rw [runL_stop hjn] at hr; cases hr
  · rw [hr] at hr'
    have hcc := Option.some.inj hr'
    have hch := checkI_txE hcc
    rcases h with ⟨h1, rfl⟩ | ⟨h1, h2, rfl⟩ | ⟨h1, h2, v, rfl, hM⟩ <;> rcases k with ⟨k1, rfl⟩ | ⟨k1, k2, rfl⟩ | ⟨k1, k2, v', rfl, kM⟩
    · exact .inl ⟨_, 1, by decide, rfl, rfl⟩
    · rw [h1] at k1; cases k1
    · rw [h1] at k1; cases k1
    · rw [h1] at k1; cases k1
    · exact .inl ⟨_, checkI c, h2, rfl, by rw [hch]⟩
    · exact absurd (hch.trans k2) h2
    · rw [h1] at k1; cases k1
    · exact absurd (hch.symm.trans h2) k2
    · exact .inr ⟨v, v', c, c', rfl, rfl, hM, kM, hcc, hr, h1, h2⟩
theorem parse_form {s : ByteArray} {b : Nat} {w : World} {e : Ending} (h : ParseRes s b w e) :
    (∃ n x : Int, x ≠ 0 ∧ e = .returned (.tuple #[.slice none 0 0, .int .i64 n, .int .i64 x])) ∨ (∃ v c, e = .returned (.tuple #[v, .int .i64 0, .int .i64 0]) ∧ Made w b v c) := by
  rcases h with ⟨i, _, _, _, rfl⟩ | ⟨c, _, ⟨_, rfl⟩ | ⟨_, h2, rfl⟩ | ⟨_, _, v, rfl, hM⟩⟩
  · exact .inl ⟨_, 1, by decide, rfl⟩
  · exact .inl ⟨_, 1, by decide, rfl⟩
  · exact .inl ⟨0, _, h2, rfl⟩
  · exact .inr ⟨v, c, rfl, hM⟩
theorem Txns.none (w : World) : Txns w (.slice none 0 0) [] := ⟨Row.of_owns (base := 0) (e := 0) ⟨rfl, .inl ⟨rfl, rfl⟩⟩, by simp⟩
set_option maxHeartbeats 8000000 in
theorem parses7_walk (s : ByteArray) (w : World) (he : Env w) :
    Calls Tryd.prog 4 #[.string s] w fun e w' => e = .returned (.bool true) ∧ Below w.heap.size w w' := by
  have HE := Lib.hid (fun wx (hx : Below w.heap.size w wx) => he.below hx)
  have CS := Lib.hid (speaks7_any w he)
  clear he
  go_enter Tryd.func4, Tryd.ntmps4
  go_wp2_with fail
  refine (CS.out).mono ?_
  rintro e w1 ⟨rfl, hb1⟩
  clear CS
  by_cases hbig : 3000 < s.size
  · have hbig' : (3000 : Int) < (s.size : Int) := by omega
    go_wp2_with fail
    go_ret
    exact ⟨rfl, hb1⟩
  have hbig' : ¬ (3000 : Int) < (s.size : Int) := by omega
  have CP := Lib.hid (sparse_any s w1 (HE.out _ hb1) (by omega))
  have CR := Lib.hid (fun wx => rparse_any s wx (by omega))
  go_wp2_with fail
  refine (CP.out).mono ?_
  rintro e w2 ⟨hR, hb2⟩
  have hb3 := hb1.trans (hb2.mono hb1.size)
  clear CP hb1
  rcases parse_form hR with ⟨n, x, hx, rfl⟩ | ⟨v, c0, rfl, hM0⟩
  · have HR := Lib.hid hR
    clear hR
    go_wp2_with fail
    refine (CR.out w2).mono ?_
    rintro e w3 ⟨hR', hb4⟩
    rcases parse_two HR.out hR' with ⟨n', x', _, h1, rfl⟩ | ⟨v, v', c, c', h1, _⟩
    · have h2 : n = n' ∧ x = x' := by simpa using h1
      obtain ⟨rfl, rfl⟩ := h2
      have hb5 := hb3.trans (hb4.mono hb3.size)
      have CF := Lib.hid (sameH_any _ _ [] [] w3 (Txns.none w3) (Txns.none w3))
      rw [show sameH [] [] = true from rfl] at CF
      clear HR hR' h1 CR hb3 hb4
      go_wp2_with fail
      refine (CF.out).mono ?_
      rintro e w4 ⟨rfl, hb6⟩
      have hb7 := hb5.trans (hb6.mono hb5.size)
      go_wp2_with fail
      go_ret
      exact ⟨rfl, hb7⟩
    · have h2 : x = 0 := by simpa using (show _ ∧ _ ∧ _ by simpa using h1).2.2
      exact absurd h2 hx
  · have HR := Lib.hid hR
    obtain ⟨a0, cc0, rfl, _⟩ := hM0.txns.form
    clear hR hM0
    go_wp2_with fail
    refine (CR.out w2).mono ?_
    rintro e w3 ⟨hR', hb4⟩
    rcases parse_two HR.out hR' with ⟨n', x', hx', h1, _⟩ | ⟨v1, v', c, c', h1, rfl, hM, hM', hcc, hrun, hend, hck⟩
    · have h2 : (0 : Int) = x' := by simpa using (show _ ∧ _ ∧ _ by simpa using h1).2.2
      exact absurd h2.symm hx'
    · have h2 : Value.slice a0 c0.length cc0 = v1 := by simpa using h1
      subst h2
      obtain ⟨a1, cc1, rfl, _⟩ := hM'.txns.form
      have hb5 := hb3.trans (hb4.mono hb3.size)
      have CF := Lib.hid (sameH_any _ _ c c' w3 (hM.txns.below hb4) hM'.txns)
      rw [show sameH c c' = true from decide_eq_true hcc] at CF
      have HOK := okE_txn (c := c) (fun t ht => runL_ok (linesB s) (linesB s).length _ (Nat.le_refl _) (by rw [List.take_length]; exact hrun) t ht)
      obtain ⟨s1, s2, _⟩ := checkI_right hck
      have CPR := Lib.hid (fun wx (hx : Below w3.heap.size w3 wx) => print_any _ c wx (HE.out _ (hb5.trans (hx.mono hb5.size))).1 ((hM.txns.below hb4).below hx) (fun t ht => ⟨HOK t ht, by
        obtain ⟨k, hk, rfl⟩ := List.mem_iff_getElem.1 ht
        have := opsN_at c k hk
        omega⟩) (by omega))
      rw [print_inv hrun hend] at CPR
      clear HR hR' h1 CR hb3 hb4 hM hM' hcc hrun hend hck HOK s1 s2
      go_wp2_with fail
      refine (CF.out).mono ?_
      rintro e w4 ⟨rfl, hb6⟩
      have hb7 := hb5.trans (hb6.mono hb5.size)
      go_wp2_with fail
      refine (CPR.out _ hb6).mono ?_
      rintro e w5 ⟨rfl, hb8⟩
      have hb9 := hb7.trans (hb8.mono hb7.size)
      clear CPR CF
      go_wp2_with fail
      go_ret
      exact ⟨rfl, hb9⟩
end Go.Proofs.YtlkdojcimlfmdaaDoor
