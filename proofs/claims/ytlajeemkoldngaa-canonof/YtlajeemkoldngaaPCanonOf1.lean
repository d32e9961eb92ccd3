/- Walks and plain facts that the proof of the statement CanonOf uses, joined: HisE OrdB OrdC OrdG OrdH RelF OrdD OrdE OrdI HisF HisG OrdJ OrdF OrdK OrdM RelP RelG RelH RelI RelN RelJ RelK RelL RelO SetH SetI RelQ OrdO OrdAH RelR LeaC OrdY HisH HisI HisJ HisK HisL HisM HisN HisO TxnI TxnJ TxnK HisP OrdR OrdS OrdX HisQ HisR OrdV OrdZ OrdAC LeaD RelS RelT LeaE RelX RelY LeaF LeaG AxiA AxiB AxiC LevA AxiD LevB LevC LevE AxiE LeaB RelU OrdAA LeaH TblA AxiF PlaA SeaC PlaB AxiG PlaC PlaH PlaI PlaF AxiH OrdP LesA LesB AxhA PlaD PlaG PlaJ PlaK PlaL PlaM MemG MemB MemE FueA FueB FueC FueF PlaE MemA MemC BruB SeaA SeaE OrdAJ MemD MemF SeaF AxhD AxhF AxhG AxhL BruA BruC BruD PlaQ BruE SeaG SeaB SeaH SeaI OrdL PlaN SeaJ SeaK LesC OrdAB AxhB AxhC BruJ BruP BruQ BruR BruU BruF BruG BruH BruI PlaP ArgC LeaI LeaJ TopA BruK BruV BruZ BrcA BrcC BruW BruX AxhN BruY BrcB SeaL IsoA IsoB CnoA SrtA CnoB. Conditions: each theorem's own. -/
import Derived.Test.YtlajeemkoldngaaProg
import Derived.Deep.MidRow
import Derived.BigQuiet
import Derived.Deep.QuietTactic
import Derived.Deep.RegionHeld3
import Derived.Deep.RegionWith
import Derived.Deep.RegionHeld
import Derived.Deep.CutRange
import Derived.Laws.StructEq
import Derived.Deep.AppendLies
import Derived.Deep.LoopGhost
import Derived.ChangeKeysEq
import Derived.Deep.RegionLaw
import Derived.Great.BuildSlice
import Derived.KernelRfl
import Derived.Laws.Bits128
import Derived.WalkKit
import Derived.WalkSpells
import Derived.WalkLawsBesides
import Derived.Lib.Hide
import Derived.Laws.Tables
import Derived.Laws.CopyOwn
import Derived.OwnWalk
import Derived.Deep.OwnRows
import Derived.Maps.OwnSet
import Derived.DeepKeys4
import Derived.Laws.BytesArg
import Derived.OneCell
import Derived.Lib.BufferWrite
import Derived.RangeFuncNested
import Derived.RangeFuncCalls
import Derived.RangeFuncLeaves
import Derived.RangeFuncBound
import Derived.Shelf.Abstract
import Derived.OwnWalkIn
import Derived.TacticsInMore
import Derived.LoopNIn
import Derived.LoopIn
import Derived.ArgAppend
import Derived.Deep.Upon
import Derived.Test.YtlajeemkoldngaaPCanonOf0
namespace Go.Proofs.Ytlajeemkoldngaa
set_option maxHeartbeats 32000000
set_option maxRecDepth 100000
open Lib (hid)
section
open Go.RowKit
theorem mapIW : Try.prog.underlying 79 = some (.map 3 83) := Try.underlying79
theorem zeroW (w : World) : (zeroValue 83).run Try.prog w = .ok (eW wZ) w := by kernel_rfl
def At (w : World) (p : Nat) (o : Obj) : Prop := w.heap[p]? = some o
theorem At.lt {w : World} {p : Nat} {o : Obj} (h : At w p o) : p < w.heap.size := (Array.getElem?_eq_some_iff.1 h).1
theorem At.new (w : World) (o : Obj) : At (w.alloc o) w.heap.size o := heap_alloc_new w o
theorem At.grown {w w' : World} {p : Nat} {o : Obj} {row : Option Nat} (h : At w p o) (hg : w.grownBy w' row) (hne : some p ≠ row) : At w' p o := (hg.block p h.lt hne).trans h
theorem At.alloc {w : World} {p : Nat} {o : Obj} (h : At w p o) (o' : Obj) : At (w.alloc o') p o := h.grown (World.grownBy_alloc w o' none) (by simp)
theorem At.below {w w' : World} {p : Nat} {o : Obj} (h : At w p o) (hb : Below w.heap.size w w') : At w' p o := (hb.block p h.lt).trans h
theorem At.cells4 {w : World} {p : Nat} {x y z u : Value} {t : TypeId} (h : At w p (.cells #[x, y, z, u] t)) : w.cell? ⟨p, 0, none⟩ = some x ∧ w.cell? ⟨p, 1, none⟩ = some y ∧ w.cell? ⟨p, 2, none⟩ = some z ∧ w.cell? ⟨p, 3, none⟩ = some u := by
 refine ⟨?_, ?_, ?_, ?_⟩ <;> (unfold At at h; simp [World.cell?, h])
def WrPost (w : World) (h : List TxnV) (e : Ending) (w' : World) : Prop :=
 Below w.heap.size w w' ∧ ((okW h = false ∧ e = .returned (.tuple #[.map none, .bool false])) ∨
  (okW h = true ∧ ∃ b n, e = .returned (.tuple #[.map (some b), .bool true]) ∧ w.heap.size ≤ b ∧ MapI eW Try.prog 3 w' b n (wrTo h h.length) (wvH h).length))
theorem hwrites_any (va : Value) (h : List TxnV) (w : World) (hT : Txns w va h) (hok : ∀ t ∈ h, t.ok) (hks : ∀ t ∈ h, keysIn t.l) (hn : opsN h ≤ 100000) (hlen : h.length ≤ 100000) :
  Calls Try.prog 56 #[va] w (WrPost w h) := by
 obtain ⟨ao, cap, rfl, hal⟩ := hT.form
 have HOK := hid hok
 have HKS := hid hks
 clear hok hks
 have hm0 := MapI.made eW Try.prog 3 w
 have hb1 := (Below.refl w.heap.size w).alloc (Nat.le_refl _) (.map #[] 0)
 have hmm := @run_makeMap Try.prog
 go_enter Try.func56, Try.ntmps56
 go_wp2_with fail
 go_loopw [16] (fun i wr => ∃ k n : Nat, k ≤ h.length ∧ i = .int .i64 k ∧ n ≤ 2 * opsN (h.take k) ∧ (wvH (h.take k)).Nodup ∧ Dom (wrTo h k) (wvH (h.take k)) ∧ MapI eW Try.prog 3 wr w.heap.size n (wrTo h k) (wvH (h.take k)).length ∧ Below w.heap.size w wr) (fun i _ => h.length - (intOf i).toNat)
 case atStart => exact ⟨0, 0, by omega, rfl, by omega, by simp [wvH], fun x => by simp [wrTo, wvH], hm0, hb1⟩
 case round =>
  obtain ⟨k, n, hk, rfl, hnn, hN, hD, hM, hb⟩ := hrel
  have HND := hid hN
  have HD := hid hD
  clear hN hD hm0 hb1
  by_cases hlt : k < h.length
  ·have hki : (k : Int) < (h.length : Int) := by omega
   obtain ⟨g, o, hao, c0, c1, c2, c3⟩ := (hT.below hb).at hlt
   cases hao
   have HW := hid (wvH_succ h k hlt)
   have HR : Hid (wrTo h (k + 1) = finF (k : Int) (addF (k : Int) (wrTo h k) h[k].l) (refWrites h[k].l)) := hid (by rw [wrTo_succ, opsAt_eq hlt])
   have HNO := hid (fun j hh => okW_no (j := j) hlt hh)
   have hOps := fun wx (hx : Below w.heap.size w wx) => (hT.ops hlt).below hx
   have HTK := hid (HOK.out h[k] (List.getElem_mem hlt))
   have HKK := hid (HKS.out h[k] (List.getElem_mem hlt))
   have hon := opsN_take h k hlt
   have hol := opsN_le h (k + 1)
   generalize h[k] = t at *
   obtain ⟨s, b, c, v, l⟩ := t
   simp only at c0 c1 c2 c3 HW HR HNO hOps HTK HKK hon
   obtain ⟨ai, capi, rfl, hli⟩ := (hOps w (Below.refl _ _)).form
   have HOP := hid hOps
   have hpl := hM.lt
   have hM1 := hM.alloc (.cells #[.int .i64 s, .int .i64 b, .int .i64 c, .slice ai l.length capi] 41)
   have hbb := hb.alloc hb.size (.cells #[.int .i64 s, .int .i64 b, .int .i64 c, .slice ai l.length capi] 41)
   have hsz := hb.size
   have hx := txnBlock wr (.int .i64 s) (.int .i64 b) (.int .i64 c) (.slice ai l.length capi) 41
   have hltx : wr.heap.size < (wr.alloc (.cells #[.int .i64 s, .int .i64 b, .int .i64 c, .slice ai l.length capi] 41)).heap.size := by simp
   clear hOps hM hb
   generalize wvH (h.take k) = W at *
   generalize wrTo h k = F at *
   go_wp2_with fail
   have hA0 := At.new wr (.cells #[.int .i64 s, .int .i64 b, .int .i64 c, .slice ai l.length capi] 41)
   generalize wr.alloc (.cells #[.int .i64 s, .int .i64 b, .int .i64 c, .slice ai l.length capi] 41) = w1 at *
   generalize hpp : wr.heap.size = p at *
   have hA1 : At w1 p (.cells #[.int .i64 s, .int .i64 b, .int .i64 c, .slice ai l.length capi] 41) := hA0
   clear hA0 c0 c1 c2 c3 hx hsz
   go_loopw [24] (fun i wx => ∃ j m : Nat, j ≤ l.length ∧ i = .int .i64 j ∧ m ≤ 2 * opsN (h.take k) + j ∧ (W ++ wv (l.take j)).Nodup ∧ Dom (addF (k : Int) F (l.take j)) (W ++ wv (l.take j)) ∧ MapI eW Try.prog 3 wx w.heap.size m (addF (k : Int) F (l.take j)) (W ++ wv (l.take j)).length ∧ At wx p (.cells #[.int .i64 s, .int .i64 b, .int .i64 c, .slice ai l.length capi] 41) ∧ Below w.heap.size w wx) (fun i _ => l.length - (intOf i).toNat)
   case atStart => exact ⟨0, n, by omega, rfl, by omega, by simpa [wv] using HND.out, by simpa [wv, addF] using HD.out, by simpa [wv, addF] using hM1, hA1, hbb⟩
   case round =>
    obtain ⟨j, m, hj, rfl, hmm2, hN2, hD2, hM2, hA2, hb2⟩ := hrel
    have HN2 := hid hN2
    have HD2 := hid hD2
    clear hN2 hD2 hM1 hA1 hbb
    by_cases hltj : j < l.length
    ·have hkj : (j : Int) < (l.length : Int) := by omega
     obtain ⟨g2, o2, hao2, e0, e1, e2⟩ := (HOP.out _ hb2).at hltj
     cases hao2
     have HWJ : Hid (wv (l.take (j + 1)) = wv (l.take j) ++ (if l[j].wr then [l[j].val] else [])) := hid (by rw [take_snoc l j hltj, wv_snoc])
     have HFJ : Hid (addF (k : Int) F (l.take (j + 1)) = addOne (k : Int) (addF (k : Int) F (l.take j)) l[j]) := hid (by rw [take_snoc l j hltj, addF_snoc])
     have hox := HTK.out.2 l[j] (List.getElem_mem hltj)
     generalize l[j] = x at *
     obtain ⟨xw, xk, xv⟩ := x
     simp only at e0 e1 e2 HWJ HFJ
     have hkv := inI_of hox.2
     have hM3 := hM2.alloc (.cells #[.bool xw, .int .i64 xk, .int .i64 xv] 45)
     have hA3 := hA2.alloc (.cells #[.bool xw, .int .i64 xk, .int .i64 xv] 45)
     have hb3 := hb2.alloc hb2.size (.cells #[.bool xw, .int .i64 xk, .int .i64 xv] 45)
     have hszj := hb2.size
     clear hox hM2 hA2 hb2
     cases xw with
     | false =>
      simp only [Bool.false_eq_true, if_false, List.append_nil] at HWJ
      have HFJ2 : Hid (addF (k : Int) F (l.take (j + 1)) = addF (k : Int) F (l.take j)) := hid (by rw [HFJ.out]; rfl)
      clear HFJ
      go_wp2_with fail
      go_roundw
      case rel => exact ⟨j + 1, m, by omega, by go_num, by omega, by rw [HWJ.out]; exact HN2.out, by rw [HWJ.out, HFJ2.out]; exact HD2.out, by rw [HWJ.out, HFJ2.out]; exact hM3, hA3, hb3⟩
      case measure => simp [intOf]; omega
     | true =>
      simp only [if_true] at HWJ
      have HFJ2 : Hid (addF (k : Int) F (l.take (j + 1)) = putF (addF (k : Int) F (l.take j)) xv ⟨k, xk, false⟩) := hid (by rw [HFJ.out]; rfl)
      have HNJ : Hid (xv ∈ W ++ wv (l.take j) → okW h = false) := hid (fun hin => HNO.out (j + 1) (by rw [HWJ.out, ← List.append_assoc]; exact not_nodup_snoc hin))
      clear HFJ
      generalize addF (k : Int) F (l.take j) = F1 at *
      cases hv : F1 xv with
      | none =>
       have HX := hid (HD2.out.not hv)
       have hM4 := hM3.alloc (.cells #[.int .i64 0, .int .i64 0, .bool false] 83)
       have hA4 := hA3.alloc (.cells #[.int .i64 0, .int .i64 0, .bool false] 83)
       have hb4 := hb3.alloc hb3.size (.cells #[.int .i64 0, .int .i64 0, .bool false] 83)
       clear HNJ
       go_wp2_with (first | (at_lookup; refine wpList_lookI_ok _ rfl _ _ 79 rfl 3 83 keyI mapIW wZ (zeroW _) _ _ _ _ rfl hM3 _ rfl hkv ?_; rw [hv]; simp only [Option.getD_none, Option.isSome_none, eW, wZ]) | (at_mapUpdate; refine wpList_putI _ rfl _ _ _ 79 rfl 3 83 keyI mapIW _ _ _ _ rfl hM4 (by unfold maxLen; omega) _ rfl hkv ⟨k, xk, false⟩ rfl ?_; intro w5 hM5 hg5; go_frame) | go_in)
       have hb5 := hb4.grown hg5 hb4.size (fun j hj => by cases hj; omega)
       have hA5 := hA4.grown hg5 (fun e => by cases e; omega)
       rw [hv] at hM5
       simp only [Option.isSome_none, Bool.false_eq_true, if_false] at hM5
       clear hM4 hA4 hb4 hg5 hM3 hA3 hb3
       go_wp2_with fail
       go_roundw
       case rel => exact ⟨j + 1, m + 1, by omega, by go_num, by omega, by rw [HWJ.out, ← List.append_assoc]; exact nodup_snoc HN2.out HX.out, by rw [HWJ.out, HFJ2.out, ← List.append_assoc]; exact HD2.out.put _ _, by rw [HWJ.out, HFJ2.out, ← List.append_assoc]; simpa [Nat.add_assoc] using hM5, hA5, hb5⟩
       case measure => simp [intOf]; omega
      | some u =>
       have H := hid (HNJ.out (HD2.out.yes hv))
       obtain ⟨ui, uk, ul⟩ := u
       have hb4 := hb3.alloc hb3.size (.cells #[.int .i64 ui, .int .i64 uk, .bool ul] 83)
       clear HNJ
       go_wp2_with (first | (at_lookup; refine wpList_lookI_ok _ rfl _ _ 79 rfl 3 83 keyI mapIW wZ (zeroW _) _ _ _ _ rfl hM3 _ rfl hkv ?_; rw [hv]; simp only [Option.getD_some, Option.isSome_some, eW]) | go_in)
       refine bodyPost_ret (v := .tuple #[.map none, .bool false]) (by simp [results, Try.results56, go_sem]) rfl ⟨hb4, .inl ⟨H.out, rfl⟩⟩
    ·have hj2 : j = l.length := by omega
     subst hj2
     rw [List.take_length] at hM2 HN2 HD2
     obtain ⟨q0, q1, q2, q3⟩ := hA2.cells4
     have CW := hid (writes_any s b c _ l wr (HOP.out _ hb2) HTK.out.2 (by omega))
     have hRR := hid (refWrites_rise HKK.out)
     clear HNO
     go_wp2_with fail
     refine (CW.out).mono ?_
     rintro e w6 ⟨v2, out, rfl, hO, hRise, hle2, hb6⟩
     obtain rfl := hRise.eq hRR.out
     have hM6 := hM2.below hb6
     have hb7 := below_then hb2 hb6
     have hO7 := hO.base (base' := 0) (Nat.zero_le _)
     have HWV := hid (rise_wv hRise)
     have HTO := hid (fun o (ho : o ∈ refWrites l) => HTK.out.2 o (lastW_key (((hRise.2 o).1 ho).1)).2.2)
     have hspl := hO.split
     have hwl := hM2.lt
     obtain ⟨ao2, cap2, rfl, hl2⟩ := hO7.ops.form
     have HNE : Hid (∀ g o q, ao2 = some (⟨g, o, q⟩ : Addr) → Value.ownBlock (.slice (some ⟨g, o, q⟩) (refWrites l).length cap2) ≠ some w.heap.size) := hid (fun g o q e hh => by
      rcases hspl with ⟨e1, _⟩ | ⟨g3, cap3, e1, hg3⟩
      ·rw [e] at e1; simp at e1
      ·rw [e] at e1; simp [Value.ownBlock] at e1 hh; omega)
     clear hO hRise hRR CW hM2 hA2 hb2 hb6 q0 q1 q2 q3
     generalize refWrites l = R at *
     generalize addF (k : Int) F l = F1 at *
     generalize hWW : W ++ wv l = W1 at *
     have HWW := hid hWW
     clear hWW
     go_wp2_with fail
     go_loopw [50] (fun i wx => ∃ j m2 : Nat, j ≤ R.length ∧ i = .int .i64 j ∧ m2 ≤ 2 * opsN (h.take k) + l.length + j ∧ Dom (finF (k : Int) F1 (R.take j)) W1 ∧ MapI eW Try.prog 3 wx w.heap.size m2 (finF (k : Int) F1 (R.take j)) W1.length ∧ Own wx 0 (.slice ao2 R.length cap2) R ∧ Below w.heap.size w wx) (fun i _ => R.length - (intOf i).toNat)
     case atStart => exact ⟨0, m, by omega, rfl, by omega, HD2.out, hM6, hO7, hb7⟩
     case round =>
      obtain ⟨j, m2, hj2, rfl, hmm3, hD3, hM8, hO8, hb8⟩ := hrel
      have HD3 := hid hD3
      clear hD3 hM6 hO7 hb7
      by_cases hltj : j < R.length
      ·have hkj : (j : Int) < (R.length : Int) := by omega
       obtain ⟨g2, o2, hao2, e0, e1, e2⟩ := hO8.ops.at hltj
       cases hao2
       have HFJ : Hid (finF (k : Int) F1 (R.take (j + 1)) = putF (finF (k : Int) F1 (R.take j)) R[j].val ⟨k, R[j].key, true⟩) := hid (by rw [take_snoc R j hltj, finF_snoc])
       have hox := HTO.out R[j] (List.getElem_mem hltj)
       have hin := HWV.out R[j] (List.getElem_mem hltj)
       generalize R[j] = x at *
       obtain ⟨xw, xk, xv⟩ := x
       simp only at e0 e1 e2 HFJ hin
       have hkv := inI_of hox.2
       have hinW : Hid (xv ∈ W1) := hid (by rw [← HWW.out]; exact List.mem_append_right _ hin)
       have hM9 := hM8.alloc (.cells #[.bool xw, .int .i64 xk, .int .i64 xv] 45)
       have hO9 : Own _ _ _ _ := World.ownsRow.alloc hO8 (.cells #[.bool xw, .int .i64 xk, .int .i64 xv] 45)
       have hb9 := hb8.alloc hb8.size (.cells #[.bool xw, .int .i64 xk, .int .i64 xv] 45)
       have hszj := hb8.size
       have hne9 : Value.ownBlock (.slice (some ⟨g2, o2, none⟩) R.length cap2) ≠ some w.heap.size := HNE.out _ _ _ rfl
       clear hox hin hM8 hO8 hb8
       generalize finF (k : Int) F1 (R.take j) = F2 at *
       go_wp2_with (first | (at_mapUpdate; refine wpList_putI _ rfl _ _ _ 79 rfl 3 83 keyI mapIW _ _ _ _ rfl hM9 (by unfold maxLen; omega) _ rfl hkv ⟨k, xk, true⟩ rfl ?_; intro w5 hM5 hg5; go_frame) | go_in)
       have hb5 := hb9.grown hg5 hb9.size (fun j hj => by cases hj; omega)
       have hO5 : Own w5 0 (.slice (some ⟨g2, o2, none⟩) R.length cap2) R := World.ownsRow.kept hO9 hg5 (.inr hne9)
       have hsome : (F2 xv).isSome = true := by rw [HD3.out xv]; simpa using hinW.out
       rw [hsome] at hM5
       simp only [if_true] at hM5
       clear hM9 hO9 hb9 hg5 hsome
       go_wp2_with fail
       go_roundw
       case rel => exact ⟨j + 1, m2 + 1, by omega, by go_num, by omega, by rw [HFJ.out]; exact HD3.out.again hinW.out _, by rw [HFJ.out]; exact hM5, hO5, hb5⟩
       case measure => simp [intOf]; omega
      ·have hj3 : j = R.length := by omega
       subst hj3
       rw [List.take_length] at hM8 HD3
       have HW1 : Hid (wvH (h.take (k + 1)) = W1) := hid HW.out
       go_wp2_with fail
       go_roundw
       case rel => exact ⟨k + 1, m2, by omega, by go_num, by omega, by rw [HW1.out]; exact HN2.out, by rw [HW1.out, HR.out]; exact HD3.out, by rw [HW1.out, HR.out]; exact hM8, hb8⟩
       case measure => simp [intOf]; omega
  ·have hkl : k = h.length := by omega
   subst hkl
   have H : Hid (okW h = true) := hid (by have := HND.out; rw [List.take_length] at this; unfold okW; simpa using this)
   rw [List.take_length] at hM
   go_wp2_with fail
   refine bodyPost_ret (v := .tuple #[.map (some w.heap.size), .bool true]) (by simp [results, Try.results56, go_sem]) rfl ⟨hb, .inr ⟨H.out, _, _, rfl, Nat.le_refl _, hM⟩⟩
end

section
open Go.RowKit
theorem own_base' {w : World} {base base' : Nat} {v : Value} {e : TypeId} {size n : Nat} {xs : List Value} (h : w.ownsRow base e size v n xs) (hb : base' ≤ base) : w.ownsRow base' e size v n xs := by
 obtain ⟨h1, h2⟩ := h
 refine ⟨h1, ?_⟩
 rcases h2 with h2 | ⟨g, cap, cur, e1, e2, r⟩
 ·exact .inl h2
 ·exact .inr ⟨g, cap, cur, e1, Nat.le_trans hb e2, r⟩
end

section
open Go.RowKit
def badFr (F : Int → Option WV) (i : Int) (o : OpV) : Bool := match F o.val with | none => false | some u => decide (u.i = i) || !u.last
end

section
open Go.RowKit
def rdOk (F : Int → Option WV) (o : OpV) : Bool := o.wr || o.val == 0 || (match F o.val with
 | none => false
 | some u => u.key == o.key)
def rowOk (F : Int → Option WV) (l : List OpV) : Bool := l.all (rdOk F)
def valuesB (h : List TxnV) : Bool := okW h && h.all fun t => rowOk (wrTo h h.length) t.l
theorem rowOk_succ (F : Int → Option WV) (l : List OpV) (k : Nat) (hk : k < l.length) : rowOk F (l.take (k + 1)) = (rowOk F (l.take k) && rdOk F l[k]) := by
 unfold rowOk; rw [take_snoc l k hk, List.all_append]; simp
theorem rowOk_no {F : Int → Option WV} {l : List OpV} {k : Nat} (hk : k < l.length) (hn : rdOk F l[k] = false) : rowOk F l = false := by
 unfold rowOk; exact List.all_eq_false.2 ⟨l[k], List.getElem_mem hk, by simp [hn]⟩
theorem valuesB_no {h : List TxnV} {k : Nat} (hk : k < h.length) (hn : rowOk (wrTo h h.length) h[k].l = false) : valuesB h = false := by
 unfold valuesB
 rw [Bool.and_eq_false_iff]
 exact .inr (List.all_eq_false.2 ⟨h[k], List.getElem_mem hk, by simp [hn]⟩)
theorem values_any (va : Value) (h : List TxnV) (w : World) (hT : Txns w va h) (hok : ∀ t ∈ h, t.ok) (hks : ∀ t ∈ h, keysIn t.l) (hn : opsN h ≤ 100000) (hlen : h.length ≤ 100000) :
  Calls Try.prog 37 #[va] w fun e w' => e = .returned (.bool (valuesB h)) ∧ Below w.heap.size w w' := by
 obtain ⟨ao, cap, rfl, hal⟩ := hT.form
 have HOK := hid hok
 have CW := hid (hwrites_any _ h w hT hok hks hn hlen)
 clear hok hks
 go_enter Try.func37, Try.ntmps37
 go_wp2_with fail
 refine (CW.out).mono ?_
 rintro e w1 ⟨hb1, ⟨hno, rfl⟩ | ⟨hyes, B, n0, rfl, hB, hM0⟩⟩
 ·have H : Hid (false = valuesB h) := hid (by unfold valuesB; rw [hno]; rfl)
  clear hno
  go_wp2_with fail
  go_ret
  exact ⟨ret_b H.out, hb1⟩
 have HY := hid hyes
 clear hyes CW
 have HVN : Hid (∀ k, ∀ hk : k < h.length, rowOk (wrTo h h.length) h[k].l = false → valuesB h = false) := hid (fun k hk hh => valuesB_no hk hh)
 have HVY : Hid (h.all (fun t => rowOk (wrTo h h.length) t.l) = true → valuesB h = true) := hid (fun hh => by unfold valuesB; rw [HY.out, hh]; rfl)
 generalize wrTo h h.length = F at *
 generalize (wvH h).length = cnt at *
 go_wp2_with fail
 go_loopw [20] (fun i wr => ∃ k : Nat, k ≤ h.length ∧ i = .int .i64 k ∧ ((h.take k).all (fun t => rowOk F t.l) = true) ∧ MapI eW Try.prog 3 wr B n0 F cnt ∧ Below w.heap.size w wr) (fun i _ => h.length - (intOf i).toNat)
 case atStart => exact ⟨0, by omega, rfl, rfl, hM0, hb1⟩
 case round =>
  obtain ⟨k, hk, rfl, hP, hM, hb⟩ := hrel
  have HP := hid hP
  clear hP hM0 hb1
  by_cases hlt : k < h.length
  ·have hki : (k : Int) < (h.length : Int) := by omega
   obtain ⟨g, o, hao, c0, c1, c2, c3⟩ := (hT.below hb).at hlt
   cases hao
   have HS : Hid ((h.take (k + 1)).all (fun t => rowOk F t.l) = ((h.take k).all (fun t => rowOk F t.l) && rowOk F h[k].l)) := hid (by rw [List.take_succ_eq_append_getElem hlt, List.all_append]; simp)
   have HNO := hid (HVN.out k hlt)
   have hOps := fun wx (hx : Below w.heap.size w wx) => (hT.ops hlt).below hx
   have HTK := hid (HOK.out h[k] (List.getElem_mem hlt))
   generalize h[k] = t at *
   obtain ⟨s, b, c, v, l⟩ := t
   simp only at c0 c1 c2 c3 HS HNO hOps HTK
   obtain ⟨ai, capi, rfl, hli⟩ := (hOps w (Below.refl _ _)).form
   have HOP := hid hOps
   have hM1 := hM.alloc (.cells #[.int .i64 s, .int .i64 b, .int .i64 c, .slice ai l.length capi] 41)
   have hbb := hb.alloc hb.size (.cells #[.int .i64 s, .int .i64 b, .int .i64 c, .slice ai l.length capi] 41)
   clear hOps hM hb HVN HVY
   go_wp2_with fail
   generalize wr.alloc (.cells #[.int .i64 s, .int .i64 b, .int .i64 c, .slice ai l.length capi] 41) = w2 at *
   go_loopw [27] (fun i wx => ∃ j : Nat, j ≤ l.length ∧ i = .int .i64 j ∧ rowOk F (l.take j) = true ∧ MapI eW Try.prog 3 wx B n0 F cnt ∧ Below w.heap.size w wx) (fun i _ => l.length - (intOf i).toNat)
   case atStart => exact ⟨0, by omega, rfl, rfl, hM1, hbb⟩
   case round =>
    obtain ⟨j, hj, rfl, hR, hM2, hb2⟩ := hrel
    have HR := hid hR
    clear hR hM1 hbb
    by_cases hltj : j < l.length
    ·have hkj : (j : Int) < (l.length : Int) := by omega
     obtain ⟨g2, o2, hao2, e0, e1, e2⟩ := (HOP.out _ hb2).at hltj
     cases hao2
     have HRS := hid (rowOk_succ F l j hltj)
     have HRN := hid (fun hh => rowOk_no (F := F) hltj hh)
     have hox := HTK.out.2 l[j] (List.getElem_mem hltj)
     generalize l[j] = x at *
     obtain ⟨xw, xk, xv⟩ := x
     simp only at e0 e1 e2
     have hkv := inI_of hox.2
     have hM3 := hM2.alloc (.cells #[.bool xw, .int .i64 xk, .int .i64 xv] 45)
     have hb3 := hb2.alloc hb2.size (.cells #[.bool xw, .int .i64 xk, .int .i64 xv] 45)
     clear hox hM2 hb2
     cases xw with
     | true =>
      have H : Hid (rowOk F (l.take (j + 1)) = true) := hid (by rw [HRS.out, HR.out]; rfl)
      clear HRS HRN
      go_wp2_with fail
      go_roundw
      case rel => exact ⟨j + 1, by omega, by go_num, H.out, hM3, hb3⟩
      case measure => simp [intOf]; omega
     | false =>
      by_cases hx0 : xv = 0
      ·subst hx0
       have H : Hid (rowOk F (l.take (j + 1)) = true) := hid (by rw [HRS.out, HR.out]; rfl)
       clear HRS HRN
       go_wp2_with fail
       go_roundw
       case rel => exact ⟨j + 1, by omega, by go_num, H.out, hM3, hb3⟩
       case measure => simp [intOf]; omega
      ·have hx1 : (xv == 0) = false := by simpa using hx0
       have HD : Hid (rdOk F ⟨false, xk, xv⟩ = (match F xv with | none => false | some u => u.key == xk)) := hid (by unfold rdOk; simp only [hx1]; rfl)
       clear hx0
       cases hv : F xv with
       | none =>
        have H : Hid (false = valuesB h) := hid (HNO.out (HRN.out (by rw [HD.out, hv]))).symm
        have hb4 := hb3.alloc hb3.size (.cells #[.int .i64 0, .int .i64 0, .bool false] 83)
        clear HRS HRN HD
        go_wp2_with (first | (at_lookup; refine wpList_lookI_ok _ rfl _ _ 79 rfl 3 83 keyI mapIW wZ (zeroW _) _ _ _ _ rfl hM3 _ rfl hkv ?_; rw [hv]; simp only [Option.getD_none, Option.isSome_none, eW, wZ]) | go_in)
        go_ret
        exact ⟨ret_b H.out, hb4⟩
       | some u =>
        obtain ⟨ui, uk, ul⟩ := u
        have HD2 : Hid (rdOk F ⟨false, xk, xv⟩ = (uk == xk)) := hid (by rw [HD.out, hv])
        have hM4 := hM3.alloc (.cells #[.int .i64 ui, .int .i64 uk, .bool ul] 83)
        have hb4 := hb3.alloc hb3.size (.cells #[.int .i64 ui, .int .i64 uk, .bool ul] 83)
        clear HD
        by_cases huk : uk = xk
        ·subst huk
         have H : Hid (rowOk F (l.take (j + 1)) = true) := hid (by rw [HRS.out, HR.out, HD2.out]; simp)
         have hne : (uk != uk) = false := by simp
         clear HRS HRN HD2
         go_wp2_with (first | (at_lookup; refine wpList_lookI_ok _ rfl _ _ 79 rfl 3 83 keyI mapIW wZ (zeroW _) _ _ _ _ rfl hM3 _ rfl hkv ?_; rw [hv]; simp only [Option.getD_some, Option.isSome_some, eW]) | go_in)
         go_roundw
         case rel => exact ⟨j + 1, by omega, by go_num, H.out, hM4, hb4⟩
         case measure => simp [intOf]; omega
        ·have H : Hid (false = valuesB h) := hid (HNO.out (HRN.out (by rw [HD2.out]; simpa using huk))).symm
         have hne : (uk != xk) = true := by simpa using huk
         clear HRS HRN HD2 huk
         go_wp2_with (first | (at_lookup; refine wpList_lookI_ok _ rfl _ _ 79 rfl 3 83 keyI mapIW wZ (zeroW _) _ _ _ _ rfl hM3 _ rfl hkv ?_; rw [hv]; simp only [Option.getD_some, Option.isSome_some, eW]) | go_in)
         go_ret
         exact ⟨ret_b H.out, hb4⟩
    ·have hj2 : j = l.length := by omega
     subst hj2
     have H : Hid ((h.take (k + 1)).all (fun t => rowOk F t.l) = true) := hid (by have := HR.out; rw [List.take_length] at this; rw [HS.out, HP.out, this]; rfl)
     go_wp2_with fail
     go_roundw
     case rel => exact ⟨k + 1, by omega, by go_num, H.out, hM2, hb2⟩
     case measure => simp [intOf]; omega
  ·have hkl : k = h.length := by omega
   subst hkl
   have H : Hid (true = valuesB h) := hid (HVY.out (by have := HP.out; rw [List.take_length] at this; exact this)).symm
   go_wp2_with fail
   go_ret
   exact ⟨ret_b H.out, hb⟩
end

section
open Go.RowKit
def rightB (h : List TxnV) : Bool := partsB h && (valuesB h && (stampsB h && sesB h))
def checkI (h : List TxnV) : Int := if 64 < h.length ∨ 1024 < opsN h then 3 else if rightB h then 0 else 2
theorem opsN_short : ∀ (h : List TxnV), Short h → opsN h ≤ h.length * 6000000000000
 | [], _ => by simp [opsN]
 | t :: h, hs => by
  have h1 := opsN_short h (fun u hu => hs u (List.mem_cons_of_mem _ hu))
  have h2 := hs t List.mem_cons_self
  unfold opsN at *
  simp only [List.map_cons, List.sum_cons, List.length_cons]
  omega
theorem parts_keys {h : List TxnV} (hp : partsB h = true) : ∀ t ∈ h, keysIn t.l := by
 intro t ht
 have := List.all_eq_true.1 hp t ht
 unfold mayT at this
 simp only [Bool.and_eq_true] at this
 exact allM_keys this.2
theorem hcheck_any (va : Value) (h : List TxnV) (w : World) (hT : Txns w va h) (hok : ∀ t ∈ h, t.ok) (hsh : Short h) :
  Calls Try.prog 19 #[va] w fun e w' => e = .returned (.int .i64 (checkI h)) ∧ Below w.heap.size w w' := by
 obtain ⟨ao, cap, rfl, hal⟩ := hT.form
 by_cases hbig : 64 < h.length
 ·have hbig' : (64 : Int) < (h.length : Int) := by omega
  have H : Hid ((3 : Int) = checkI h) := hid (by unfold checkI; rw [if_pos (.inl hbig)])
  go_enter Try.func19, Try.ntmps19
  go_wp2_with fail
  go_ret
  exact ⟨ret_int H.out, Below.refl _ _⟩
 have hbf : decide ((64 : Int) < (h.length : Int)) = false := by simp; omega
 have hle := opsN_short h hsh
 have CO := hid (hops_any _ h w hT (by omega))
 have HT := hid (fun wx (hx : Below w.heap.size w wx) => hT.below hx)
 have HOK := hid hok
 clear hT hok hsh
 go_enter Try.func19, Try.ntmps19
 go_wp2_with fail
 refine (CO.out).mono ?_
 rintro e w1 ⟨rfl, hb1⟩
 clear CO
 by_cases hov : 1024 < opsN h
 ·have hov' : (1024 : Int) < (opsN h : Int) := by omega
  have H : Hid ((3 : Int) = checkI h) := hid (by unfold checkI; rw [if_pos (.inr hov)])
  go_wp2_with fail
  go_ret
  exact ⟨ret_int H.out, hb1⟩
 have hov' : decide ((1024 : Int) < (opsN h : Int)) = false := by simp; omega
 have HCK : Hid (checkI h = if rightB h then 0 else 2) := hid (by unfold checkI; rw [if_neg (by omega)])
 have CP := hid (parts_any _ h w1 (HT.out _ hb1))
 cases hp : partsB h
 ·have H : Hid ((2 : Int) = checkI h) := hid (by rw [HCK.out]; unfold rightB; rw [hp]; rfl)
  rw [hp] at CP
  clear hp
  go_wp2_with fail
  refine (CP.out).mono ?_
  rintro e w2 ⟨rfl, hb2⟩
  have hb3 := below_then hb1 hb2
  go_wp2_with fail
  go_ret
  exact ⟨ret_int H.out, hb3⟩
 rw [hp] at CP
 have HKS := hid (parts_keys hp)
 have HR1 : Hid (rightB h = (valuesB h && (stampsB h && sesB h))) := hid (by unfold rightB; rw [hp]; rfl)
 clear hp
 go_wp2_with fail
 refine (CP.out).mono ?_
 rintro e w2 ⟨rfl, hb2⟩
 have hb3 := below_then hb1 hb2
 have CV := hid (values_any _ h w2 (HT.out _ hb3) HOK.out HKS.out (by omega) (by omega))
 clear CP hb1 hb2
 cases hv : valuesB h
 ·have H : Hid ((2 : Int) = checkI h) := hid (by rw [HCK.out, HR1.out, hv]; rfl)
  rw [hv] at CV
  clear hv
  go_wp2_with fail
  refine (CV.out).mono ?_
  rintro e w4 ⟨rfl, hb4⟩
  have hb5 := below_then hb3 hb4
  go_wp2_with fail
  go_ret
  exact ⟨ret_int H.out, hb5⟩
 rw [hv] at CV
 have HR2 : Hid (rightB h = (stampsB h && sesB h)) := hid (by rw [HR1.out, hv]; rfl)
 clear hv HR1
 go_wp2_with fail
 refine (CV.out).mono ?_
 rintro e w4 ⟨rfl, hb4⟩
 have hb5 := below_then hb3 hb4
 have CS := hid (stamps_any _ h w4 (HT.out _ hb5) HOK.out (by omega))
 clear CV hb3 hb4
 cases hs : stampsB h
 ·have H : Hid ((2 : Int) = checkI h) := hid (by rw [HCK.out, HR2.out, hs]; rfl)
  rw [hs] at CS
  clear hs
  go_wp2_with fail
  refine (CS.out).mono ?_
  rintro e w6 ⟨rfl, hb6⟩
  have hb7 := below_then hb5 hb6
  go_wp2_with fail
  go_ret
  exact ⟨ret_int H.out, hb7⟩
 rw [hs] at CS
 have HR3 : Hid (rightB h = sesB h) := hid (by rw [HR2.out, hs]; rfl)
 clear hs HR2
 go_wp2_with fail
 refine (CS.out).mono ?_
 rintro e w6 ⟨rfl, hb6⟩
 have hb7 := below_then hb5 hb6
 have CE := hid (sessions_any _ h w6 (HT.out _ hb7) HOK.out (by omega))
 clear CS hb5 hb6
 cases hse : sesB h
 ·have H : Hid ((2 : Int) = checkI h) := hid (by rw [HCK.out, HR3.out, hse]; rfl)
  rw [hse] at CE
  clear hse
  go_wp2_with fail
  refine (CE.out).mono ?_
  rintro e w8 ⟨rfl, hb8⟩
  have hb9 := below_then hb7 hb8
  go_wp2_with fail
  go_ret
  exact ⟨ret_int H.out, hb9⟩
 ·have H : Hid ((0 : Int) = checkI h) := hid (by rw [HCK.out, HR3.out, hse]; rfl)
  rw [hse] at CE
  clear hse
  go_wp2_with fail
  refine (CE.out).mono ?_
  rintro e w8 ⟨rfl, hb8⟩
  have hb9 := below_then hb7 hb8
  go_wp2_with fail
  go_ret
  exact ⟨ret_int H.out, hb9⟩
end

section
open Go.RowKit
theorem owns_apart {w : World} {b1 b2 : Nat} {e1 e2 : TypeId} {s1 s2 : Nat} {v1 v2 : Value} {n1 n2 : Nat} {x1 x2 : List Value} (h1 : w.ownsRow b1 e1 s1 v1 n1 x1) (h2 : w.ownsRow b2 e2 s2 v2 n2 x2) (he : e1 ≠ e2) : v1.ownBlock = none ∨ v1.ownBlock ≠ v2.ownBlock := by
 obtain ⟨_, h1⟩ := h1
 obtain ⟨_, h2⟩ := h2
 rcases h1 with ⟨rfl, _⟩ | ⟨g1, c1, cur1, rfl, _, hh1, _⟩
 ·exact .inl rfl
 ·right
  rcases h2 with ⟨rfl, _⟩ | ⟨g2, c2, cur2, rfl, _, hh2, _⟩
  ·simp [Value.ownBlock]
  ·intro e
   simp [Value.ownBlock] at e
   subst e
   rw [hh1] at hh2
   injection hh2 with hh2
   injection hh2 with _ hh2
   exact he hh2
theorem owns_cell_any {w : World} {base : Nat} {e : TypeId} {size : Nat} {v : Value} {n : Nat} {xs : List Value} (h : w.ownsRow base e size v n xs) {a : Addr} (hg : a.block < base) (x : Value) : (w.setCell a x).ownsRow base e size v n xs := by
 refine h.kept (row := some a.block) ⟨rfl, rfl, rfl, by simp, fun k hk hne => ?_⟩ ?_
 ·exact heap_setCell_other w a k x (fun e3 => hne (by rw [e3]))
 ·rcases h.2 with ⟨rfl, _⟩ | ⟨g, cap, cur, rfl, hb, _⟩
  ·exact .inl rfl
  ·right
   simp [Value.ownBlock]; omega
abbrev KRow := Value × List Int
abbrev RRow := Value × List (Int × Int)
section
variable {b : Nat} {w : World} {vk vr : Value} {K : List KRow} {R : List RRow}
end
theorem check_zero {h : List TxnV} (hc : checkI h = 0) : h.length ≤ 64 ∧ opsN h ≤ 1024 ∧ okW h = true ∧ ∀ t ∈ h, keysIn t.l := by
 unfold checkI at hc
 by_cases hb : 64 < h.length ∨ 1024 < opsN h
 ·rw [if_pos hb] at hc; omega
 ·rw [if_neg hb] at hc
  cases hr : rightB h
  ·rw [hr] at hc; simp at hc
  ·unfold rightB valuesB at hr
   simp only [Bool.and_eq_true] at hr
   exact ⟨by omega, by omega, hr.2.1.1, parts_keys hr.1⟩
end

section
open Go.RowKit
theorem MapI.cell {α : Type} {e : α → Value} {P : Program} {k : TypeId} {w : World} {b n : Nat} {f : Int → Option α} {c : Nat} (h : MapI e P k w b n f c) {a : Addr} (hb : b ≠ a.block) (v : Value) : MapI e P k (w.setCell a v) b n f c :=
 h.kept (row := some a.block) ⟨rfl, rfl, rfl, by simp, fun j hj hne => heap_setCell_other w a j v (fun e => hne (by rw [e]))⟩ (fun e => hb (by injection e))
theorem below_putC {B g : Nat} {W : World} (hg : B ≤ g) : ∀ (vs : List Value) (o : Nat) (w : World), Below B W w → Below B W (w.setCells g o vs)
 | [], _, _, h => h
 | v :: r, o, w, h => by rw [World.setCells]; exact below_putC hg r (o + 1) _ (h.setCell hg v)
theorem cell_put {g : Nat} {p : Addr} (hp : p.block ≠ g) (vs : List Value) (o : Nat) (w : World) : (w.setCells g o vs).cell? p = w.cell? p := World.cell?_setCells_out g vs o w p (fun e _ => absurd e hp)
section
variable {W w w' : World} {A : Nat} {va : Value} {n : Int} {S T F : Mat} {vm vk vr : Value} {sd : Bool} {K : List KRow} {R : List RRow}
end
def bAt (h : List TxnV) (k : Nat) : Int := ((h[k]?).map (·.b)).getD 0
theorem bAt_eq {h : List TxnV} {k : Nat} (hk : k < h.length) : bAt h k = h[k].b := by unfold bAt; rw [List.getElem?_eq_getElem hk]; rfl
end

section
open Go.RowKit
def lenV : Value → Nat
 | .slice _ n _ => n
 | _ => 0
theorem owns_lenV {w : World} {base : Nat} {e : TypeId} {size : Nat} {v : Value} {n : Nat} {cs : List Value} (h : w.ownsRow base e size v n cs) : lenV v = n := by
 rcases h.2 with ⟨rfl, rfl⟩ | ⟨g, cap, cur, rfl, _⟩ <;> rfl
end

section
open Go.RowKit
theorem takeG {P : Program} {ops : Array Oper} {Q : Exit → Act → World → Prop} {md : Region.Mode} {S : World → Prop} (d : Option Tmp) {i : Nat} {oi : Oper} {v : Value} {fuel : Nat} {listed : Array Bool} {a : Act} {w : World} (hi : ops[i]? = some oi) (hd : oi.dst = d)
  (hs : Region.noSelect ops = true) (hf : Region.free md ops listed i = true) (hr : (Region.ready md ops listed).contains i = true)
  (hQ : ∀ c a w, Q (.panic c) (a.put oi.dst v) w → Q (.panic c) a w) (hy : YieldsIf P ops S oi v a) (hS : S w)
  (h : wpAnyH P md ops Q S fuel (listed.setIfInBounds i true) (a.put d v) w) : wpAnyH P md ops Q S (fuel + 1) listed a w := by
 subst hd; exact wpAnyH_take hi hs hf hr hQ hy hS h
end

section
open Go.RowKit
theorem mayop_any (wr : Bool) (key val : Int) (w : World) :
  Calls Try.prog 63 #[.agg #[.bool wr, .int .i64 key, .int .i64 val]] w fun e w' => e = .returned (.bool (mayO ⟨wr, key, val⟩)) ∧ Below w.heap.size w w' := by
 have hi : mayO ⟨wr, key, val⟩ = true ↔ (0 ≤ key ∧ key < 64) ∧ (0 ≤ val ∧ val ≤ 2147483647) ∧ (wr = true → val ≠ 0) := mayO_iff ⟨wr, key, val⟩
 have hb := box_below w (.cells #[.bool wr, .int .i64 key, .int .i64 val] 45)
 have NO : Hid (¬ ((0 ≤ key ∧ key < 64) ∧ (0 ≤ val ∧ val ≤ 2147483647) ∧ (wr = true → val ≠ 0)) → false = mayO ⟨wr, key, val⟩) := hid (fun h => by
  cases hm : mayO ⟨wr, key, val⟩
  ·rfl
  ·exact absurd (hi.1 hm) h)
 by_cases d1 : key < 0
 ·have H := hid (NO.out (by omega))
  go_enter Try.func63, Try.ntmps63
  go_wp2_with fail
  go_ret
  exact ⟨ret_b H.out, hb⟩
 by_cases d2 : (63 : Int) < key
 ·have H := hid (NO.out (by omega))
  go_enter Try.func63, Try.ntmps63
  go_wp2_with fail
  go_ret
  exact ⟨ret_b H.out, hb⟩
 by_cases d3 : val < 0
 ·have H := hid (NO.out (by omega))
  go_enter Try.func63, Try.ntmps63
  go_wp2_with fail
  go_ret
  exact ⟨ret_b H.out, hb⟩
 by_cases d4 : (2147483647 : Int) < val
 ·have H := hid (NO.out (by omega))
  go_enter Try.func63, Try.ntmps63
  go_wp2_with fail
  go_ret
  exact ⟨ret_b H.out, hb⟩
 cases wr
 ·have H : Hid (true = mayO ⟨false, key, val⟩) := hid (hi.2 ⟨by omega, by omega, fun h => by cases h⟩).symm
  clear hi NO
  go_enter Try.func63, Try.ntmps63
  go_wp2_with fail
  go_ret
  exact ⟨ret_b H.out, hb⟩
 ·by_cases d5 : val = 0
  ·have H := hid (NO.out (fun h => h.2.2 rfl d5))
   subst d5
   clear hi NO
   go_enter Try.func63, Try.ntmps63
   go_wp2_with fail
   go_ret
   exact ⟨ret_b H.out, hb⟩
  ·have H : Hid (true = mayO ⟨true, key, val⟩) := hid (hi.2 ⟨by omega, by omega, fun _ => d5⟩).symm
   have d6 : (val != 0) = true := by simpa using d5
   clear hi NO d5
   go_enter Try.func63, Try.ntmps63
   go_wp2_with fail
   go_ret
   exact ⟨ret_b H.out, hb⟩
theorem maytxn_any (s b c : Int) (va : Value) (l : List OpV) (w : World) (ha : Ops w va l) :
  Calls Try.prog 46 #[.agg #[.int .i64 s, .int .i64 b, .int .i64 c, va]] w fun e w' => e = .returned (.bool (mayT s b c l)) ∧ Below w.heap.size w w' := by
 obtain ⟨ao, cap, rfl, hal⟩ := ha.form
 have hb0 := (Below.refl w.heap.size w).alloc (Nat.le_refl _) (.cells #[.int .i64 s, .int .i64 b, .int .i64 c, .slice ao l.length cap] 41)
 have hA0 := At.new w (.cells #[.int .i64 s, .int .i64 b, .int .i64 c, .slice ao l.length cap] 41)
 have NO : Hid (¬ (0 ≤ s ∧ s < 64 ∧ 0 ≤ b ∧ b < c ∧ c ≤ 2147483647 ∧ 1 ≤ l.length ∧ l.length ≤ 64) → false = mayT s b c l) := hid (fun h => (mayT_no h).symm)
 by_cases d1 : s < 0
 ·have H := hid (NO.out (by omega))
  go_enter Try.func46, Try.ntmps46
  go_wp2_with fail
  go_ret
  exact ⟨ret_b H.out, hb0⟩
 by_cases d2 : (63 : Int) < s
 ·have H := hid (NO.out (by omega))
  go_enter Try.func46, Try.ntmps46
  go_wp2_with fail
  go_ret
  exact ⟨ret_b H.out, hb0⟩
 by_cases d3 : b < 0
 ·have H := hid (NO.out (by omega))
  go_enter Try.func46, Try.ntmps46
  go_wp2_with fail
  go_ret
  exact ⟨ret_b H.out, hb0⟩
 by_cases d4 : c ≤ b
 ·have H := hid (NO.out (by omega))
  go_enter Try.func46, Try.ntmps46
  go_wp2_with fail
  go_ret
  exact ⟨ret_b H.out, hb0⟩
 by_cases d5 : (2147483647 : Int) < c
 ·have H := hid (NO.out (by omega))
  go_enter Try.func46, Try.ntmps46
  go_wp2_with fail
  go_ret
  exact ⟨ret_b H.out, hb0⟩
 by_cases d6 : (l.length : Int) < 1
 ·have H := hid (NO.out (by omega))
  go_enter Try.func46, Try.ntmps46
  go_wp2_with fail
  go_ret
  exact ⟨ret_b H.out, hb0⟩
 by_cases d7 : (64 : Int) < (l.length : Int)
 ·have H := hid (NO.out (by omega))
  go_enter Try.func46, Try.ntmps46
  go_wp2_with fail
  go_ret
  exact ⟨ret_b H.out, hb0⟩
 have YES : Hid (mayT s b c l = allM l) := hid (mayT_yes (by omega))
 clear NO
 go_enter Try.func46, Try.ntmps46
 go_wp2_with fail
 clear d1 d2 d3 d4 d5 d6 d7
 go_loopw [3] (fun i wr => ∃ k : Nat, k ≤ l.length ∧ i = .int .i64 k ∧ allM (l.take k) = true ∧ At wr w.heap.size (.cells #[.int .i64 s, .int .i64 b, .int .i64 c, .slice ao l.length cap] 41) ∧ Below w.heap.size w wr) (fun i _ => l.length - (intOf i).toNat)
 case atStart => exact ⟨0, by omega, rfl, rfl, hA0, hb0⟩
 case round =>
  obtain ⟨k, hk, rfl, hal2, hA, hb⟩ := hrel
  have HA := hid hal2
  clear hal2 hb0 hA0
  obtain ⟨q0, q1, q2, q3⟩ := hA.cells4
  by_cases hlt : k < l.length
  ·have hki : (k : Int) < (l.length : Int) := by omega
   obtain ⟨g, o, hao, c0, c1, c2⟩ := (ha.below hb).at hlt
   cases hao
   have HS := hid (allM_succ l k hlt)
   have HNO := hid (allM_no l k hlt)
   generalize l[k] = x at *
   obtain ⟨xw, xk, xv⟩ := x
   try simp only at c0 c1 c2
   have CR := hid (mayop_any xw xk xv wr)
   generalize mayO ⟨xw, xk, xv⟩ = q at *
   go_wp2_with fail
   refine (CR.out).mono ?_
   rintro e w1 ⟨rfl, hb1⟩
   have hb2 := below_then hb hb1
   have hA1 := hA.below hb1
   clear CR q0 q1 q2 q3
   cases q
   ·have H : Hid (false = mayT s b c l) := hid (by rw [YES.out, HNO.out rfl])
    go_wp2_with fail
    go_ret
    exact ⟨ret_b H.out, hb2⟩
   ·have H : Hid (allM (l.take (k + 1)) = true) := hid (by rw [HS.out, HA.out]; rfl)
    go_wp2_with fail
    go_roundw
    case rel => exact ⟨k + 1, by omega, by go_num, H.out, hA1, hb2⟩
    case measure => simp [intOf]; omega
  ·have hkl : k = l.length := by omega
   have H : Hid (true = mayT s b c l) := hid (by have := HA.out; rw [hkl, List.take_length] at this; rw [YES.out, this])
   go_wp2_with fail
   go_ret
   exact ⟨ret_b H.out, hb⟩
def tmO (x : Int) (l : List OpV) : Nat := (wv l).count x
def tmH (x : Int) (h : List TxnV) : Nat := (wvH h).count x
theorem tmO_succ (x : Int) (l : List OpV) (k : Nat) (hk : k < l.length) : tmO x (l.take (k + 1)) = tmO x (l.take k) + (if l[k].wr = true ∧ l[k].val = x then 1 else 0) := by
 unfold tmO
 rw [take_snoc l k hk, wv_snoc, List.count_append]
 cases hw : l[k].wr
 ·simp
 ·by_cases e : l[k].val = x <;> simp [e]
theorem tmH_succ (x : Int) (h : List TxnV) (k : Nat) (hk : k < h.length) : tmH x (h.take (k + 1)) = tmH x (h.take k) + tmO x h[k].l := by
 unfold tmH tmO; rw [wvH_succ h k hk, List.count_append]
theorem tmO_le (x : Int) (l : List OpV) (k : Nat) : tmO x (l.take k) ≤ k := by
 unfold tmO
 have h1 := List.count_le_length (a := x) (l := wv (l.take k))
 have h2 := wv_len (l.take k)
 rw [List.length_take] at h2
 omega
theorem tmH_le (x : Int) (h : List TxnV) : tmH x h ≤ opsN h := by
 unfold tmH
 have h1 := List.count_le_length (a := x) (l := wvH h)
 have h2 : (wvH h).length ≤ opsN h := by
  unfold wvH opsN
  rw [List.length_flatMap]
  clear h1
  induction h with
  | nil => simp
  | cons t h ih =>
   have := wv_len t.l
   simp only [List.map_cons, List.sum_cons]
   omega
 omega
theorem times_any (va : Value) (h : List TxnV) (x : Int) (w : World) (hT : Txns w va h) (hn : opsN h ≤ 100000) :
  Calls Try.prog 47 #[va, .int .i64 x] w fun e w' => e = .returned (.int .i64 (tmH x h)) ∧ Below w.heap.size w w' := by
 obtain ⟨ao, cap, rfl, hal⟩ := hT.form
 go_enter Try.func47, Try.ntmps47
 go_wp2_with fail
 go_loopw [5, 6] (fun n i wr => ∃ k : Nat, k ≤ h.length ∧ i = .int .i64 k ∧ n = .int .i64 (tmH x (h.take k)) ∧ w = wr) (fun _ i _ => h.length - (intOf i).toNat)
 case atStart => exact ⟨0, by omega, rfl, by simp [tmH, wvH], rfl⟩
 case round =>
  obtain ⟨k, hk, rfl, rfl, rfl⟩ := hrel
  by_cases hlt : k < h.length
  ·have hki : (k : Int) < (h.length : Int) := by omega
   obtain ⟨g, o, hao, c0, c1, c2, c3⟩ := hT.at hlt
   cases hao
   have HS := hid (tmH_succ x h k hlt)
   have hle1 := tmH_le x (h.take k)
   have hle2 := opsN_le h k
   have hle3 := opsN_at h k hlt
   obtain ⟨ai, capi, hv, hli⟩ := (hT.ops hlt).form
   have hO := hT.ops hlt
   rw [hv] at c3 hO
   generalize h[k].l = l at *
   generalize tmH x (h.take k) = m at *
   clear hv c0 c1 c2 hT
   go_wp2_with fail
   go_loopw [5, 7] (fun n i wx => ∃ j : Nat, j ≤ l.length ∧ i = .int .i64 j ∧ n = .int .i64 ((m + tmO x (l.take j) : Nat)) ∧ w = wx) (fun _ i _ => l.length - (intOf i).toNat)
   case atStart => exact ⟨0, by omega, rfl, by simp [tmO, wv], rfl⟩
   case round =>
    obtain ⟨j, hj, rfl, rfl, rfl⟩ := hrel
    have htj := tmO_le x l j
    by_cases hltj : j < l.length
    ·have hkj : (j : Int) < (l.length : Int) := by omega
     obtain ⟨g2, o2, hao2, e0, e1, e2⟩ := hO.at hltj
     cases hao2
     have HSJ := hid (tmO_succ x l j hltj)
     generalize l[j] = y at *
     obtain ⟨yw, yk, yv⟩ := y
     try simp only at e0 e1 e2
     generalize tmO x (l.take j) = n at *
     cases yw with
     | false =>
      have H : Hid (tmO x (l.take (j + 1)) = n) := hid (by rw [HSJ.out]; simp)
      clear HSJ
      go_wp2_with fail
      go_roundw
      case rel => exact ⟨j + 1, by omega, by go_num, by rw [H.out], by first | rfl | trivial⟩
      case measure => simp [intOf]; omega
     | true =>
      by_cases hx : yv = x
      ·have H : Hid (tmO x (l.take (j + 1)) = n + 1) := hid (by rw [HSJ.out]; simp [hx])
       subst hx
       clear HSJ
       go_wp2_with fail
       go_roundw
       case rel => exact ⟨j + 1, by omega, by go_num, by rw [H.out]; go_num, by first | rfl | trivial⟩
       case measure => simp [intOf]; omega
      ·have H : Hid (tmO x (l.take (j + 1)) = n) := hid (by rw [HSJ.out]; simp [hx])
       have hx' : (yv == x) = false := by simpa using hx
       clear HSJ hx
       go_wp2_with fail
       go_roundw
       case rel => exact ⟨j + 1, by omega, by go_num, by rw [H.out], by first | rfl | trivial⟩
       case measure => simp [intOf]; omega
    ·have hj2 : j = l.length := by omega
     subst hj2
     have H : Hid (tmH x (h.take (k + 1)) = m + tmO x (l.take l.length)) := hid (by rw [HS.out, List.take_length])
     generalize tmO x (l.take l.length) = n at *
     go_wp2_with fail
     go_roundw
     case rel => exact ⟨k + 1, by omega, by go_num, by rw [H.out], by first | rfl | trivial⟩
     case measure => simp [intOf]; omega
  ·have hkl : k = h.length := by omega
   subst hkl
   have H : Hid ((tmH x (h.take h.length) : Int) = tmH x h) := hid (by rw [List.take_length])
   generalize tmH x (h.take h.length) = n at *
   go_wp2_with fail
   go_ret
   exact ⟨ret_int H.out, Below.refl _ _⟩
end

section
open Go.RowKit
def isWr (key x : Int) (o : OpV) : Bool := o.wr && (o.key == key && o.val == x)
def wrI (key x : Int) (h : List TxnV) : Int := match h.findIdx? (fun t => t.l.any (isWr key x)) with
 | some i => i
 | none => -1
theorem wrI_hit {key x : Int} {h : List TxnV} {k j : Nat} (hk : k < h.length) (hj : j < h[k].l.length) (hn : ∀ i, ∀ hi : i < k, (h[i]'(by omega)).l.any (isWr key x) = false) (hh : isWr key x h[k].l[j] = true) : wrI key x h = k := by
 unfold wrI
 have : h.findIdx? (fun t => t.l.any (isWr key x)) = some k := by
  rw [List.findIdx?_eq_some_iff_getElem]
  exact ⟨hk, List.any_eq_true.2 ⟨_, List.getElem_mem hj, hh⟩, fun i hi => by rw [hn i hi]; simp⟩
 rw [this]
theorem wrI_none {key x : Int} {h : List TxnV} (hn : ∀ i, ∀ hi : i < h.length, h[i].l.any (isWr key x) = false) : wrI key x h = -1 := by
 unfold wrI
 have : h.findIdx? (fun t => t.l.any (isWr key x)) = none := by
  rw [List.findIdx?_eq_none_iff]
  intro t ht
  obtain ⟨i, hi, rfl⟩ := List.getElem_of_mem ht
  exact hn i hi
 rw [this]
theorem wrI_nonneg {key x : Int} {h : List TxnV} : wrI key x h < 0 ↔ ∀ t ∈ h, ∀ o ∈ t.l, isWr key x o = false := by
 unfold wrI
 cases hf : h.findIdx? (fun t => t.l.any (isWr key x)) with
 | none =>
  rw [List.findIdx?_eq_none_iff] at hf
  simp only [Int.reduceNeg, Int.reduceLT, true_iff]
  intro t ht o ho
  have := List.any_eq_false.1 (hf t ht) o ho
  simpa using this
 | some i =>
  rw [List.findIdx?_eq_some_iff_getElem] at hf
  obtain ⟨hi, h1, _⟩ := hf
  constructor
  ·intro h2; simp only at h2; omega
  ·intro h2
   obtain ⟨o, ho, hw⟩ := List.any_eq_true.1 h1
   rw [h2 _ (List.getElem_mem hi) o ho] at hw
   cases hw
theorem writer_any (va : Value) (h : List TxnV) (key x : Int) (w : World) (hT : Txns w va h) :
  Calls Try.prog 48 #[va, .int .i64 key, .int .i64 x] w fun e w' => e = .returned (.int .i64 (wrI key x h)) ∧ Below w.heap.size w w' := by
 obtain ⟨ao, cap, rfl, hal⟩ := hT.form
 have HT := hid (fun wx (hx : Below w.heap.size w wx) => hT.below hx)
 have HHIT : Hid (∀ k j, ∀ hk : k < h.length, ∀ hj : j < h[k].l.length, (∀ i, ∀ hi : i < k, (h[i]'(by omega)).l.any (isWr key x) = false) → isWr key x h[k].l[j] = true → (k : Int) = wrI key x h) := hid (fun k j hk hj hn hh => (wrI_hit hk hj hn hh).symm)
 have HNONE : Hid ((∀ i, ∀ hi : i < h.length, h[i].l.any (isWr key x) = false) → (-1 : Int) = wrI key x h) := hid (fun hn => (wrI_none hn).symm)
 clear hT
 go_enter Try.func48, Try.ntmps48
 go_wp2_with fail
 go_loopw [7] (fun i wr => ∃ k : Nat, k ≤ h.length ∧ i = .int .i64 k ∧ (∀ i, ∀ _ : i < k, ∀ hi2 : i < h.length, h[i].l.any (isWr key x) = false) ∧ Below w.heap.size w wr) (fun i _ => h.length - (intOf i).toNat)
 case atStart => exact ⟨0, by omega, rfl, by omega, Below.refl _ _⟩
 case round =>
  obtain ⟨k, hk, rfl, hN, hb⟩ := hrel
  have HN := hid hN
  clear hN
  by_cases hlt : k < h.length
  ·have hki : (k : Int) < (h.length : Int) := by omega
   obtain ⟨g, o, hao, c0, c1, c2, c3⟩ := (HT.out _ hb).at hlt
   cases hao
   have HOP := hid (fun wx (hx : Below w.heap.size w wx) => (HT.out wx hx).ops hlt)
   have HAT := hid (fun wx (hx : Below w.heap.size w wx) => (HT.out wx hx).at hlt)
   have HHK := hid (fun j hj hh => HHIT.out k j hlt hj (fun i hi => HN.out i hi (by omega)) hh)
   have HLK : Hid (h[k].l.any (isWr key x) = false → ∀ i, ∀ _ : i < k + 1, ∀ hi2 : i < h.length, h[i].l.any (isWr key x) = false) := hid (fun hh i hi hi2 => by
    rcases Nat.lt_or_eq_of_le (Nat.le_of_lt_succ hi) with h1 | rfl
    ·exact HN.out i h1 hi2
    ·exact hh)
   obtain ⟨ai, capi, hv, hli⟩ := ((HT.out _ hb).ops hlt).form
   rw [hv] at HOP c3 HAT
   generalize h[k].l = l at *
   clear hv c0 c1 c2 c3 HHIT HNONE
   go_wp2_with fail
   go_loopw [8] (fun i wx => ∃ j : Nat, j ≤ l.length ∧ i = .int .i64 j ∧ ((l.take j).any (isWr key x) = false) ∧ Below w.heap.size w wx) (fun i _ => l.length - (intOf i).toNat)
   case atStart => exact ⟨0, by omega, rfl, rfl, hb⟩
   case round =>
    obtain ⟨j, hj, rfl, hA, hb2⟩ := hrel
    have HA := hid hA
    clear hA hb
    obtain ⟨_, _, hao, c0, c1, c2, c3⟩ := HAT.out _ hb2
    cases hao
    clear c0 c1 c2
    by_cases hltj : j < l.length
    ·have hkj : (j : Int) < (l.length : Int) := by omega
     obtain ⟨g2, o2, hao2, e0, e1, e2⟩ := (HOP.out _ hb2).at hltj
     cases hao2
     have HS : Hid ((l.take (j + 1)).any (isWr key x) = ((l.take j).any (isWr key x) || isWr key x l[j])) := hid (by rw [take_snoc l j hltj, List.any_append]; simp)
     have HH := hid (HHK.out j hltj)
     generalize l[j] = y at *
     obtain ⟨yw, yk, yv⟩ := y
     try simp only at e0 e1 e2
     have hb3 := hb2.alloc hb2.size (.cells #[.bool yw, .int .i64 yk, .int .i64 yv] 45)
     clear HHK
     cases yw with
     | false =>
      have H : Hid ((l.take (j + 1)).any (isWr key x) = false) := hid (by rw [HS.out, HA.out]; rfl)
      clear HS HH
      go_wp2_with fail
      go_roundw
      case rel => exact ⟨j + 1, by omega, by go_num, H.out, hb3⟩
      case measure => simp [intOf]; omega
     | true =>
      by_cases hyk : yk = key
      ·subst hyk
       by_cases hyv : yv = x
       ·have H := hid (HH.out (by subst hyv; unfold isWr; simp))
        subst hyv
        clear HS HH
        go_wp2_with fail
        go_ret
        exact ⟨ret_int H.out, hb3⟩
       ·have H : Hid ((l.take (j + 1)).any (isWr yk x) = false) := hid (by rw [HS.out, HA.out]; unfold isWr; simp [hyv])
        have hyv' : (yv == x) = false := by simpa using hyv
        clear HS HH hyv
        go_wp2_with fail
        go_roundw
        case rel => exact ⟨j + 1, by omega, by go_num, H.out, hb3⟩
        case measure => simp [intOf]; omega
      ·have H : Hid ((l.take (j + 1)).any (isWr key x) = false) := hid (by rw [HS.out, HA.out]; unfold isWr; simp [hyk])
       have hyk' : (yk == key) = false := by simpa using hyk
       clear HS HH hyk
       go_wp2_with fail
       go_roundw
       case rel => exact ⟨j + 1, by omega, by go_num, H.out, hb3⟩
       case measure => simp [intOf]; omega
    ·have hj2 : j = l.length := by omega
     subst hj2
     have H := hid (HLK.out (by have := HA.out; rwa [List.take_length] at this))
     go_wp2_with fail
     go_roundw
     case rel => exact ⟨k + 1, by omega, by go_num, H.out, hb2⟩
     case measure => simp [intOf]; omega
  ·have hkl : k = h.length := by omega
   subst hkl
   have H := hid (HNONE.out (fun i hi => HN.out i hi hi))
   clear HHIT HNONE
   go_wp2_with fail
   go_ret
   exact ⟨ret_int H.out, hb⟩
end

section
open Go.RowKit
def apartB (a t : TxnV) : Bool := (a.b != t.b && (a.b != t.c && (a.c != t.b && a.c != t.c))) && !(a.s == t.s && decide (t.b < a.c))
def opR (h : List TxnV) (o : OpV) : Bool := if o.wr then tmH o.val h == 1 else o.val == 0 || !decide (wrI o.key o.val h < 0)
def rowR (h : List TxnV) (k : Nat) (t : TxnV) : Bool := mayT t.s t.b t.c t.l && ((h.take k).all (fun a => apartB a t) && t.l.all (opR h))
def mayRef (h : List TxnV) : Bool := (List.range h.length).all fun k => match h[k]? with
 | some t => rowR h k t
 | none => true
theorem mayRef_no {h : List TxnV} {k : Nat} (hk : k < h.length) (hn : rowR h k h[k] = false) : mayRef h = false := by
 unfold mayRef
 rw [List.all_eq_false]
 exact ⟨k, List.mem_range.2 hk, by rw [List.getElem?_eq_getElem hk]; simp [hn]⟩
theorem mayRef_yes {h : List TxnV} (hn : ∀ k, ∀ hk : k < h.length, rowR h k h[k] = true) : mayRef h = true := by
 unfold mayRef
 rw [List.all_eq_true]
 intro k hk
 have := List.mem_range.1 hk
 rw [List.getElem?_eq_getElem this]; exact hn k this
theorem rowR_a {h : List TxnV} {k : Nat} {t : TxnV} (hn : mayT t.s t.b t.c t.l = false) : rowR h k t = false := by unfold rowR; rw [hn]; rfl
theorem rowR_b {h : List TxnV} {k : Nat} {t : TxnV} {j : Nat} (hj : j < k) (hk : k ≤ h.length) (hn : apartB (h[j]'(by omega)) t = false) : rowR h k t = false := by
 unfold rowR
 have : (h.take k).all (fun a => apartB a t) = false := List.all_eq_false.2 ⟨h[j]'(by omega), by rw [List.mem_take_iff_getElem]; exact ⟨j, by omega, rfl⟩, by simp [hn]⟩
 rw [this]; simp
theorem rowR_c {h : List TxnV} {k : Nat} {t : TxnV} {j : Nat} (hj : j < t.l.length) (hn : opR h t.l[j] = false) : rowR h k t = false := by
 unfold rowR
 have : t.l.all (opR h) = false := List.all_eq_false.2 ⟨t.l[j], List.getElem_mem hj, by simp [hn]⟩
 rw [this]; simp
theorem rmay_any (va : Value) (h : List TxnV) (w : World) (hT : Txns w va h) (hn : opsN h ≤ 100000) :
  Calls Try.prog 22 #[va] w fun e w' => e = .returned (.bool (mayRef h)) ∧ Below w.heap.size w w' := by
 obtain ⟨ao, cap, rfl, hal⟩ := hT.form
 have HT := hid (fun wx (hx : Below w.heap.size w wx) => hT.below hx)
 have HNO : Hid (∀ k, ∀ hk : k < h.length, rowR h k h[k] = false → false = mayRef h) := hid (fun k hk hh => (mayRef_no hk hh).symm)
 have HTM : Hid (∀ x wx, Below w.heap.size w wx → Calls Try.prog 47 #[.slice ao h.length cap, .int .i64 x] wx fun e w' => e = .returned (.int .i64 (tmH x h)) ∧ Below wx.heap.size wx w') := hid (fun x wx hx => times_any _ h x wx (hT.below hx) hn)
 have HWR : Hid (∀ key x wx, Below w.heap.size w wx → Calls Try.prog 48 #[.slice ao h.length cap, .int .i64 key, .int .i64 x] wx fun e w' => e = .returned (.int .i64 (wrI key x h)) ∧ Below wx.heap.size wx w') := hid (fun key x wx hx => writer_any _ h key x wx (hT.below hx))
 clear hT
 go_enter Try.func22, Try.ntmps22
 go_wp2_with fail
 go_loopw [3] (fun i wr => ∃ k : Nat, k ≤ h.length ∧ i = .int .i64 k ∧ (∀ j, ∀ _ : j < k, ∀ hj : j < h.length, rowR h j h[j] = true) ∧ Below w.heap.size w wr) (fun i _ => h.length - (intOf i).toNat)
 case atStart => exact ⟨0, by omega, rfl, by omega, Below.refl _ _⟩
 case round =>
  obtain ⟨k, hk, rfl, hN, hb⟩ := hrel
  have HN := hid hN
  clear hN
  by_cases hlt : k < h.length
  ·have hki : (k : Int) < (h.length : Int) := by omega
   obtain ⟨g, o, hao, c0, c1, c2, c3⟩ := (HT.out _ hb).at hlt
   cases hao
   have HOP := hid (fun wx (hx : Below w.heap.size w wx) => (HT.out wx hx).ops hlt)
   have HAT := hid (fun wx (hx : Below w.heap.size w wx) => (HT.out wx hx).at hlt)
   have HAJ := hid (fun wx (hx : Below w.heap.size w wx) j (hj : j < h.length) => (HT.out wx hx).at hj)
   have HNK := hid (HNO.out k hlt)
   have HLK : Hid (rowR h k h[k] = true → ∀ i, ∀ _ : i < k + 1, ∀ hi2 : i < h.length, rowR h i h[i] = true) := hid (fun hh i hi hi2 => by
    rcases Nat.lt_or_eq_of_le (Nat.le_of_lt_succ hi) with h1 | rfl
    ·exact HN.out i h1 hi2
    ·exact hh)
   have HJV : Hid (∀ wx, Below w.heap.size w wx → ∀ j, ∀ hj : j < h.length, ∃ a' m' c', (h[j]).v = .slice a' m' c') := hid (fun wx hx j hj => by
    obtain ⟨a', c', hv', _⟩ := ((HT.out wx hx).ops hj).form
    exact ⟨a', _, c', hv'⟩)
   generalize ht : h[k] = t at *
   have HTK := hid ht
   clear ht
   obtain ⟨s, b, c, v, l⟩ := t
   simp only at c0 c1 c2 c3 HOP HAT
   obtain ⟨ai, capi, rfl, hli⟩ := (HOP.out _ hb).form
   have CM := hid (maytxn_any s b c _ l wr (HOP.out _ hb))
   clear HN
   cases hm : mayT s b c l
   ·have H := hid (HNK.out (rowR_a hm))
    rw [hm] at CM
    clear hm HNK HLK HNO
    go_wp2_with fail
    refine (CM.out).mono ?_
    rintro e w1 ⟨rfl, hb1⟩
    have hb2 := below_then hb hb1
    go_wp2_with fail
    go_ret
    exact ⟨ret_b H.out, hb2⟩
   rw [hm] at CM
   have HM := hid hm
   clear hm
   go_wp2_with fail
   refine (CM.out).mono ?_
   rintro e w1 ⟨rfl, hb1⟩
   have hb2 := below_then hb hb1
   clear CM hb hb1 c0 c1 c2 c3
   go_wp2_with fail
   go_loopw [4] (fun i wx => ∃ j : Nat, j ≤ k ∧ i = .int .i64 j ∧ ((h.take j).all (fun a => apartB a ⟨s, b, c, .slice ai l.length capi, l⟩) = true) ∧ Below w.heap.size w wx) (fun i _ => k - (intOf i).toNat)
   case atStart => exact ⟨0, by omega, rfl, rfl, hb2⟩
   case round =>
    obtain ⟨j, hj, rfl, hA, hb3⟩ := hrel
    have HA := hid hA
    clear hA hb2
    by_cases hltj : j < k
    ·have hkj : (j : Int) < (k : Int) := by omega
     have hjl : j < h.length := by omega
     have hjl' : (j : Int) < (h.length : Int) := by omega
     obtain ⟨_, _, hao, c0, c1, c2, c3⟩ := HAJ.out _ hb3 j hjl
     cases hao
     have HS : Hid ((h.take (j + 1)).all (fun a => apartB a ⟨s, b, c, .slice ai l.length capi, l⟩) = ((h.take j).all (fun a => apartB a ⟨s, b, c, .slice ai l.length capi, l⟩) && apartB h[j] ⟨s, b, c, .slice ai l.length capi, l⟩)) := hid (by rw [List.take_succ_eq_append_getElem hjl, List.all_append]; simp)
     have HB := hid (fun hh => HNK.out (rowR_b hltj hk hh))
     obtain ⟨a1, m1, cap1, hv1⟩ := HJV.out _ hb3 j hjl
     rw [hv1] at c3
     generalize h[j] = u at *
     obtain ⟨us, ub, uc, uv, ul⟩ := u
     simp only at c0 c1 c2 hv1
     subst hv1
     have hb4 := hb3.alloc hb3.size (.cells #[.int .i64 us, .int .i64 ub, .int .i64 uc, .slice a1 m1 cap1] 41)
     have hb5 := hb4.alloc hb4.size (.cells #[.int .i64 s, .int .i64 b, .int .i64 c, .slice ai l.length capi] 41)
     obtain ⟨_, _, hao, e0, e1, e2, e3⟩ := HAT.out _ hb4
     cases hao
     have HAP : Hid (apartB ⟨us, ub, uc, .slice a1 m1 cap1, ul⟩ ⟨s, b, c, .slice ai l.length capi, l⟩ = ((ub != b && (ub != c && (uc != b && uc != c))) && !(us == s && decide (b < uc)))) := hid rfl
     generalize apartB ⟨us, ub, uc, .slice a1 m1 cap1, ul⟩ ⟨s, b, c, .slice ai l.length capi, l⟩ = q at *
     cases b1 : ub == b
     case true =>
      have H := hid (HB.out (by rw [HAP.out]; simp [bne, b1]))
      clear HLK HNO HNK HB HAP HS
      go_wp2_with fail
      go_ret
      exact ⟨ret_b H.out, hb5⟩
     cases b2 : ub == c
     case true =>
      have H := hid (HB.out (by rw [HAP.out]; simp [bne, b1, b2]))
      clear HLK HNO HNK HB HAP HS
      go_wp2_with fail
      go_ret
      exact ⟨ret_b H.out, hb5⟩
     cases b3 : uc == b
     case true =>
      have H := hid (HB.out (by rw [HAP.out]; simp [bne, b1, b2, b3]))
      clear HLK HNO HNK HB HAP HS
      go_wp2_with fail
      go_ret
      exact ⟨ret_b H.out, hb5⟩
     cases b4 : uc == c
     case true =>
      have H := hid (HB.out (by rw [HAP.out]; simp [bne, b1, b2, b3, b4]))
      clear HLK HNO HNK HB HAP HS
      go_wp2_with fail
      go_ret
      exact ⟨ret_b H.out, hb5⟩
     cases b5 : us == s
     case false =>
      have H : Hid ((h.take (j + 1)).all (fun a => apartB a ⟨s, b, c, .slice ai l.length capi, l⟩) = true) := hid (by rw [HS.out, HA.out, HAP.out]; simp [bne, b1, b2, b3, b4, b5])
      clear HB HAP HS
      go_wp2_with fail
      go_roundw
      case rel => exact ⟨j + 1, by omega, by go_num, H.out, hb5⟩
      case measure => simp [intOf]; omega
     by_cases d6 : b < uc
     ·have H := hid (HB.out (by rw [HAP.out]; simp [bne, b1, b2, b3, b4, b5, d6]))
      clear HLK HNO HNK HB HAP HS
      go_wp2_with fail
      go_ret
      exact ⟨ret_b H.out, hb5⟩
     ·have H : Hid ((h.take (j + 1)).all (fun a => apartB a ⟨s, b, c, .slice ai l.length capi, l⟩) = true) := hid (by rw [HS.out, HA.out, HAP.out]; simp [bne, b1, b2, b3, b4, b5, d6])
      clear HB HAP HS
      go_wp2_with fail
      go_roundw
      case rel => exact ⟨j + 1, by omega, by go_num, H.out, hb5⟩
      case measure => simp [intOf]; omega
    ·have hjk : j = k := by omega
     subst hjk
     have HRO : Hid (rowR h j ⟨s, b, c, .slice ai l.length capi, l⟩ = l.all (opR h)) := hid (by unfold rowR; rw [HM.out, HA.out]; rfl)
     have HOO := hid (fun i hi hh => HNK.out (rowR_c (j := i) hi hh))
     clear HNK HM HA HJV HAJ
     go_wp2_with fail
     go_loopw [7] (fun i wx => ∃ m : Nat, m ≤ l.length ∧ i = .int .i64 m ∧ (l.take m).all (opR h) = true ∧ Below w.heap.size w wx) (fun i _ => l.length - (intOf i).toNat)
     case atStart => exact ⟨0, by omega, rfl, rfl, hb3⟩
     case round =>
      obtain ⟨m, hm, rfl, hA, hb4⟩ := hrel
      have HA := hid hA
      clear hA hb3
      obtain ⟨_, _, hao, c0, c1, c2, c3⟩ := HAT.out _ hb4
      cases hao
      clear c0 c1 c2
      by_cases hltm : m < l.length
      ·have hkm : (m : Int) < (l.length : Int) := by omega
       obtain ⟨g2, o2, hao2, e0, e1, e2⟩ := (HOP.out _ hb4).at hltm
       cases hao2
       have HS : Hid ((l.take (m + 1)).all (opR h) = ((l.take m).all (opR h) && opR h l[m])) := hid (by rw [take_snoc l m hltm, List.all_append]; simp)
       have HB := hid (HOO.out m hltm)
       generalize l[m] = y at *
       obtain ⟨yw, yk, yv⟩ := y
       try simp only at e0 e1 e2
       have hb5 := hb4.alloc hb4.size (.cells #[.bool yw, .int .i64 yk, .int .i64 yv] 45)
       have HOR : Hid (opR h ⟨yw, yk, yv⟩ = if yw then tmH yv h == 1 else yv == 0 || !decide (wrI yk yv h < 0)) := hid rfl
       generalize opR h ⟨yw, yk, yv⟩ = q at *
       cases yw with
       | true =>
        simp only [if_true] at HOR
        have CT := hid (HTM.out yv _ hb5)
        generalize tmH yv h = n at *
        cases hn1 : n == 1
        ·have H := hid (HB.out (by rw [HOR.out, hn1]))
         have hn2 : ((n : Int) != 1) = true := by simp at hn1 ⊢; omega
         clear HLK HNO HOO HB HOR HS hn1
         go_wp2_with fail
         refine (CT.out).mono ?_
         rintro e w6 ⟨rfl, hb6⟩
         have hb7 := below_then hb5 hb6
         go_wp2_with fail
         go_ret
         exact ⟨ret_b H.out, hb7⟩
        ·have H : Hid ((l.take (m + 1)).all (opR h) = true) := hid (by rw [HS.out, HA.out, HOR.out, hn1]; rfl)
         obtain rfl : n = 1 := by simpa using hn1
         change Hid (Calls _ _ _ _ fun e w' => e = .returned (.int .i64 1) ∧ _) at CT
         clear HB HOR HS hn1
         obtain ⟨x0, x1, x2⟩ := opBlock wr (.bool true) (.int .i64 yk) (.int .i64 yv) 45
         go_wp2_with fail
         refine (CT.out).mono ?_
         rintro e w6 ⟨rfl, hb6⟩
         have hb7 := below_then hb5 hb6
         have z0 := (hb6.cell (p := ⟨wr.heap.size, 0, none⟩) (block_lt x0)).trans x0
         have z1 := (hb6.cell (p := ⟨wr.heap.size, 1, none⟩) (block_lt x1)).trans x1
         have z2 := (hb6.cell (p := ⟨wr.heap.size, 2, none⟩) (block_lt x2)).trans x2
         clear x0 x1 x2
         go_wp2_with fail
         go_roundw
         case rel => exact ⟨m + 1, by omega, by go_num, H.out, hb7⟩
         case measure => simp [intOf]; omega
       | false =>
        simp only [Bool.false_eq_true, if_false] at HOR
        cases hz : yv == 0
        ·have hz2 : (yv != 0) = true := by simp [bne, hz]
         have CW := hid (HWR.out yk yv _ hb5)
         generalize wrI yk yv h = n at *
         by_cases hneg : n < 0
         ·have H := hid (HB.out (by rw [HOR.out, hz]; simp [hneg]))
          clear HLK HNO HOO HB HOR HS
          go_wp2_with fail
          refine (CW.out).mono ?_
          rintro e w6 ⟨rfl, hb6⟩
          have hb7 := below_then hb5 hb6
          go_wp2_with fail
          go_ret
          exact ⟨ret_b H.out, hb7⟩
         ·have H : Hid ((l.take (m + 1)).all (opR h) = true) := hid (by rw [HS.out, HA.out, HOR.out, hz]; simp [hneg])
          clear HB HOR HS
          go_wp2_with fail
          refine (CW.out).mono ?_
          rintro e w6 ⟨rfl, hb6⟩
          have hb7 := below_then hb5 hb6
          go_wp2_with fail
          go_roundw
          case rel => exact ⟨m + 1, by omega, by go_num, H.out, hb7⟩
          case measure => simp [intOf]; omega
        ·have hz2 : (yv != 0) = false := by simp [bne, hz]
         have H : Hid ((l.take (m + 1)).all (opR h) = true) := hid (by rw [HS.out, HA.out, HOR.out, hz]; rfl)
         clear HB HOR HS
         go_wp2_with fail
         go_roundw
         case rel => exact ⟨m + 1, by omega, by go_num, H.out, hb5⟩
         case measure => simp [intOf]; omega
      ·have hm2 : m = l.length := by omega
       subst hm2
       have H := hid (HLK.out (by rw [HRO.out]; have := HA.out; rwa [List.take_length] at this))
       go_wp2_with fail
       go_roundw
       case rel => exact ⟨j + 1, by omega, by go_num, H.out, hb4⟩
       case measure => simp [intOf]; omega
  ·have hkl : k = h.length := by omega
   subst hkl
   have H : Hid (true = mayRef h) := hid (mayRef_yes (fun k hk => HN.out k hk hk)).symm
   clear HNO HTM HWR
   go_wp2_with fail
   go_ret
   exact ⟨ret_b H.out, hb⟩
end

section
open Go.RowKit
def wrs (h : List TxnV) : List OpV := h.flatMap fun t => t.l.filter (·.wr)
theorem wvH_map (h : List TxnV) : wvH h = (wrs h).map (·.val) := by unfold wvH wrs wv; rw [List.map_flatMap]
theorem wrs_mem {h : List TxnV} {o : OpV} : o ∈ wrs h ↔ ∃ t ∈ h, o ∈ t.l ∧ o.wr = true := by unfold wrs; simp
theorem inj_val : ∀ {L : List OpV}, (L.map (·.val)).Nodup → ∀ {o p : OpV}, o ∈ L → p ∈ L → o.val = p.val → o = p
 | a :: L, hd, o, p, ho, hp, e => by
  rw [List.map_cons, List.nodup_cons] at hd
  rcases List.mem_cons.1 ho with rfl | ho
  ·rcases List.mem_cons.1 hp with rfl | hp
   ·rfl
   ·exact absurd (List.mem_map.2 ⟨p, hp, e.symm⟩) hd.1
  ·rcases List.mem_cons.1 hp with hpe | hp
   ·exact absurd (List.mem_map.2 ⟨o, ho, by rw [e, hpe]⟩) hd.1
   ·exact inj_val hd.2 ho hp e
theorem okW_inj {h : List TxnV} (hw : okW h = true) {o p : OpV} (ho : o ∈ wrs h) (hp : p ∈ wrs h) (e : o.val = p.val) : o = p := by
 unfold okW at hw
 rw [decide_eq_true_eq, wvH_map] at hw
 exact inj_val hw ho hp e
theorem okW_count {h : List TxnV} : okW h = true ↔ ∀ t ∈ h, ∀ o ∈ t.l, o.wr = true → tmH o.val h = 1 := by
 unfold okW tmH
 rw [decide_eq_true_eq]
 constructor
 ·intro hd t ht o ho hw
  rw [List.Nodup.count hd, if_pos]
  rw [wvH_map]
  exact List.mem_map.2 ⟨o, wrs_mem.2 ⟨t, ht, ho, hw⟩, rfl⟩
 ·intro hc
  rw [List.nodup_iff_count]
  intro x
  by_cases hx : x ∈ wvH h
  ·have hx2 := hx
   rw [wvH_map] at hx2
   obtain ⟨o, ho, rfl⟩ := List.mem_map.1 hx2
   obtain ⟨t, ht, ho2, hw⟩ := wrs_mem.1 ho
   exact Nat.le_of_eq (hc t ht o ho2 hw)
  ·rw [List.count_eq_zero_of_not_mem hx]; omega
def Real (h : List TxnV) (F : Int → Option WV) : Prop := ∀ x u, F x = some u → ∃ o ∈ wrs h, o.val = x ∧ o.key = u.key
theorem real_put {h : List TxnV} {F : Int → Option WV} (hF : Real h F) {o : OpV} (ho : o ∈ wrs h) (i : Int) (b : Bool) : Real h (putF F o.val ⟨i, o.key, b⟩) := by
 intro x u hx
 unfold putF at hx
 split at hx
 ·rename_i e
  cases hx
  exact ⟨o, ho, e.symm, rfl⟩
 ·exact hF x u hx
theorem real_add {h : List TxnV} (i : Int) : ∀ (l : List OpV) (F : Int → Option WV), Real h F → (∀ o ∈ l, o.wr = true → o ∈ wrs h) → Real h (addF i F l)
 | [], F, hF, _ => hF
 | a :: l, F, hF, hl => by
  show Real h (addF i (addOne i F a) l)
  refine real_add i l _ ?_ (fun o ho => hl o (List.mem_cons_of_mem _ ho))
  unfold addOne
  split
  ·rename_i hw
   exact real_put hF (hl a List.mem_cons_self hw) i false
  ·exact hF
theorem real_fin {h : List TxnV} (i : Int) : ∀ (l : List OpV) (F : Int → Option WV), Real h F → (∀ o ∈ l, o ∈ wrs h) → Real h (finF i F l)
 | [], F, hF, _ => hF
 | a :: l, F, hF, hl => by
  show Real h (finF i (putF F a.val ⟨i, a.key, true⟩) l)
  exact real_fin i l _ (real_put hF (hl a List.mem_cons_self) i true) (fun o ho => hl o (List.mem_cons_of_mem _ ho))
theorem refWrites_mem {l : List OpV} {o : OpV} (h : o ∈ refWrites l) : o ∈ l ∧ o.wr = true := by
 unfold refWrites at h
 obtain ⟨k, _, hk⟩ := upTo_mem.1 h
 have := lastW_key (l := l) (x := k) hk
 exact ⟨this.2.2, this.2.1⟩
theorem real_wr (h : List TxnV) : ∀ k, k ≤ h.length → Real h (wrTo h k)
 | 0, _ => fun x u hx => by simp [wrTo] at hx
 | k + 1, hk => by
  have hlt : k < h.length := by omega
  rw [wrTo_succ, opsAt_eq hlt]
  have hm : ∀ o ∈ h[k].l, o.wr = true → o ∈ wrs h := fun o ho hw => wrs_mem.2 ⟨_, List.getElem_mem hlt, ho, hw⟩
  exact real_fin _ _ _ (real_add _ _ _ (real_wr h k (by omega)) hm) (fun o ho => hm o (refWrites_mem ho).1 (refWrites_mem ho).2)
theorem dom_add (i : Int) : ∀ (l : List OpV) (F : Int → Option WV) (x : Int), (addF i F l x).isSome = ((F x).isSome || decide (x ∈ wv l))
 | [], F, x => by simp [addF, wv]
 | a :: l, F, x => by
  show (addF i (addOne i F a) l x).isSome = _
  rw [dom_add i l]
  have hc : wv (a :: l) = (if a.wr then [a.val] else []) ++ wv l := by
   unfold wv
   cases hw : a.wr <;> simp [hw]
  rw [hc]
  unfold addOne putF
  cases hw : a.wr
  ·simp
  ·by_cases e : x = a.val <;> simp [e]
theorem dom_fin (i : Int) : ∀ (l : List OpV) (F : Int → Option WV) (x : Int), (finF i F l x).isSome = ((F x).isSome || decide (x ∈ l.map (·.val)))
 | [], F, x => by simp [finF]
 | a :: l, F, x => by
  show (finF i (putF F a.val ⟨i, a.key, true⟩) l x).isSome = _
  rw [dom_fin i l]
  unfold putF
  by_cases e : x = a.val <;> simp [e]
theorem dom_wr (h : List TxnV) : ∀ k, k ≤ h.length → ∀ x, (wrTo h k x).isSome = decide (x ∈ wvH (h.take k))
 | 0, _ => fun x => by simp [wrTo, wvH]
 | k + 1, hk => fun x => by
  have hlt : k < h.length := by omega
  rw [wrTo_succ, opsAt_eq hlt, dom_fin, dom_add, dom_wr h k (by omega), wvH_succ h k hlt]
  have : x ∈ (refWrites h[k].l).map (·.val) → x ∈ wv h[k].l := fun hx => by
   obtain ⟨o, ho, rfl⟩ := List.mem_map.1 hx
   exact wv_mem.2 ⟨o, (refWrites_mem ho).1, (refWrites_mem ho).2, rfl⟩
  rw [Bool.eq_iff_iff]
  simp only [Bool.or_eq_true, decide_eq_true_eq, List.mem_append]
  constructor
  ·rintro ((h1 | h1) | h1)
   ·exact .inl h1
   ·exact .inr h1
   ·exact .inr (this h1)
  ·rintro (h1 | h1)
   ·exact .inl (.inl h1)
   ·exact .inl (.inr h1)
theorem rd_iff {h : List TxnV} (hw : okW h = true) (o : OpV) : rdOk (wrTo h h.length) o = (o.wr || o.val == 0 || !decide (wrI o.key o.val h < 0)) := by
 unfold rdOk
 cases hv : (o.wr || o.val == 0)
 ·rw [Bool.false_or, Bool.false_or]
  have hd := dom_wr h h.length (Nat.le_refl _) o.val
  rw [List.take_length] at hd
  cases hF : wrTo h h.length o.val with
  | none =>
   rw [hF] at hd
   simp only
   symm
   rw [Bool.not_eq_false', decide_eq_true_eq, wrI_nonneg]
   intro t ht p hp
   unfold isWr
   cases hpw : p.wr
   ·rfl
   ·have hne : ¬ p.val = o.val := fun e => by
     have : o.val ∈ wvH h := by rw [wvH_map]; exact List.mem_map.2 ⟨p, wrs_mem.2 ⟨t, ht, hp, hpw⟩, e⟩
     simp [this] at hd
    simp [hne]
  | some u =>
   obtain ⟨p, hp, e1, e2⟩ := real_wr h h.length (Nat.le_refl _) _ _ hF
   simp only
   rw [Bool.eq_iff_iff, beq_iff_eq, Bool.not_eq_true', decide_eq_false_iff_not, wrI_nonneg]
   constructor
   ·intro e hn
    obtain ⟨t, ht, hp2, hpw⟩ := wrs_mem.1 hp
    have := hn t ht p hp2
    unfold isWr at this
    simp [hpw, e1, e2, e] at this
   ·intro hn
    have : ∃ q ∈ wrs h, q.key = o.key ∧ q.val = o.val := Classical.byContradiction fun hno => hn fun t ht q hq => by
     unfold isWr
     cases hqw : q.wr
     ·rfl
     ·cases hqk : q.key == o.key
      ·rfl
      ·cases hqv : q.val == o.val
       ·rfl
       ·exact absurd ⟨q, wrs_mem.2 ⟨t, ht, hq, hqw⟩, by simpa using hqk, by simpa using hqv⟩ hno
    obtain ⟨q, hq, e3, e4⟩ := this
    have := okW_inj hw hp hq (by rw [e1, e4])
    subst this
    rw [← e2, e3]
 ·rfl
def Apart (a t : TxnV) : Prop := a.b ≠ t.b ∧ a.b ≠ t.c ∧ a.c ≠ t.b ∧ a.c ≠ t.c
theorem apartB_iff (a t : TxnV) : apartB a t = true ↔ Apart a t ∧ ¬ (a.s = t.s ∧ t.b < a.c) := by
 unfold apartB Apart
 simp only [Bool.and_eq_true, bne_iff_ne, Bool.not_eq_true', Bool.and_eq_false_iff, beq_eq_false_iff_ne, decide_eq_false_iff_not, Classical.not_and_iff_not_or_not, ne_eq]
theorem stL_mem {h : List TxnV} {x : Int} : x ∈ stL h ↔ ∃ t ∈ h, x = t.b ∨ x = t.c := by unfold stL; simp
theorem st_take {h : List TxnV} {k : Nat} (hd : (stL (h.take k)).Nodup) : ∀ i j, ∀ hj : j < k, ∀ hk : k ≤ h.length, ∀ hi : i < j, Apart (h[i]'(by omega)) (h[j]'(by omega)) := by
 intro i j hj hk hi
 have e : stL (h.take k) = stL (h.take (j + 1)) ++ stL ((h.take k).drop (j + 1)) := by
  unfold stL
  rw [← List.flatMap_append]
  congr 1
  rw [show h.take (j + 1) = (h.take k).take (j + 1) from by rw [List.take_take]; congr 1; omega]
  exact (List.take_append_drop _ _).symm
 rw [e] at hd
 have h1 := (List.nodup_append.1 hd).1
 rw [stL_succ h j (by omega)] at h1
 have h2 := (List.nodup_append.1 h1).2.2
 have mem : h[i]'(by omega) ∈ h.take j := by rw [List.mem_take_iff_getElem]; exact ⟨i, by omega, rfl⟩
 have mb : (h[i]'(by omega)).b ∈ stL (h.take j) := stL_mem.2 ⟨_, mem, .inl rfl⟩
 have mc : (h[i]'(by omega)).c ∈ stL (h.take j) := stL_mem.2 ⟨_, mem, .inr rfl⟩
 exact ⟨h2 _ mb _ (by simp), h2 _ mb _ (by simp), h2 _ mc _ (by simp), h2 _ mc _ (by simp)⟩
theorem st_nodup {h : List TxnV} (hbc : ∀ t ∈ h, t.b < t.c) (ha : ∀ i j, ∀ hj : j < h.length, ∀ hi : i < j, Apart (h[i]'(by omega)) h[j]) : ∀ k, k ≤ h.length → (stL (h.take k)).Nodup
 | 0, _ => by simp [stL]
 | k + 1, hk => by
  have hlt : k < h.length := by omega
  rw [stL_succ h k hlt, List.nodup_append]
  refine ⟨st_nodup hbc ha k (by omega), ?_, ?_⟩
  ·have := hbc _ (List.getElem_mem hlt)
   simp; omega
  ·intro x hx y hy
   obtain ⟨t, ht, hxt⟩ := stL_mem.1 hx
   rw [List.mem_take_iff_getElem] at ht
   obtain ⟨i, hi, rfl⟩ := ht
   have hA := ha i k hlt (by omega)
   unfold Apart at hA
   simp at hy
   rcases hxt with rfl | rfl <;> rcases hy with rfl | rfl
   ·exact hA.1
   ·exact hA.2.1
   ·exact hA.2.2.1
   ·exact hA.2.2.2
end

section
open Go.RowKit
theorem endF_find (h : List TxnV) (s : Int) : ∀ k, k ≤ h.length → match endF (h.take k) s with
  | none => ∀ j, ∀ hj : j < k, ∀ hk : k ≤ h.length, (h[j]'(by omega)).s ≠ s
  | some e => ∃ m, ∃ hm : m < k, ∃ hk : k ≤ h.length, (h[m]'(by omega)).s = s ∧ (h[m]'(by omega)).c = e ∧ ∀ j, ∀ hj : j < k, m < j → (h[j]'(by omega)).s ≠ s
 | 0, _ => by simp [endF]
 | k + 1, hk => by
  have hlt : k < h.length := by omega
  have ih := endF_find h s k (by omega)
  rw [endF_succ h k hlt]
  unfold putF
  by_cases e : s = h[k].s
  ·rw [if_pos e]
   exact ⟨k, by omega, hk, e.symm, rfl, fun j hj hmj => by omega⟩
  ·rw [if_neg e]
   cases hF : endF (h.take k) s with
   | none =>
    rw [hF] at ih
    intro j hj hk2
    rcases Nat.lt_or_eq_of_le (Nat.le_of_lt_succ hj) with h1 | rfl
    ·exact ih j h1 (by omega)
    ·exact fun e2 => e e2.symm
   | some c =>
    rw [hF] at ih
    obtain ⟨m, hm, hk2, h1, h2, h3⟩ := ih
    refine ⟨m, by omega, hk, h1, h2, fun j hj hmj => ?_⟩
    rcases Nat.lt_or_eq_of_le (Nat.le_of_lt_succ hj) with h4 | rfl
    ·exact h3 j h4 hmj
    ·exact fun e2 => e e2.symm
theorem ses_all {h : List TxnV} (hs : sesB h = true) (hbc : ∀ t ∈ h, t.b < t.c) : ∀ j, ∀ hj : j < h.length, ∀ i, ∀ hi : i < j, (h[i]'(by omega)).s = h[j].s → (h[i]'(by omega)).c < h[j].b := by
 intro j
 induction j using Nat.strongRecOn with
 | ind j ih =>
  intro hj i hi e
  have h1 := List.all_eq_true.1 hs j (List.mem_range.2 hj)
  rw [sesOk_at hj] at h1
  have h2 := endF_find h h[j].s j (by omega)
  cases hF : endF (h.take j) h[j].s with
  | none =>
   rw [hF] at h2
   exact absurd e (h2 i hi (by omega))
  | some c =>
   rw [hF] at h1 h2
   obtain ⟨m, hm, hk2, e1, e2, e3⟩ := h2
   simp only [decide_eq_true_eq] at h1
   rcases Nat.lt_trichotomy i m with h4 | rfl | h4
   ·have h5 := ih m hm (by omega) i h4 (by rw [e1]; exact e)
    have h6 := hbc _ (List.getElem_mem (show m < h.length by omega))
    omega
   ·omega
   ·exact absurd e (e3 i hi h4)
theorem ses_mk {h : List TxnV} (ha : ∀ j, ∀ hj : j < h.length, ∀ i, ∀ hi : i < j, (h[i]'(by omega)).s = h[j].s → (h[i]'(by omega)).c < h[j].b) : sesB h = true := by
 refine sesB_all fun j hj => ?_
 rw [sesOk_at hj]
 have h2 := endF_find h h[j].s j (by omega)
 cases hF : endF (h.take j) h[j].s with
 | none => rfl
 | some c =>
  rw [hF] at h2
  obtain ⟨m, hm, hk2, e1, e2, e3⟩ := h2
  simp only [decide_eq_true_eq]
  rw [← e2]; exact ha j hj m hm e1
theorem mayT_bc {t : TxnV} (h : mayT t.s t.b t.c t.l = true) : t.b < t.c := by
 unfold mayT at h
 simp only [Bool.and_eq_true, decide_eq_true_eq] at h
 exact h.1.2.2.2.1
theorem right_ref (h : List TxnV) : rightB h = mayRef h := by
 rw [Bool.eq_iff_iff]
 constructor
 ·intro hr
  unfold rightB at hr
  simp only [Bool.and_eq_true] at hr
  obtain ⟨hp, hv, hst, hse⟩ := hr
  unfold valuesB at hv
  simp only [Bool.and_eq_true] at hv
  obtain ⟨hw, hro⟩ := hv
  have hP : ∀ t ∈ h, mayT t.s t.b t.c t.l = true := List.all_eq_true.1 hp
  have hbc : ∀ t ∈ h, t.b < t.c := fun t ht => mayT_bc (hP t ht)
  refine mayRef_yes fun k hk => ?_
  unfold rowR
  rw [hP _ (List.getElem_mem hk), Bool.true_and, Bool.and_eq_true]
  constructor
  ·rw [List.all_eq_true]
   intro a ha
   rw [List.mem_take_iff_getElem] at ha
   obtain ⟨i, hi, rfl⟩ := ha
   rw [apartB_iff]
   unfold stampsB at hst
   rw [decide_eq_true_eq, ← List.take_length (l := h)] at hst
   refine ⟨st_take hst i k hk (Nat.le_refl _) (by omega), fun hh => ?_⟩
   have := ses_all hse hbc k hk i (by omega) hh.1
   omega
  ·rw [List.all_eq_true]
   intro o ho
   unfold opR
   cases how : o.wr
   ·have h1 := List.all_eq_true.1 (List.all_eq_true.1 hro _ (List.getElem_mem hk)) o ho
    rw [rd_iff hw o, how] at h1
    simpa using h1
   ·simp only [if_true, beq_iff_eq]
    exact okW_count.1 hw _ (List.getElem_mem hk) o ho how
 ·intro hm
  have hrow : ∀ k, ∀ hk : k < h.length, rowR h k h[k] = true := fun k hk => by
   have := List.all_eq_true.1 hm k (List.mem_range.2 hk)
   rwa [List.getElem?_eq_getElem hk] at this
  have hP : ∀ t ∈ h, mayT t.s t.b t.c t.l = true := fun t ht => by
   obtain ⟨k, hk, rfl⟩ := List.getElem_of_mem ht
   have := hrow k hk
   unfold rowR at this
   simp only [Bool.and_eq_true] at this
   exact this.1
  have hbc : ∀ t ∈ h, t.b < t.c := fun t ht => mayT_bc (hP t ht)
  have hA : ∀ i j, ∀ hj : j < h.length, ∀ hi : i < j, Apart (h[i]'(by omega)) h[j] ∧ ¬ ((h[i]'(by omega)).s = h[j].s ∧ h[j].b < (h[i]'(by omega)).c) := fun i j hj hi => by
   have := hrow j hj
   unfold rowR at this
   simp only [Bool.and_eq_true] at this
   exact (apartB_iff _ _).1 (List.all_eq_true.1 this.2.1 _ (by rw [List.mem_take_iff_getElem]; exact ⟨i, by omega, rfl⟩))
  have hO : ∀ t ∈ h, ∀ o ∈ t.l, opR h o = true := fun t ht => by
   obtain ⟨k, hk, rfl⟩ := List.getElem_of_mem ht
   have := hrow k hk
   unfold rowR at this
   simp only [Bool.and_eq_true] at this
   exact List.all_eq_true.1 this.2.2
  have hw : okW h = true := okW_count.2 fun t ht o ho how => by
   have := hO t ht o ho
   unfold opR at this
   rw [how] at this
   simpa using this
  unfold rightB
  simp only [Bool.and_eq_true]
  refine ⟨List.all_eq_true.2 hP, ?_, ?_, ?_⟩
  ·unfold valuesB
   rw [hw, Bool.true_and, List.all_eq_true]
   intro t ht
   unfold rowOk
   rw [List.all_eq_true]
   intro o ho
   rw [rd_iff hw o]
   have := hO t ht o ho
   unfold opR at this
   cases how : o.wr
   ·rw [how] at this
    simpa using this
   ·rfl
  ·unfold stampsB
   rw [decide_eq_true_eq]
   have := st_nodup hbc (fun i j hj hi => (hA i j hj hi).1) h.length (Nat.le_refl _)
   rwa [List.take_length] at this
  ·refine ses_mk fun j hj i hi e => ?_
   obtain ⟨h1, h2⟩ := hA i j hj hi
   have h3 : ¬ h[j].b < (h[i]'(by omega)).c := fun hh => h2 ⟨e, hh⟩
   have h4 := h1.2.2.1
   omega
def checkR (h : List TxnV) : Int := if 64 < h.length ∨ 1024 < opsN h then 3 else if mayRef h then 0 else 2
theorem check_ref (h : List TxnV) : checkI h = checkR h := by unfold checkI checkR; rw [right_ref]
end

section
open Go.RowKit
theorem rcheck_any (va : Value) (h : List TxnV) (w : World) (hT : Txns w va h) (hsh : Short h) :
  Calls Try.prog 9 #[va] w fun e w' => e = .returned (.int .i64 (checkR h)) ∧ Below w.heap.size w w' := by
 obtain ⟨ao, cap, rfl, hal⟩ := hT.form
 by_cases hbig : 64 < h.length
 ·have hbig' : (64 : Int) < (h.length : Int) := by omega
  have H : Hid ((3 : Int) = checkR h) := hid (by unfold checkR; rw [if_pos (.inl hbig)])
  go_enter Try.func9, Try.ntmps9
  go_wp2_with fail
  go_ret
  exact ⟨ret_int H.out, Below.refl _ _⟩
 have hbf : decide ((64 : Int) < (h.length : Int)) = false := by simp; omega
 have hle := opsN_short h hsh
 have CO := hid (count_any _ h w hT (by omega))
 have HT := hid (fun wx (hx : Below w.heap.size w wx) => hT.below hx)
 clear hT hsh
 go_enter Try.func9, Try.ntmps9
 go_wp2_with fail
 refine (CO.out).mono ?_
 rintro e w1 ⟨rfl, hb1⟩
 clear CO
 by_cases hov : 1024 < opsN h
 ·have hov' : (1024 : Int) < (opsN h : Int) := by omega
  have H : Hid ((3 : Int) = checkR h) := hid (by unfold checkR; rw [if_pos (.inr hov)])
  go_wp2_with fail
  go_ret
  exact ⟨ret_int H.out, hb1⟩
 have hov' : decide ((1024 : Int) < (opsN h : Int)) = false := by simp; omega
 have HCK : Hid (checkR h = if mayRef h then 0 else 2) := hid (by unfold checkR; rw [if_neg (by omega)])
 have CM := hid (rmay_any _ h w1 (HT.out _ hb1) (by omega))
 generalize mayRef h = q at *
 go_wp2_with fail
 refine (CM.out).mono ?_
 rintro e w2 ⟨rfl, hb2⟩
 have hb3 := below_then hb1 hb2
 clear CM
 cases q
 ·have H : Hid ((2 : Int) = checkR h) := hid (by rw [HCK.out]; rfl)
  go_wp2_with fail
  go_ret
  exact ⟨ret_int H.out, hb3⟩
 ·have H : Hid ((0 : Int) = checkR h) := hid (by rw [HCK.out]; rfl)
  go_wp2_with fail
  go_ret
  exact ⟨ret_int H.out, hb3⟩
end

section
open Go.RowKit
def vOf (l : List OpV) (k : Int) : Int := (((refWrites l).find? fun o => o.key == k).map (·.val)).getD 0
theorem wv_cons (a : OpV) (l : List OpV) : wv (a :: l) = (if a.wr then [a.val] else []) ++ wv l := by
 unfold wv; cases h : a.wr <;> simp [h]
theorem addF_cons (i : Int) (F : Int → Option WV) (a : OpV) (l : List OpV) : addF i F (a :: l) = addF i (addOne i F a) l := rfl
theorem finF_cons (i : Int) (F : Int → Option WV) (a : OpV) (l : List OpV) : finF i F (a :: l) = finF i (putF F a.val ⟨i, a.key, true⟩) l := rfl
theorem addF_out (i : Int) {x : Int} : ∀ (l : List OpV) (F : Int → Option WV), ¬ x ∈ wv l → addF i F l x = F x
 | [], _, _ => rfl
 | a :: l, F, h => by
  rw [wv_cons] at h
  rw [addF_cons, addF_out i l _ (fun hh => h (List.mem_append_right _ hh))]
  unfold addOne
  cases hw : a.wr
  ·rfl
  ·simp only [if_true]
   exact putF_other _ _ (fun e => h (by rw [hw, e]; simp))
theorem addF_in (i : Int) {o : OpV} (ho : o.wr = true) : ∀ (l : List OpV) (F : Int → Option WV), (wv l).Nodup → o ∈ l → addF i F l o.val = some ⟨i, o.key, false⟩
 | a :: l, F, hn, hin => by
  rw [wv_cons] at hn
  rw [addF_cons]
  rcases List.mem_cons.1 hin with rfl | h
  ·rw [ho] at hn
   simp only [if_true, List.singleton_append, List.nodup_cons] at hn
   rw [addF_out i l _ hn.1]
   unfold addOne
   rw [ho]
   simp only [if_true]
   exact putF_same _ _ _
  ·exact addF_in i ho l _ (List.nodup_append.1 hn).2.1 h
theorem finF_out (i : Int) {x : Int} : ∀ (R : List OpV) (F : Int → Option WV), (∀ o ∈ R, o.val ≠ x) → finF i F R x = F x
 | [], _, _ => rfl
 | a :: R, F, h => by
  rw [finF_cons, finF_out i R _ (fun o ho => h o (List.mem_cons_of_mem _ ho))]
  exact putF_other _ _ (fun e => h a List.mem_cons_self e.symm)
theorem finF_in (i : Int) {x k : Int} : ∀ (R : List OpV) (F : Int → Option WV), (∀ o ∈ R, o.val = x → o.key = k) → (∃ o ∈ R, o.val = x) → finF i F R x = some ⟨i, k, true⟩
 | a :: R, F, h, hex => by
  rw [finF_cons]
  by_cases hr : ∃ o ∈ R, o.val = x
  ·exact finF_in i R _ (fun o ho => h o (List.mem_cons_of_mem _ ho)) hr
  ·have hn : ∀ o ∈ R, o.val ≠ x := fun o ho e => hr ⟨o, ho, e⟩
   obtain ⟨o, ho, e⟩ := hex
   rcases List.mem_cons.1 ho with rfl | h1
   ·rw [finF_out i R _ hn, e, putF_same, h _ List.mem_cons_self e]
   ·exact (hn o h1 e).elim
theorem wv_inj {l : List OpV} (hn : (wv l).Nodup) {o p : OpV} (ho : o ∈ l) (hp : p ∈ l) (wo : o.wr = true) (wp : p.wr = true) (e : o.val = p.val) : o.key = p.key := by
 have h1 := addF_in 0 wo l (fun _ => none) hn ho
 have h2 := addF_in 0 wp l (fun _ => none) hn hp
 rw [e, h2] at h1
 have := Option.some.inj h1
 exact (congrArg WV.key this).symm
theorem lastW_some (l : List OpV) {o : OpV} (wo : o.wr = true) : ∀ k, k ≤ l.length → o ∈ l.take k → (lastW (l.take k) o.key).isSome = true
 | 0, _, h => by simp at h
 | k + 1, hk, h => by
  have hlt : k < l.length := by omega
  rw [take_snoc l k hlt] at h ⊢
  rw [lastW_snoc]
  cases hw : l[k].wr with
  | false =>
   simp only [Bool.false_eq_true, if_false]
   rcases List.mem_append.1 h with h1 | h1
   ·exact lastW_some l wo k (by omega) h1
   ·simp at h1; rw [h1, hw] at wo; cases wo
  | true =>
   simp only [if_true]
   by_cases e : o.key = l[k].key
   ·rw [e, putF_same]; rfl
   ·rw [putF_other _ _ e]
    rcases List.mem_append.1 h with h1 | h1
    ·exact lastW_some l wo k (by omega) h1
    ·simp at h1; rw [h1] at e; exact (e rfl).elim
theorem turn_at (i : Int) (F : Int → Option WV) {l : List OpV} (hk : keysIn l) (hn : (wv l).Nodup) {o : OpV} (ho : o ∈ l) (wo : o.wr = true) :
  finF i (addF i F l) (refWrites l) o.val = some ⟨i, o.key, vOf l o.key == o.val⟩ := by
 have hR := refWrites_rise hk
 have hmem : ∀ p ∈ refWrites l, p ∈ l ∧ p.wr = true := fun p hp => refWrites_mem hp
 have huq : ∀ p ∈ refWrites l, ∀ q ∈ refWrites l, p.key = q.key → p = q := fun p hp q hq e => by
  have h1 := ((hR.2 p).1 hp).1
  have h2 := ((hR.2 q).1 hq).1
  rw [e, h2] at h1
  exact (Option.some.inj h1).symm
 have hex : ∃ p ∈ refWrites l, p.key = o.key := by
  have h1 := lastW_some l wo l.length (Nat.le_refl _) (by rw [List.take_length]; exact ho)
  rw [List.take_length] at h1
  obtain ⟨p, hp⟩ := Option.isSome_iff_exists.1 h1
  have h2 := lastW_key hp
  exact ⟨p, (hR.2 p).2 ⟨by rw [h2.1]; exact hp, h2.2.1⟩, h2.1⟩
 obtain ⟨p, hp, hpk⟩ := hex
 have hv : vOf l o.key = p.val := by
  unfold vOf
  cases hf : (refWrites l).find? (fun q => q.key == o.key) with
  | none => have := List.find?_eq_none.1 hf p hp; simp [hpk] at this
  | some q =>
   have h1 := List.find?_some hf
   have h2 := List.mem_of_find?_eq_some hf
   have : q = p := huq q h2 p hp (by simpa [hpk] using h1)
   rw [this]; rfl
 by_cases he : p.val = o.val
 ·rw [finF_in (k := o.key) i _ _ (fun q hq e => wv_inj hn (hmem q hq).1 ho (hmem q hq).2 wo e) ⟨p, hp, he⟩, hv, he]
  simp
 ·rw [finF_out i _ _ (fun q hq e => he ?_), addF_in i wo l F hn ho, hv]
  ·simp [he]
  ·have := wv_inj hn (hmem q hq).1 ho (hmem q hq).2 wo e
   rw [← huq q hq p hp (by rw [this, hpk])]; exact e
theorem wrTo_at {h : List TxnV} (hk : ∀ t ∈ h, keysIn t.l) : ∀ n, n ≤ h.length → (wvH (h.take n)).Nodup → ∀ i, ∀ hi : i < h.length, i < n → ∀ o ∈ h[i].l, o.wr = true → wrTo h n o.val = some ⟨i, o.key, vOf h[i].l o.key == o.val⟩
 | 0, _, _, i, _, hin, _, _, _ => by omega
 | n + 1, hn, hd, i, hi, hin, o, ho, wo => by
  have hlt : n < h.length := by omega
  rw [wvH_succ h n hlt] at hd
  have hd3 := List.nodup_append.1 hd
  rw [wrTo_succ, opsAt_eq hlt]
  by_cases e : i = n
  ·subst e
   exact turn_at _ _ (hk _ (List.getElem_mem _)) hd3.2.1 ho wo
  ·have hin2 : o.val ∈ wvH (h.take n) := by
    unfold wvH
    rw [List.mem_flatMap]
    refine ⟨h[i], ?_, wv_mem.2 ⟨o, ho, wo, rfl⟩⟩
    rw [List.mem_take_iff_getElem]
    exact ⟨i, by omega, rfl⟩
   have hout : ¬ o.val ∈ wv h[n].l := fun hh => hd3.2.2 _ hin2 _ hh rfl
   have hR := refWrites_rise (hk _ (List.getElem_mem hlt))
   rw [finF_out _ _ _ (fun q hq e2 => hout (by rw [← e2]; exact wv_mem.2 ⟨q, (refWrites_mem hq).1, (refWrites_mem hq).2, rfl⟩)), addF_out _ _ _ hout]
   exact wrTo_at hk n (by omega) hd3.1 i hi (by omega) o ho wo
end

section
open Go.RowKit
section
variable {W : World} {S B b : Nat} {h : List TxnV} {C : Nat} {r : List Nat} {vb vr : Value} {aF sF : Nat → Nat} {w : World}
theorem nodup_len : ∀ (n : Nat) (l : List Nat), l.Nodup → (∀ k ∈ l, k < n) → l.length ≤ n
 | 0, [], _, _ => Nat.le_refl _
 | 0, k :: l, _, h => absurd (h k (List.mem_cons_self ..)) (by omega)
 | n + 1, l, hn, h => by
  by_cases hm : n ∈ l
  ·have h1 := nodup_len n (l.erase n) (hn.erase n) (fun k hk => by
    have := (hn.mem_erase_iff).1 hk
    have := h k this.2
    omega)
   have h2 := List.length_erase_of_mem hm
   have h3 := List.length_pos_of_mem hm
   omega
  ·have := nodup_len n l hn (fun k hk => by
    have := h k hk
    have : k ≠ n := fun e => hm (by rw [← e]; exact hk)
    omega)
   omega
end
end

section
open Go.RowKit
def kV (p : Nat) (s : ByteArray) : Value := .agg #[.int .u64 (p : Int), .string s]
section
variable {w : World} {b n : Nat} {f : Nat → ByteArray → Bool}
end
section
variable {ops : Array Oper} {rest : List Oper} {o : Oper} {a : Act} {Q : Exit → Act → World → Prop} (w : World)
end
end

section
open Go.RowKit
instance memDec (q : Nat × ByteArray) (M : List (Nat × ByteArray)) : Decidable (q ∈ M) := @List.instDecidableMemOfLawfulBEq _ instBEqOfDecidableEq inferInstance q M
section
variable {h : List TxnV} {C n : Nat}
abbrev Srch := Option (List Nat) × List (Nat × ByteArray) × Nat
section
variable {F : List Nat → List (Nat × ByteArray) → Srch} {r : List Nat} {st : Srch} {j : Nat}
end
end
end

section
open Go.RowKit Go.Shelf
attribute [local go_sem] Oper.semAt_some
theorem perm_range {n : Nat} {row : List Nat} (hnd : row.Nodup) (hlt : ∀ i ∈ row, i < n) (hl : row.length = n) : row.Perm (List.range n) := by
 have hmem : ∀ j, j < n → j ∈ row := fun j hj => by
  by_cases h : j ∈ row
  ·exact h
  ·have := nodup_len n (j :: row) (List.nodup_cons.2 ⟨h, hnd⟩) (fun k hk => by
    rcases List.mem_cons.1 hk with rfl | hk
    ·exact hj
    ·exact hlt k hk)
   simp at this; omega
 rw [List.perm_iff_count]
 intro j
 rw [hnd.count, List.nodup_range.count]
 simp only [List.mem_range]
 by_cases h : j < n
 ·rw [if_pos (hmem j h), if_pos h]
 ·rw [if_neg (fun q => h (hlt j q)), if_neg h]
end

section
open Go.RowKit
structure IsoT (n : Nat) (π ρ : Nat → Nat) : Prop where
 lt : ∀ j, j < n → π j < n
 tl : ∀ j, j < n → ρ j < n
 pr : ∀ j, j < n → π (ρ j) = j
 rp : ∀ j, j < n → ρ (π j) = j
section
variable {n : Nat} {π ρ : Nat → Nat}
theorem IsoT.inj (q : IsoT n π ρ) {i j : Nat} (hi : i < n) (hj : j < n) (e : π i = π j) : i = j := by rw [← q.rp i hi, ← q.rp j hj, e]
end
section
variable {h x : List TxnV} {C : Nat} {π ρ : Nat → Nat}
end
theorem turn_perm {n : Nat} {π ρ : Nat → Nat} (q : IsoT n π ρ) {r : List Nat} (hp : r.Perm (List.range n)) : (r.map π).Perm (List.range n) := by
 have hnd := hp.nodup_iff.2 List.nodup_range
 have hlt : ∀ i ∈ r, i < n := fun i hi => List.mem_range.1 (hp.mem_iff.1 hi)
 refine perm_range ?_ ?_ (by rw [List.length_map, hp.length_eq]; simp)
 ·rw [List.nodup_iff_pairwise_ne, List.pairwise_map]
  exact (List.nodup_iff_pairwise_ne.1 hnd).imp_of_mem fun ha hb hne e => hne (q.inj (hlt _ ha) (hlt _ hb) e)
 ·intro i hi
  obtain ⟨k, hk, rfl⟩ := List.mem_map.1 hi
  exact q.lt k (hlt k hk)
end

section
open Go.RowKit
def renO (κ ν : Int → Int) (o : OpV) : OpV := ⟨o.wr, κ o.key, ν o.val⟩
def KeyIn (h : List TxnV) (k : Int) : Prop := ∃ t ∈ h, ∃ o ∈ t.l, o.key = k
def ValIn (h : List TxnV) (v : Int) : Prop := v = 0 ∨ ∃ t ∈ h, ∃ o ∈ t.l, o.val = v
section
variable {κ ν : Int → Int} {l : List OpV} {K V : Int → Prop}
theorem ren_lastW (hk : ∀ a b, K a → K b → κ a = κ b → a = b) (hl : ∀ o ∈ l, K o.key) {k : Int} (hK : K k) : lastW (l.map (renO κ ν)) (κ k) = (lastW l k).map (renO κ ν) := by
 unfold lastW
 rw [List.filter_map, List.getLast?_map]
 congr 2
 refine List.filter_congr fun o ho => ?_
 show (o.wr && (κ o.key == κ k)) = (o.wr && (o.key == k))
 congr 1
 rw [Bool.eq_iff_iff, beq_iff_eq, beq_iff_eq]
 exact ⟨hk _ _ (hl o ho) hK, fun e => by rw [e]⟩
theorem vOf_last (hkl : keysIn l) {o : OpV} (ho : o ∈ l) (wo : o.wr = true) : ∃ p ∈ l, lastW l o.key = some p ∧ vOf l o.key = p.val := by
 have h0 := lastW_some l wo l.length (Nat.le_refl _) (by rw [List.take_length]; exact ho)
 rw [List.take_length] at h0
 obtain ⟨p, hp⟩ := Option.isSome_iff_exists.1 h0
 have hpk := lastW_key hp
 refine ⟨p, hpk.2.2, hp, ?_⟩
 have hm : p ∈ refWrites l := ((refWrites_rise hkl).2 p).2 ⟨by rw [hpk.1]; exact hp, hpk.2.1⟩
 unfold vOf
 cases hf : (refWrites l).find? (fun q => q.key == o.key) with
 | none => have := List.find?_eq_none.1 hf p hm; simp [hpk.1] at this
 | some q =>
  have hq := List.mem_of_find?_eq_some hf
  have hqk : q.key = o.key := by simpa using List.find?_some hf
  have h2 := ((refWrites_rise hkl).2 q).1 hq
  rw [hqk, hp] at h2
  obtain rfl := Option.some.inj h2.1
  rfl
theorem ren_vOf (hk : ∀ a b, K a → K b → κ a = κ b → a = b) (hl : ∀ o ∈ l, K o.key) (hv : ∀ a b, V a → V b → ν a = ν b → a = b) (hlv : ∀ o ∈ l, V o.val) (hkl : keysIn l) (hkx : keysIn (l.map (renO κ ν))) {o : OpV} (ho : o ∈ l) (wo : o.wr = true) {v : Int} (hV : V v) : (vOf (l.map (renO κ ν)) (κ o.key) == ν v) = (vOf l o.key == v) := by
 obtain ⟨p, hp, h1, h2⟩ := vOf_last hkl ho wo
 obtain ⟨p2, hp2, h3, h4⟩ := vOf_last hkx (List.mem_map_of_mem ho) wo
 have e : lastW (l.map (renO κ ν)) (κ o.key) = some p2 := h3
 rw [ren_lastW hk hl (hl o ho), h1] at e
 obtain rfl := Option.some.inj e
 have h5 : vOf (l.map (renO κ ν)) (κ o.key) = ν p.val := h4
 rw [h5, h2, Bool.eq_iff_iff, beq_iff_eq, beq_iff_eq]
 exact ⟨hv _ _ (hlv p hp) hV, fun e => by rw [e]⟩
end
structure Ren (h x : List TxnV) (π ρ : Nat → Nat) (κ ν : Int → Int) : Prop where
 len : x.length = h.length
 turn : IsoT h.length π ρ
 ops : ∀ j, j < h.length → opsAt x j = (opsAt h (π j)).map (renO κ ν)
 key : ∀ a b, KeyIn h a → KeyIn h b → κ a = κ b → a = b
 val : ∀ a b, ValIn h a → ValIn h b → ν a = ν b → a = b
 zero : ν 0 = 0
theorem keyIn_at {h : List TxnV} {i : Nat} (hi : i < h.length) {o : OpV} (ho : o ∈ opsAt h i) : KeyIn h o.key := ⟨h[i], List.getElem_mem hi, o, by rw [← opsAt_eq hi]; exact ho, rfl⟩
theorem valIn_at {h : List TxnV} {i : Nat} (hi : i < h.length) {o : OpV} (ho : o ∈ opsAt h i) : ValIn h o.val := .inr ⟨h[i], List.getElem_mem hi, o, by rw [← opsAt_eq hi]; exact ho, rfl⟩
theorem wvH_at {h : List TxnV} {v : Int} : v ∈ wvH h ↔ ∃ i, i < h.length ∧ ∃ o ∈ opsAt h i, o.wr = true ∧ o.val = v := by
 unfold wvH
 rw [List.mem_flatMap]
 constructor
 ·rintro ⟨t, ht, hv⟩
  obtain ⟨i, hi, rfl⟩ := List.mem_iff_getElem.1 ht
  obtain ⟨o, ho, wo, e⟩ := wv_mem.1 hv
  exact ⟨i, hi, o, by rw [opsAt_eq hi]; exact ho, wo, e⟩
 ·rintro ⟨i, hi, o, ho, wo, e⟩
  rw [opsAt_eq hi] at ho
  exact ⟨h[i], List.getElem_mem hi, wv_mem.2 ⟨o, ho, wo, e⟩⟩
theorem keys_at0 {h : List TxnV} (hk : ∀ t ∈ h, keysIn t.l) {i : Nat} (hi : i < h.length) : keysIn (opsAt h i) := by rw [opsAt_eq hi]; exact hk _ (List.getElem_mem hi)
section
variable {h x : List TxnV} {π ρ : Nat → Nat} {κ ν : Int → Int}
theorem Ren.wr_at (q : Ren h x π ρ κ ν) (hkh : ∀ t ∈ h, keysIn t.l) (hkx : ∀ t ∈ x, keysIn t.l) (hoh : okW h = true) (hox : okW x = true) {i : Nat} (hi : i < h.length) {o : OpV} (ho : o ∈ opsAt h i) (wo : o.wr = true) :
  ∃ b, wrTo h h.length o.val = some ⟨i, o.key, b⟩ ∧ wrTo x x.length (ν o.val) = some ⟨((ρ i : Nat) : Int), κ o.key, b⟩ := by
 have hr := q.turn.tl i hi
 have e := q.ops (ρ i) hr
 rw [q.turn.pr i hi] at e
 have hrx : ρ i < x.length := by rw [q.len]; exact hr
 have a := wrTo_at hkh h.length (Nat.le_refl _) (by rw [List.take_length]; exact of_decide_eq_true hoh) i hi hi o (by rw [← opsAt_eq hi]; exact ho) wo
 have hmx : renO κ ν o ∈ opsAt x (ρ i) := by rw [e]; exact List.mem_map_of_mem ho
 have b := wrTo_at hkx x.length (Nat.le_refl _) (by rw [List.take_length]; exact of_decide_eq_true hox) (ρ i) hrx hrx (renO κ ν o) (by rw [← opsAt_eq hrx]; exact hmx) wo
 refine ⟨vOf h[i].l o.key == o.val, a, ?_⟩
 have hkx2 := keys_at0 hkx hrx
 rw [e] at hkx2
 have c := ren_vOf (K := KeyIn h) (V := ValIn h) q.key (fun p hp => keyIn_at hi hp) q.val (fun p hp => valIn_at hi hp) (keys_at0 hkh hi) hkx2 ho wo (valIn_at hi ho)
 rw [← opsAt_eq hrx, e] at b
 rw [← opsAt_eq hi, ← c]
 exact b
theorem Ren.wr_none (q : Ren h x π ρ κ ν) {v : Int} (hV : ValIn h v) (hn : wrTo h h.length v = none) : wrTo x x.length (ν v) = none := by
 have d1 := dom_wr h h.length (Nat.le_refl _) v
 have d2 := dom_wr x x.length (Nat.le_refl _) (ν v)
 rw [hn, List.take_length] at d1
 rw [List.take_length] at d2
 cases e : wrTo x x.length (ν v) with
 | none => rfl
 | some u =>
  rw [e] at d2
  obtain ⟨j, hj, o, ho, wo, ev⟩ := wvH_at.1 (of_decide_eq_true d2.symm)
  rw [q.len] at hj
  rw [q.ops j hj] at ho
  obtain ⟨p, hp, rfl⟩ := List.mem_map.1 ho
  have hpj := q.turn.lt j hj
  have := q.val _ _ (valIn_at hpj hp) hV ev
  exact absurd (wvH_at.2 ⟨π j, hpj, p, hp, wo, this⟩) (of_decide_eq_false d1.symm)
theorem Ren.wr_some (q : Ren h x π ρ κ ν) (hkh : ∀ t ∈ h, keysIn t.l) (hkx : ∀ t ∈ x, keysIn t.l) (hoh : okW h = true) (hox : okW x = true) {v : Int} {u : WV} (hs : wrTo h h.length v = some u) :
  ∃ i : Nat, i < h.length ∧ u.i = (i : Int) ∧ wrTo x x.length (ν v) = some ⟨((ρ i : Nat) : Int), κ u.key, u.last⟩ := by
 have d1 := dom_wr h h.length (Nat.le_refl _) v
 rw [hs, List.take_length] at d1
 obtain ⟨i, hi, o, ho, wo, rfl⟩ := wvH_at.1 (of_decide_eq_true d1.symm)
 obtain ⟨b, h1, h2⟩ := q.wr_at hkh hkx hoh hox hi ho wo
 rw [h1] at hs
 obtain rfl := Option.some.inj hs
 exact ⟨i, hi, rfl, h2⟩
theorem Ren.bad (q : Ren h x π ρ κ ν) (hkh : ∀ t ∈ h, keysIn t.l) (hkx : ∀ t ∈ x, keysIn t.l) (hoh : okW h = true) (hox : okW x = true) {o : OpV} (hV : ValIn h o.val) {j : Nat} (hj : j < h.length) :
  badFr (wrTo x x.length) (j : Int) (renO κ ν o) = badFr (wrTo h h.length) ((π j : Nat) : Int) o := by
 unfold badFr
 show (match wrTo x x.length (ν o.val) with | none => false | some u => decide (u.i = (j : Int)) || !u.last) = _
 cases e : wrTo h h.length o.val with
 | none => rw [q.wr_none hV e]
 | some u =>
  obtain ⟨i, hi, e1, e2⟩ := q.wr_some hkh hkx hoh hox e
  rw [e2]
  simp only
  congr 1
  rw [Bool.eq_iff_iff, decide_eq_true_eq, decide_eq_true_eq, e1]
  constructor
  ·intro a
   have : ρ i = j := by omega
   rw [← this, q.turn.pr i hi]
  ·intro a
   have : i = π j := by omega
   rw [this, q.turn.rp j hj]
end
theorem sum_perm {l m : List Nat} (h : l.Perm m) : l.sum = m.sum := by
 induction h with
 | nil => rfl
 | cons a _ ih => simp only [List.sum_cons, ih]
 | swap a b l => simp only [List.sum_cons]; omega
 | trans _ _ i1 i2 => rw [i1, i2]
theorem ops_list (h : List TxnV) : h.map (·.l) = (List.range h.length).map (opsAt h) := by
 apply List.ext_getElem
 ·simp
 ·intro i h1 h2
  have hi : i < h.length := by simpa using h1
  simp only [List.getElem_map, List.getElem_range]
  rw [opsAt_eq hi]
section
variable {h x : List TxnV} {π ρ : Nat → Nat} {κ ν : Int → Int}
theorem Ren.perm (q : Ren h x π ρ κ ν) : (x.map (·.l)).Perm ((h.map (·.l)).map (List.map (renO κ ν))) := by
 have e : x.map (·.l) = ((List.range h.length).map π).map fun i => (opsAt h i).map (renO κ ν) := by
  rw [ops_list x, q.len, List.map_map]
  exact List.map_congr_left fun j hj => q.ops j (List.mem_range.1 hj)
 have e2 : (h.map (·.l)).map (List.map (renO κ ν)) = (List.range h.length).map fun i => (opsAt h i).map (renO κ ν) := by rw [ops_list h, List.map_map]; rfl
 rw [e, e2]
 exact (turn_perm q.turn (List.Perm.refl _)).map _
theorem wv_ren (l : List OpV) : wv (l.map (renO κ ν)) = (wv l).map ν := by
 unfold wv
 rw [List.filter_map, List.map_map, List.map_map]
 rfl
theorem Ren.check (q : Ren h x π ρ κ ν) (hc : checkI h = 0) (hm : partsB x = true) (hst : stampsB x = true) (hse : sesB x = true) : checkI x = 0 := by
 obtain ⟨h64, hopn, hoh, hkh⟩ := check_zero hc
 have hkx := parts_keys hm
 have hr : rightB h = true := by
  unfold checkI at hc
  split at hc
  ·cases hc
  ·split at hc
   ·assumption
   ·cases hc
 have ho : opsN x = opsN h := by
  have e : ∀ h : List TxnV, opsN h = ((h.map (·.l)).map List.length).sum := fun h => by unfold opsN; rw [List.map_map]; rfl
  rw [e x, e h, sum_perm (q.perm.map List.length)]
  congr 1
  rw [List.map_map]
  exact List.map_congr_left fun l _ => by simp
 have hw : (wvH x).Perm ((wvH h).map ν) := by
  have e : ∀ h : List TxnV, wvH h = (h.map (·.l)).flatMap wv := fun h => by unfold wvH; rw [List.flatMap_map]
  rw [e x, e h]
  refine (List.Perm.flatMap_right wv q.perm).trans ?_
  rw [List.flatMap_map, List.map_flatMap, show (fun a => wv (List.map (renO κ ν) a)) = fun a => (wv a).map ν from funext fun a => wv_ren a]
 have hox : okW x = true := by
  unfold okW
  rw [decide_eq_true_eq, hw.nodup_iff, List.nodup_iff_pairwise_ne, List.pairwise_map]
  refine (List.nodup_iff_pairwise_ne.1 (of_decide_eq_true hoh)).imp_of_mem fun {a b} ha hb hne e => hne (q.val a b ?_ ?_ e)
  ·obtain ⟨i, hi, o, ho, _, rfl⟩ := wvH_at.1 ha; exact valIn_at hi ho
  ·obtain ⟨i, hi, o, ho, _, rfl⟩ := wvH_at.1 hb; exact valIn_at hi ho
 unfold rightB at hr
 simp only [Bool.and_eq_true] at hr
 unfold valuesB at hr
 rw [Bool.and_eq_true] at hr
 have hv : valuesB x = true := by
  unfold valuesB
  rw [hox, Bool.true_and, List.all_eq_true]
  intro t ht
  obtain ⟨j, hj, rfl⟩ := List.mem_iff_getElem.1 ht
  rw [q.len] at hj
  have hpj := q.turn.lt j hj
  unfold rowOk
  rw [List.all_eq_true, ← opsAt_eq (by rw [q.len]; exact hj), q.ops j hj]
  intro o ho
  obtain ⟨p, hp, rfl⟩ := List.mem_map.1 ho
  have h1 := List.all_eq_true.1 hr.2.1.2 _ (List.getElem_mem hpj)
  unfold rowOk at h1
  rw [← opsAt_eq hpj] at h1
  have h2 := List.all_eq_true.1 h1 p hp
  unfold rdOk at h2 ⊢
  show (p.wr || ν p.val == 0 || match wrTo x x.length (ν p.val) with | none => false | some u => u.key == κ p.key) = true
  cases wp : p.wr with
  | true => rfl
  | false =>
   rw [wp] at h2
   by_cases e : p.val = 0
   ·rw [e, q.zero]; rfl
   ·have e' : (p.val == 0) = false := by simpa using e
    rw [e', Bool.or_false, Bool.false_or] at h2
    cases hu : wrTo h h.length p.val with
    | none => rw [hu] at h2; cases h2
    | some u =>
     rw [hu] at h2
     obtain ⟨i, _, _, e2⟩ := q.wr_some hkh hkx hoh hox hu
     rw [e2]
     have e3 : u.key = p.key := by simpa using h2
     simp [e3]
 unfold checkI
 rw [if_neg (by rw [q.len, ho]; omega), if_pos (by unfold rightB; rw [hm, hv, hst, hse]; rfl)]
end
end

section
open Go.RowKit
def addN (l : List Int) (x : Int) : List Int := if x ∈ l then l else l ++ [x]
def firsts (l : List Int) : List Int := l.foldl addN []
def posL (l : List Int) (x : Int) : Nat := l.findIdx (fun y => y == x)
theorem firsts_snoc (l : List Int) (x : Int) : firsts (l ++ [x]) = addN (firsts l) x := by unfold firsts; rw [List.foldl_append]; rfl
theorem addN_prefix (l : List Int) (x : Int) : l <+: addN l x := by
 unfold addN; split
 ·exact List.prefix_refl _
 ·exact List.prefix_append _ _
theorem mem_addN {l : List Int} {x y : Int} : y ∈ addN l x ↔ y ∈ l ∨ y = x := by
 unfold addN; split
 ·exact ⟨.inl, fun h => h.elim id (fun e => e ▸ (by assumption))⟩
 ·rw [List.mem_append, List.mem_singleton]
theorem addN_nodup {l : List Int} {x : Int} (h : l.Nodup) : (addN l x).Nodup := by
 unfold addN; split
 ·exact h
 ·exact nodup_snoc h (by assumption)
theorem firsts_ind {P : List Int → List Int → Prop} (h0 : P [] []) (h1 : ∀ l x, P l (firsts l) → P (l ++ [x]) (addN (firsts l) x)) (l : List Int) : P l (firsts l) := by
 have : ∀ n, ∀ l : List Int, l.length = n → P l (firsts l) := by
  intro n
  induction n with
  | zero => intro l hl; obtain rfl := List.length_eq_zero_iff.1 hl; exact h0
  | succ n ih =>
   intro l hl
   have hne : l ≠ [] := by intro e; subst e; cases hl
   have e : l = l.dropLast ++ [l.getLast hne] := (List.dropLast_concat_getLast hne).symm
   rw [e, firsts_snoc]
   exact h1 _ _ (ih _ (by rw [List.length_dropLast, hl]; rfl))
 exact this _ l rfl
theorem mem_firsts {l : List Int} {y : Int} : y ∈ firsts l ↔ y ∈ l := by
 refine firsts_ind (P := fun l m => y ∈ m ↔ y ∈ l) Iff.rfl (fun l x ih => ?_) l
 rw [mem_addN, ih, List.mem_append, List.mem_singleton]
theorem firsts_nodup (l : List Int) : (firsts l).Nodup := firsts_ind (P := fun _ m => m.Nodup) List.nodup_nil (fun _ _ ih => addN_nodup ih) l
theorem firsts_len (l : List Int) : (firsts l).length ≤ l.length := by
 refine firsts_ind (P := fun l m => m.length ≤ l.length) (Nat.le_refl _) (fun l x ih => ?_) l
 rw [List.length_append]
 unfold addN; split
 ·simp; omega
 ·simp; exact ih
theorem firsts_prefix {l m : List Int} (h : l <+: m) : firsts l <+: firsts m := by
 obtain ⟨t, rfl⟩ := h
 induction t generalizing l with
 | nil => rw [List.append_nil]; exact List.prefix_refl _
 | cons a t ih =>
  have := ih (l := l ++ [a])
  rw [List.append_assoc, List.singleton_append, firsts_snoc] at this
  exact (addN_prefix _ _).trans this
theorem posL_new {l : List Int} {x : Int} (h : x ∉ l) : posL l x = l.length := by
 unfold posL
 rw [List.findIdx_eq_length]
 intro y hy
 rw [beq_eq_false_iff_ne]
 exact fun e => h (e ▸ hy)
theorem posL_lt {l : List Int} {x : Int} (h : x ∈ l) : posL l x < l.length := by
 unfold posL
 rw [List.findIdx_lt_length]
 exact ⟨x, h, by simp⟩
theorem posL_at {l : List Int} {x : Int} (h : x ∈ l) : l[posL l x]'(posL_lt h) = x := by
 have := List.findIdx_getElem (p := fun y => y == x) (xs := l) (w := posL_lt h)
 exact beq_iff_eq.1 this
theorem posL_inj {l : List Int} {x y : Int} (hx : x ∈ l) (hy : y ∈ l) (e : posL l x = posL l y) : x = y := by
 have h1 := posL_at hx
 have h2 := posL_at hy
 rw [← h1, ← h2]
 congr 1
theorem posL_prefix {l m : List Int} {x : Int} (h : l <+: m) (hx : x ∈ l) : posL m x = posL l x := by
 obtain ⟨t, rfl⟩ := h
 unfold posL
 rw [List.findIdx_append]
 exact if_pos (posL_lt hx)
theorem posL_add (l : List Int) (x : Int) : posL (addN l x) x = posL l x := by
 unfold addN; split
 ·rfl
 ·rename_i h
  rw [posL_new h]
  unfold posL
  rw [List.findIdx_append]
  have : ¬ List.findIdx (fun y => y == x) l < l.length := by have := posL_new h; unfold posL at this; omega
  rw [if_neg this]
  simp
theorem posL_time {p L : List Int} {x : Int} (h : p ++ [x] <+: L) : posL (firsts L) x = posL (firsts p) x := by
 have h1 := firsts_prefix h
 rw [firsts_snoc] at h1
 rw [posL_prefix h1 (mem_addN.2 (.inr rfl)), posL_add]
theorem firsts_map {f : Int → Int} {l : List Int} (hf : ∀ a ∈ l, ∀ b ∈ l, f a = f b → a = b) : firsts (l.map f) = (firsts l).map f := by
 have : ∀ m : List Int, (∀ a ∈ m, a ∈ l) → firsts (m.map f) = (firsts m).map f := by
  intro m
  refine firsts_ind (P := fun m q => (∀ a ∈ m, a ∈ l) → firsts (m.map f) = q.map f) (fun _ => rfl) (fun m x ih hm => ?_) m
  have ih := ih fun a ha => hm a (List.mem_append.2 (.inl ha))
  rw [List.map_append, List.map_singleton, firsts_snoc, ih]
  have hx := hm x (by simp)
  unfold addN
  by_cases h : x ∈ firsts m
  ·rw [if_pos h, if_pos (List.mem_map_of_mem h)]
  ·rw [if_neg h, if_neg, List.map_append, List.map_singleton]
   intro h2
   obtain ⟨y, hy, e⟩ := List.mem_map.1 h2
   have hyl := hm y (List.mem_append.2 (.inl (mem_firsts.1 hy)))
   exact h (hf _ hyl _ hx e ▸ hy)
 exact this l fun _ h => h
theorem findIdx_alike {α : Type} {p q : α → Bool} : ∀ (l : List α), (∀ a ∈ l, p a = q a) → l.findIdx p = l.findIdx q
 | [], _ => rfl
 | a :: l, h => by
  have h1 := h a (List.mem_cons_self ..)
  have h2 := findIdx_alike l fun b hb => h b (List.mem_cons_of_mem _ hb)
  rw [List.findIdx_cons, List.findIdx_cons, h1, h2]
theorem posL_map {f : Int → Int} {l : List Int} {x : Int} (hf : ∀ a ∈ l, f a = f x → a = x) : posL (l.map f) (f x) = posL l x := by
 unfold posL
 have e : ∀ l : List Int, (l.map f).findIdx (fun y => y == f x) = l.findIdx (fun y => f y == f x) := by
  intro l
  induction l with
  | nil => rfl
  | cons a l ih => rw [List.map_cons, List.findIdx_cons, List.findIdx_cons, ih]
 rw [e]
 refine findIdx_alike _ fun a ha => ?_
 rw [Bool.eq_iff_iff, beq_iff_eq, beq_iff_eq]
 exact ⟨hf a ha, fun e => by rw [e]⟩
abbrev ETx := Int × Int × Int × List OpV
def renE (f τ κ ν : Int → Int) (e : ETx) : ETx := (f e.1, τ e.2.1, τ e.2.2.1, e.2.2.2.map (renO κ ν))
def sesE (E : List ETx) : List Int := E.map (·.1)
def stE (E : List ETx) : List Int := E.flatMap fun e => [e.2.1, e.2.2.1]
def keyE (E : List ETx) : List Int := E.flatMap fun e => e.2.2.2.map (·.key)
def valA (E : List ETx) : List Int := E.flatMap fun e => e.2.2.2.map (·.val)
def valE (E : List ETx) : List Int := (valA E).filter fun v => v != 0
def noI (L : List Int) (x : Int) : Int := ((posL (firsts L) x : Nat) : Int)
def noV (L : List Int) (v : Int) : Int := if v = 0 then 0 else noI L v + 1
def rankN (L : List Int) (x : Int) : Nat := L.countP fun y => decide (y < x)
def rankI (L : List Int) (x : Int) : Int := ((rankN L x : Nat) : Int)
def canE (E : List ETx) : List ETx := E.map (renE (noI (sesE E)) (rankI (stE E)) (noI (keyE E)) (noV (valE E)))
theorem countP_alike {α : Type} {p q : α → Bool} : ∀ (l : List α), (∀ a ∈ l, p a = q a) → l.countP p = l.countP q
 | [], _ => rfl
 | a :: l, h => by
  have h1 := h a (List.mem_cons_self ..)
  have h2 := countP_alike l fun b hb => h b (List.mem_cons_of_mem _ hb)
  rw [List.countP_cons, List.countP_cons, h1, h2]
theorem noI_map {f : Int → Int} {L : List Int} (hf : ∀ a ∈ L, ∀ b ∈ L, f a = f b → a = b) {x : Int} (hx : x ∈ L) : noI (L.map f) (f x) = noI L x := by
 unfold noI
 rw [firsts_map hf, posL_map]
 exact fun a ha e => hf a (mem_firsts.1 ha) x hx e
theorem noI_inj {L : List Int} {x y : Int} (hx : x ∈ L) (hy : y ∈ L) (e : noI L x = noI L y) : x = y := by
 unfold noI at e
 exact posL_inj (mem_firsts.2 hx) (mem_firsts.2 hy) (by omega)
theorem noI_nonneg (L : List Int) (x : Int) : 0 ≤ noI L x := by unfold noI; omega
theorem noI_lt {L : List Int} {x : Int} (hx : x ∈ L) : noI L x < ((firsts L).length : Int) := by
 unfold noI; have := posL_lt (mem_firsts.2 hx); omega
theorem rnk_lt {L : List Int} {x y : Int} (hx : x ∈ L) (h : x < y) : rankI L x < rankI L y := by
 unfold rankI rankN
 have key : ∀ l : List Int, l.countP (fun z => decide (z < x)) + (if x ∈ l then 1 else 0) ≤ l.countP (fun z => decide (z < y)) := by
  intro l
  induction l with
  | nil => simp
  | cons a l ih =>
   rw [List.countP_cons, List.countP_cons]
   by_cases e : x = a
   ·subst e
    have : List.countP (fun z => decide (z < x)) l ≤ List.countP (fun z => decide (z < y)) l := by
     refine Nat.le_trans (Nat.le_add_right _ _) ih
    simp [h]; exact this
   ·have e2 : (x ∈ a :: l) ↔ x ∈ l := by rw [List.mem_cons]; exact ⟨fun q => q.elim (fun q => absurd q e) id, .inr⟩
    simp only [e2]
    have : (if decide (a < x) = true then 1 else 0) ≤ (if decide (a < y) = true then 1 else 0) := by
     by_cases h1 : a < x
     ·rw [if_pos (by simpa using h1), if_pos (by simp; omega)]; exact Nat.le_refl _
     ·rw [if_neg (by simpa using h1)]; exact Nat.zero_le _
    omega
 have := key L
 rw [if_pos hx] at this
 omega
theorem rnk_le {L : List Int} (x : Int) : rankI L x ≤ (L.length : Int) := by
 unfold rankI rankN; have := List.countP_le_length (p := fun y => decide (y < x)) (l := L); omega
theorem stE_mem {E : List ETx} {e : ETx} (he : e ∈ E) : e.2.1 ∈ stE E ∧ e.2.2.1 ∈ stE E := by
 unfold stE
 exact ⟨List.mem_flatMap.2 ⟨e, he, by simp⟩, List.mem_flatMap.2 ⟨e, he, by simp⟩⟩
theorem keyE_mem {E : List ETx} {e : ETx} (he : e ∈ E) {o : OpV} (ho : o ∈ e.2.2.2) : o.key ∈ keyE E := List.mem_flatMap.2 ⟨e, he, List.mem_map_of_mem ho⟩
theorem valA_mem {E : List ETx} {e : ETx} (he : e ∈ E) {o : OpV} (ho : o ∈ e.2.2.2) : o.val ∈ valA E := List.mem_flatMap.2 ⟨e, he, List.mem_map_of_mem ho⟩
theorem sesE_mem {E : List ETx} {e : ETx} (he : e ∈ E) : e.1 ∈ sesE E := List.mem_map_of_mem he
theorem can_ren {E : List ETx} {f τ κ ν : Int → Int} (hf : ∀ a ∈ sesE E, ∀ b ∈ sesE E, f a = f b → a = b) (hτ : ∀ a ∈ stE E, ∀ b ∈ stE E, a < b → τ a < τ b) (hκ : ∀ a ∈ keyE E, ∀ b ∈ keyE E, κ a = κ b → a = b)
  (h0 : ν 0 = 0) (hz : ∀ a ∈ valA E, ν a = 0 → a = 0) (hν : ∀ a ∈ valA E, ∀ b ∈ valA E, ν a = ν b → a = b) : canE (E.map (renE f τ κ ν)) = canE E := by
 have e1 : sesE (E.map (renE f τ κ ν)) = (sesE E).map f := by unfold sesE; rw [List.map_map, List.map_map]; rfl
 have e2 : stE (E.map (renE f τ κ ν)) = (stE E).map τ := by unfold stE; rw [List.flatMap_map, List.map_flatMap]; rfl
 have e3 : keyE (E.map (renE f τ κ ν)) = (keyE E).map κ := by
  unfold keyE; rw [List.flatMap_map, List.map_flatMap]
  congr 1; funext e; show ((e.2.2.2.map (renO κ ν)).map (·.key)) = (e.2.2.2.map (·.key)).map κ
  rw [List.map_map, List.map_map]; rfl
 have e4 : valA (E.map (renE f τ κ ν)) = (valA E).map ν := by
  unfold valA; rw [List.flatMap_map, List.map_flatMap]
  congr 1; funext e; show ((e.2.2.2.map (renO κ ν)).map (·.val)) = (e.2.2.2.map (·.val)).map ν
  rw [List.map_map, List.map_map]; rfl
 have e5 : valE (E.map (renE f τ κ ν)) = (valE E).map ν := by
  unfold valE
  rw [e4, List.filter_map]
  congr 1
  refine List.filter_congr fun a ha => ?_
  show (ν a != 0) = (a != 0)
  rw [Bool.eq_iff_iff, bne_iff_ne, bne_iff_ne]
  exact ⟨fun h e => h (by rw [e, h0]), fun h e => h (hz a ha e)⟩
 unfold canE
 rw [e1, e2, e3, e5, List.map_map]
 refine List.map_congr_left fun e he => ?_
 have hs := stE_mem he
 have hrk : ∀ x, x ∈ stE E → rankI ((stE E).map τ) (τ x) = rankI (stE E) x := by
  intro x hx
  unfold rankI rankN
  rw [List.countP_map]
  congr 1
  refine countP_alike _ fun a ha => ?_
  show decide (τ a < τ x) = decide (a < x)
  rw [Bool.eq_iff_iff, decide_eq_true_eq, decide_eq_true_eq]
  constructor
  ·intro h
   rcases Int.lt_trichotomy a x with h1 | h1 | h1
   ·exact h1
   ·rw [h1] at h; omega
   ·have := hτ x hx a ha h1; omega
  ·exact hτ a ha x hx
 show ((noI ((sesE E).map f) (f e.1), rankI ((stE E).map τ) (τ e.2.1), rankI ((stE E).map τ) (τ e.2.2.1), (e.2.2.2.map (renO κ ν)).map (renO (noI ((keyE E).map κ)) (noV ((valE E).map ν)))) : ETx) = _
 rw [noI_map hf (sesE_mem he), hrk _ hs.1, hrk _ hs.2, List.map_map]
 have : e.2.2.2.map (renO (noI ((keyE E).map κ)) (noV ((valE E).map ν)) ∘ renO κ ν) = e.2.2.2.map (renO (noI (keyE E)) (noV (valE E))) := by
  refine List.map_congr_left fun o ho => ?_
  have hv := valA_mem he ho
  show (⟨o.wr, noI ((keyE E).map κ) (κ o.key), noV ((valE E).map ν) (ν o.val)⟩ : OpV) = ⟨o.wr, noI (keyE E) o.key, noV (valE E) o.val⟩
  rw [noI_map hκ (keyE_mem he ho)]
  have : noV ((valE E).map ν) (ν o.val) = noV (valE E) o.val := by
   unfold noV
   by_cases h : o.val = 0
   ·rw [h, h0, if_pos rfl, if_pos rfl]
   ·have h2 : ν o.val ≠ 0 := fun e => h (hz _ hv e)
    rw [if_neg h, if_neg h2]
    have hm : o.val ∈ valE E := List.mem_filter.2 ⟨hv, by simpa using h⟩
    rw [noI_map (L := valE E) (fun a ha b hb => hν a (List.mem_filter.1 ha).1 b (List.mem_filter.1 hb).1) hm]
  rw [this]
 rw [this]
 rfl
end

section
open Go.RowKit
def IsSrt (h s : List TxnV) : Prop := s.Perm h ∧ s.Pairwise fun t u => t.b < u.b
theorem srt_eq {h s u : List TxnV} (h1 : IsSrt h s) (h2 : IsSrt h u) : s = u := by
 have key : ∀ s u : List TxnV, s.Pairwise (fun t u => t.b < u.b) → u.Pairwise (fun t u => t.b < u.b) → s.Perm u → s = u := by
  intro s
  induction s with
  | nil => intro u _ _ hp; exact hp.nil_eq
  | cons a s ih =>
   intro u hs hu hp
   cases u with
   | nil => exact absurd hp.length_eq (by simp)
   | cons b u =>
    obtain ⟨a1, a2⟩ := List.pairwise_cons.1 hs
    obtain ⟨b1, b2⟩ := List.pairwise_cons.1 hu
    have e : a = b := by
     rcases List.mem_cons.1 (hp.mem_iff.1 (List.mem_cons_self ..) : a ∈ b :: u) with e | e
     ·exact e
     ·rcases List.mem_cons.1 (hp.mem_iff.2 (List.mem_cons_self ..) : b ∈ a :: s) with e' | e'
      ·exact e'.symm
      ·have := b1 _ e; have := a1 _ e'; omega
    subst e
    rw [ih u a2 b2 ((List.perm_cons a).1 hp)]
 exact key s u h1.2 h2.2 (h1.1.trans h2.1.symm)
end

section
open Go.RowKit
theorem check_rightB {h : List TxnV} (hc : checkI h = 0) : partsB h = true ∧ valuesB h = true ∧ stampsB h = true ∧ sesB h = true := by
 unfold checkI at hc
 split at hc
 ·cases hc
 ·split at hc
  ·rename_i hr
   unfold rightB at hr
   simp only [Bool.and_eq_true] at hr
   exact ⟨hr.1, hr.2.1, hr.2.2.1, hr.2.2.2⟩
  ·cases hc
theorem may_at {h : List TxnV} (hp : partsB h = true) {t : TxnV} (ht : t ∈ h) : (0 ≤ t.s ∧ t.s < 64 ∧ 0 ≤ t.b ∧ t.b < t.c ∧ t.c ≤ 2147483647 ∧ 1 ≤ t.l.length ∧ t.l.length ≤ 64) ∧ ∀ o ∈ t.l, mayO o = true := by
 have h1 := List.all_eq_true.1 hp t ht
 unfold mayT at h1
 rw [Bool.and_eq_true, decide_eq_true_eq] at h1
 exact ⟨h1.1, fun o ho => List.all_eq_true.1 h1.2 o ho⟩
theorem check_bc {h : List TxnV} (hc : checkI h = 0) : ∀ t ∈ h, t.b < t.c := fun _ ht => (may_at (check_rightB hc).1 ht).1.2.2.2.1
theorem st_apart {h : List TxnV} (hs : stampsB h = true) {i j : Nat} (hi : i < h.length) (hj : j < h.length) (hne : i ≠ j) : Apart h[i] h[j] := by
 have hd : (stL h).Nodup := of_decide_eq_true hs
 have hd' : (stL (h.take h.length)).Nodup := by rw [List.take_length]; exact hd
 rcases Nat.lt_or_gt_of_ne hne with e | e
 ·exact st_take hd' i j hj (Nat.le_refl _) e
 ·obtain ⟨a, b, c, d⟩ := st_take hd' j i hi (Nat.le_refl _) e
  exact ⟨fun q => a q.symm, fun q => c q.symm, fun q => b q.symm, fun q => d q.symm⟩
theorem begins_nodup {h : List TxnV} (hs : stampsB h = true) : (h.map (·.b)).Nodup := by
 rw [List.nodup_iff_pairwise_ne, List.pairwise_map, List.pairwise_iff_getElem]
 intro i j hi hj hij
 exact (st_apart hs hi hj (by omega)).1
def whereB (h : List TxnV) (b : Int) : Nat := h.findIdx fun t => t.b == b
theorem whereB_at {h : List TxnV} (hd : (h.map (·.b)).Nodup) {t : TxnV} (ht : t ∈ h) : ∃ hi : whereB h t.b < h.length, h[whereB h t.b] = t := by
 have hi : whereB h t.b < h.length := by unfold whereB; rw [List.findIdx_lt_length]; exact ⟨t, ht, by simp⟩
 refine ⟨hi, ?_⟩
 have h1 := List.findIdx_getElem (p := fun u : TxnV => u.b == t.b) (xs := h) (w := hi)
 have h1 : h[whereB h t.b].b = t.b := beq_iff_eq.1 h1
 obtain ⟨k, hk, e⟩ := List.mem_iff_getElem.1 ht
 rw [List.nodup_iff_pairwise_ne, List.pairwise_map, List.pairwise_iff_getElem] at hd
 have : whereB h t.b = k := by
  rcases Nat.lt_trichotomy (whereB h t.b) k with q | q | q
  ·exact absurd (by rw [h1, e]) (hd _ _ hi hk q)
  ·exact q
  ·exact absurd (by rw [h1, e]) (hd _ _ hk hi q)
 subst this
 exact e
theorem perm_turn {h s : List TxnV} (hp : s.Perm h) (hd : (h.map (·.b)).Nodup) : ∃ π ρ : Nat → Nat, IsoT h.length π ρ ∧ ∀ j (hj : j < s.length), ∃ hπ : π j < h.length, s[j] = h[π j] := by
 have hl := hp.length_eq
 have hds : (s.map (·.b)).Nodup := (hp.map _).nodup_iff.2 hd
 have one : ∀ (l m : List TxnV), l.length = m.length → (l.map (·.b)).Nodup → (m.map (·.b)).Nodup → (∀ t ∈ l, t ∈ m) → (∀ t ∈ m, t ∈ l) → ∀ j (hj : j < l.length), ∃ hi : whereB m l[j].b < m.length, m[whereB m l[j].b] = l[j] ∧ whereB l (m[whereB m l[j].b].b) = j := by
  intro l m hlm hdl hdm hsub _ j hj
  obtain ⟨hi, e⟩ := whereB_at hdm (hsub _ (List.getElem_mem hj))
  refine ⟨hi, e, ?_⟩
  rw [e]
  obtain ⟨hi2, e2⟩ := whereB_at hdl (List.getElem_mem hj)
  rw [List.nodup_iff_pairwise_ne, List.pairwise_map, List.pairwise_iff_getElem] at hdl
  rcases Nat.lt_trichotomy (whereB l l[j].b) j with q | q | q
  ·exact absurd (by rw [e2]) (hdl _ _ hi2 hj q)
  ·exact q
  ·exact absurd (by rw [e2]) (hdl _ _ hj hi2 q)
 have sub1 : ∀ t ∈ s, t ∈ h := fun t ht => hp.mem_iff.1 ht
 have sub2 : ∀ t ∈ h, t ∈ s := fun t ht => hp.mem_iff.2 ht
 refine ⟨fun j => whereB h (bAt s j), fun i => whereB s (bAt h i), ⟨fun j hj => ?_, fun j hj => ?_, fun j hj => ?_, fun j hj => ?_⟩, fun j hj => ?_⟩
 ·have hj' : j < s.length := by omega
  show whereB h (bAt s j) < h.length
  rw [bAt_eq hj']
  exact (one s h hl hds hd sub1 sub2 j hj').1
 ·show whereB s (bAt h j) < h.length
  rw [bAt_eq hj, ← hl]
  exact (one h s hl.symm hd hds sub2 sub1 j hj).1
 ·show whereB h (bAt s (whereB s (bAt h j))) = j
  obtain ⟨hi, e1, e2⟩ := one h s hl.symm hd hds sub2 sub1 j hj
  rw [bAt_eq hj, bAt_eq hi]
  exact e2
 ·have hj' : j < s.length := by omega
  show whereB s (bAt h (whereB h (bAt s j))) = j
  obtain ⟨hi, e1, e2⟩ := one s h hl hds hd sub1 sub2 j hj'
  rw [bAt_eq hj', bAt_eq hi]
  exact e2
 ·obtain ⟨hi, e1, e2⟩ := one s h hl hds hd sub1 sub2 j hj
  show ∃ hπ : whereB h (bAt s j) < h.length, s[j] = h[whereB h (bAt s j)]
  rw [bAt_eq hj]
  exact ⟨hi, e1.symm⟩
section
variable {h s c : List TxnV} {f τ κ ν : Int → Int}
theorem ren_of (hp : s.Perm h) (hd : (h.map (·.b)).Nodup) (he : c.map txE = (s.map txE).map (renE f τ κ ν)) (hκ : ∀ a b, KeyIn h a → KeyIn h b → κ a = κ b → a = b) (hν : ∀ a b, ValIn h a → ValIn h b → ν a = ν b → a = b) (h0 : ν 0 = 0) :
  ∃ π ρ, Ren h c π ρ κ ν ∧ ∀ j (hj : j < c.length), ∃ hπ : π j < h.length, txE c[j] = renE f τ κ ν (txE h[π j]) := by
 obtain ⟨π, ρ, ht, hs⟩ := perm_turn hp hd
 have hl : c.length = s.length := by have := congrArg List.length he; simpa using this
 have hl2 := hp.length_eq
 have key : ∀ j (hj : j < c.length), ∃ hπ : π j < h.length, txE c[j] = renE f τ κ ν (txE h[π j]) := by
  intro j hj
  obtain ⟨hπ, e⟩ := hs j (by omega)
  refine ⟨hπ, ?_⟩
  have := congrArg (fun l => l[j]?) he
  simp only [List.getElem?_map] at this
  rw [List.getElem?_eq_getElem hj, List.getElem?_eq_getElem (show j < s.length by omega)] at this
  simp only [Option.map_some, Option.some.injEq] at this
  rw [this, e]
 refine ⟨π, ρ, ⟨by omega, ht, fun j hj => ?_, hκ, hν, h0⟩, key⟩
 obtain ⟨hπ, e⟩ := key j (by omega)
 rw [opsAt_eq (by omega), opsAt_eq hπ]
 exact congrArg (fun e : ETx => e.2.2.2) e
end
section
variable {h c : List TxnV} {f τ κ ν : Int → Int} {π ρ : Nat → Nat}
end
section
variable {h s c : List TxnV}
theorem sesE_txE (s : List TxnV) : sesE (s.map txE) = s.map (·.s) := by unfold sesE; rw [List.map_map]; rfl
theorem stE_txE (s : List TxnV) : stE (s.map txE) = stL s := by unfold stE stL; rw [List.flatMap_map]; rfl
theorem keyE_iff {s : List TxnV} {k : Int} : k ∈ keyE (s.map txE) ↔ KeyIn s k := by
 unfold keyE KeyIn
 rw [List.flatMap_map, List.mem_flatMap]
 exact ⟨fun ⟨t, ht, hk⟩ => by obtain ⟨o, ho, e⟩ := List.mem_map.1 hk; exact ⟨t, ht, o, ho, e⟩, fun ⟨t, ht, o, ho, e⟩ => ⟨t, ht, List.mem_map.2 ⟨o, ho, e⟩⟩⟩
theorem valA_iff {s : List TxnV} {v : Int} : v ∈ valA (s.map txE) ↔ ∃ t ∈ s, ∃ o ∈ t.l, o.val = v := by
 unfold valA
 rw [List.flatMap_map, List.mem_flatMap]
 exact ⟨fun ⟨t, ht, hk⟩ => by obtain ⟨o, ho, e⟩ := List.mem_map.1 hk; exact ⟨t, ht, o, ho, e⟩, fun ⟨t, ht, o, ho, e⟩ => ⟨t, ht, List.mem_map.2 ⟨o, ho, e⟩⟩⟩
theorem KeyIn.perm (hp : s.Perm h) {k : Int} (q : KeyIn h k) : KeyIn s k := by
 obtain ⟨t, ht, r⟩ := q; exact ⟨t, hp.mem_iff.2 ht, r⟩
theorem ValIn.perm (hp : s.Perm h) {k : Int} (q : ValIn h k) : ValIn s k := q.imp id fun ⟨t, ht, r⟩ => ⟨t, hp.mem_iff.2 ht, r⟩
theorem noV_inj {L : List Int} {V : List Int} (hV : ∀ v ∈ V, v ≠ 0 → v ∈ L) {a b : Int} (ha : a = 0 ∨ a ∈ V) (hb : b = 0 ∨ b ∈ V) (e : noV L a = noV L b) : a = b := by
 unfold noV at e
 have na := noI_nonneg L a
 have nb := noI_nonneg L b
 by_cases h1 : a = 0
 ·by_cases h2 : b = 0
  ·rw [h1, h2]
  ·rw [if_pos h1, if_neg h2] at e; omega
 ·by_cases h2 : b = 0
  ·rw [if_neg h1, if_pos h2] at e; omega
  ·rw [if_neg h1, if_neg h2] at e
   exact noI_inj (hV a (ha.elim (fun q => absurd q h1) id) h1) (hV b (hb.elim (fun q => absurd q h2) id) h2) (by omega)
theorem valE_mem {E : List ETx} {v : Int} : v ∈ valE E ↔ v ∈ valA E ∧ v ≠ 0 := by unfold valE; rw [List.mem_filter]; simp
theorem nodup_ints : ∀ (n : Nat) (l : List Int), l.Nodup → (∀ k ∈ l, 0 ≤ k ∧ k < (n : Int)) → l.length ≤ n := by
 intro n l hn hl
 have := nodup_len n (l.map Int.toNat) (by
  rw [List.nodup_iff_pairwise_ne, List.pairwise_map]
  refine (List.nodup_iff_pairwise_ne.1 hn).imp_of_mem fun {a b} ha hb hne e => hne ?_
  have := hl a ha; have := hl b hb; omega) (fun k hk => by
  obtain ⟨a, ha, rfl⟩ := List.mem_map.1 hk
  have := hl a ha; omega)
 simpa using this
theorem can_ren_of (hc : checkI h = 0) (hs : IsSrt h s) (he : c.map txE = canE (s.map txE)) : ∃ π ρ, Ren h c π ρ (noI (keyE (s.map txE))) (noV (valE (s.map txE))) ∧ ∀ j (hj : j < c.length), ∃ hπ : π j < h.length, txE c[j] = renE (noI (sesE (s.map txE))) (rankI (stE (s.map txE))) (noI (keyE (s.map txE))) (noV (valE (s.map txE))) (txE h[π j]) := by
 refine ren_of hs.1 (begins_nodup (check_rightB hc).2.2.1) he ?_ ?_ (by unfold noV; rw [if_pos rfl])
 ·intro a b ha hb e
  exact noI_inj (keyE_iff.2 (ha.perm hs.1)) (keyE_iff.2 (hb.perm hs.1)) e
 ·intro a b ha hb e
  refine noV_inj (V := valA (s.map txE)) (fun v hv h0 => valE_mem.2 ⟨hv, h0⟩) ?_ ?_ e
  ·exact (ha.perm hs.1).imp id fun q => valA_iff.2 q
  ·exact (hb.perm hs.1).imp id fun q => valA_iff.2 q
theorem stE_perm (hs : IsSrt h s) {a : Int} (ha : a ∈ stL h) : a ∈ stE (s.map txE) := by
 rw [stE_txE]
 obtain ⟨t, ht, e⟩ := stL_mem.1 ha
 exact stL_mem.2 ⟨t, hs.1.mem_iff.2 ht, e⟩
theorem can_mono (hs : IsSrt h s) : ∀ a ∈ stL h, ∀ b ∈ stL h, a < b → rankI (stE (s.map txE)) a < rankI (stE (s.map txE)) b := fun _ ha _ _ e => rnk_lt (stE_perm hs ha) e
theorem can_ses (hs : IsSrt h s) : ∀ t ∈ h, ∀ u ∈ h, noI (sesE (s.map txE)) t.s = noI (sesE (s.map txE)) u.s → t.s = u.s := fun t ht u hu e => by
 refine noI_inj ?_ ?_ e <;> rw [sesE_txE]
 ·exact List.mem_map_of_mem (hs.1.mem_iff.2 ht)
 ·exact List.mem_map_of_mem (hs.1.mem_iff.2 hu)
theorem keys_total {L : List Int} {n : Nat} (hL : ∀ k ∈ L, 0 ≤ k ∧ k < (n : Int)) : (firsts L).length ≤ n := nodup_ints n _ (firsts_nodup L) fun k hk => hL k (mem_firsts.1 hk)
theorem valA_len (s : List TxnV) : (valA (s.map txE)).length = opsN s := by
 unfold valA opsN
 rw [List.flatMap_map, List.length_flatMap]
 congr 1
 exact List.map_congr_left fun t _ => by simp [txE]
theorem can_check (hc : checkI h = 0) (hs : IsSrt h s) (he : c.map txE = canE (s.map txE)) : checkI c = 0 := by
 obtain ⟨π, ρ, q, hq⟩ := can_ren_of hc hs he
 obtain ⟨hp, hv, hst, hse⟩ := check_rightB hc
 obtain ⟨h64, hopn, _, _⟩ := check_zero hc
 have hbc := check_bc hc
 have hln : s.length = h.length := hs.1.length_eq
 have at_ : ∀ j (hj : j < c.length), ∃ hπ : π j < h.length, c[j].s = noI (sesE (s.map txE)) h[π j].s ∧ c[j].b = rankI (stE (s.map txE)) h[π j].b ∧ c[j].c = rankI (stE (s.map txE)) h[π j].c ∧ c[j].l = h[π j].l.map (renO (noI (keyE (s.map txE))) (noV (valE (s.map txE)))) := by
  intro j hj
  obtain ⟨hπ, e⟩ := hq j hj
  exact ⟨hπ, congrArg (fun e : ETx => e.1) e, congrArg (fun e : ETx => e.2.1) e, congrArg (fun e : ETx => e.2.2.1) e, congrArg (fun e : ETx => e.2.2.2) e⟩
 have bm : ∀ t ∈ h, t.b ∈ stL h ∧ t.c ∈ stL h := fun t ht => ⟨stL_mem.2 ⟨t, ht, .inl rfl⟩, stL_mem.2 ⟨t, ht, .inr rfl⟩⟩
 have hstl : (stE (s.map txE)).length = 2 * h.length := by
  rw [stE_txE, ← hln]
  unfold stL
  rw [List.length_flatMap]
  clear hs he q hq hln at_
  induction s with
  | nil => rfl
  | cons a s ih => simp only [List.map_cons, List.sum_cons, List.length_cons, List.length_nil] at ih ⊢; omega
 have hkt : (firsts (keyE (s.map txE))).length ≤ 64 := keys_total (n := 64) fun k hk => by
  obtain ⟨t, ht, o, ho, rfl⟩ := keyE_iff.1 hk
  have := ((mayO_iff o).1 ((may_at hp (hs.1.mem_iff.1 ht)).2 o ho)).1
  omega
 have hvt : (firsts (valE (s.map txE))).length ≤ 1024 := by
  have h1 := firsts_len (valE (s.map txE))
  have h2 : (valE (s.map txE)).length ≤ (valA (s.map txE)).length := List.length_filter_le _ _
  rw [valA_len] at h2
  have h3 : opsN s = opsN h := by unfold opsN; exact sum_perm (hs.1.map _)
  omega
 have hsl : (firsts (sesE (s.map txE))).length ≤ 64 := by
  have h1 := firsts_len (sesE (s.map txE))
  rw [sesE_txE, List.length_map] at h1
  rw [sesE_txE]
  omega
 refine q.check hc ?_ ?_ ?_
 ·unfold partsB
  rw [List.all_eq_true]
  intro t ht
  obtain ⟨j, hj, rfl⟩ := List.mem_iff_getElem.1 ht
  obtain ⟨hπ, e1, e2, e3, e4⟩ := at_ j hj
  have hm := List.getElem_mem hπ
  obtain ⟨m1, m2⟩ := may_at hp hm
  rw [e1, e2, e3, e4]
  have a1 := noI_nonneg (sesE (s.map txE)) h[π j].s
  have a2 : noI (sesE (s.map txE)) h[π j].s < ((firsts (sesE (s.map txE))).length : Int) := noI_lt (by rw [sesE_txE]; exact List.mem_map_of_mem (hs.1.mem_iff.2 hm))
  have a3 := can_mono hs _ (bm _ hm).1 _ (bm _ hm).2 (hbc _ hm)
  have a4 : 0 ≤ rankI (stE (s.map txE)) h[π j].b := by unfold rankI; omega
  have a5 := rnk_le (L := stE (s.map txE)) h[π j].c
  rw [hstl] at a5
  rw [mayT_yes ⟨a1, by omega, a4, a3, by omega, by rw [List.length_map]; exact m1.2.2.2.2.2.1, by rw [List.length_map]; exact m1.2.2.2.2.2.2⟩]
  unfold allM
  rw [List.all_eq_true]
  intro o ho
  obtain ⟨p, hpm, rfl⟩ := List.mem_map.1 ho
  have hmo := (mayO_iff p).1 (m2 p hpm)
  rw [mayO_iff]
  have hK : KeyIn s p.key := ⟨_, hs.1.mem_iff.2 hm, p, hpm, rfl⟩
  have hV : p.val ∈ valA (s.map txE) := valA_iff.2 ⟨_, hs.1.mem_iff.2 hm, p, hpm, rfl⟩
  have b1 := noI_nonneg (keyE (s.map txE)) p.key
  have b2 : noI (keyE (s.map txE)) p.key < ((firsts (keyE (s.map txE))).length : Int) := noI_lt (keyE_iff.2 hK)
  have b3 := noI_nonneg (valE (s.map txE)) p.val
  refine ⟨⟨b1, by show noI _ _ < 64; omega⟩, ?_, ?_⟩
  ·show 0 ≤ noV _ p.val ∧ noV _ p.val ≤ 2147483647
   unfold noV
   by_cases h0 : p.val = 0
   ·rw [if_pos h0]; omega
   ·have b4 : noI (valE (s.map txE)) p.val < ((firsts (valE (s.map txE))).length : Int) := noI_lt (valE_mem.2 ⟨hV, h0⟩)
    rw [if_neg h0]; omega
  ·intro w
   show noV _ p.val ≠ 0
   unfold noV
   rw [if_neg (hmo.2.2 w)]; omega
 ·have hlen : c.length = h.length := q.len
  have hap : ∀ i j, ∀ hj : j < c.length, ∀ hi : i < j, Apart (c[i]'(by omega)) c[j] := by
   intro i j hj hi
   obtain ⟨p1, _, b1, c1, _⟩ := at_ i (by omega)
   obtain ⟨p2, _, b2, c2, _⟩ := at_ j hj
   have hne : π i ≠ π j := fun e => by have := q.turn.inj (show i < h.length by omega) (by omega) e; omega
   obtain ⟨x1, x2, x3, x4⟩ := st_apart hst p1 p2 hne
   have un : ∀ a ∈ stL h, ∀ b ∈ stL h, a ≠ b → rankI (stE (s.map txE)) a ≠ rankI (stE (s.map txE)) b := fun a ha b hb hne e => by
    rcases Int.lt_trichotomy a b with q | q | q
    ·have := can_mono hs a ha b hb q; omega
    ·exact hne q
    ·have := can_mono hs b hb a ha q; omega
   have m1 := bm _ (List.getElem_mem p1)
   have m2 := bm _ (List.getElem_mem p2)
   refine ⟨?_, ?_, ?_, ?_⟩
   ·rw [b1, b2]; exact un _ m1.1 _ m2.1 x1
   ·rw [b1, c2]; exact un _ m1.1 _ m2.2 x2
   ·rw [c1, b2]; exact un _ m1.2 _ m2.1 x3
   ·rw [c1, c2]; exact un _ m1.2 _ m2.2 x4
  have hbcc : ∀ t ∈ c, t.b < t.c := fun t ht => by
   obtain ⟨j, hj, rfl⟩ := List.mem_iff_getElem.1 ht
   obtain ⟨hπ, _, e2, e3, _⟩ := at_ j hj
   have hm := List.getElem_mem hπ
   rw [e2, e3]
   exact can_mono hs _ (bm _ hm).1 _ (bm _ hm).2 (hbc _ hm)
  have := st_nodup hbcc hap c.length (Nat.le_refl _)
  rw [List.take_length] at this
  exact decide_eq_true this
 ·have hcs : ∀ j (hj : j < c.length), ∃ hs' : j < s.length, txE c[j] = renE (noI (sesE (s.map txE))) (rankI (stE (s.map txE))) (noI (keyE (s.map txE))) (noV (valE (s.map txE))) (txE s[j]) := by
   intro j hj
   have hl : c.length = s.length := by have := congrArg List.length he; unfold canE at this; simpa using this
   refine ⟨by omega, ?_⟩
   have := congrArg (fun l => l[j]?) he
   unfold canE at this
   simp only [List.getElem?_map] at this
   rw [List.getElem?_eq_getElem hj, List.getElem?_eq_getElem (show j < s.length by omega)] at this
   simpa using this
  refine ses_mk fun j hj i hi e => ?_
  obtain ⟨q1, e1⟩ := hcs i (by omega)
  obtain ⟨q2, e2⟩ := hcs j hj
  have a1 : (c[i]'(by omega)).s = noI (sesE (s.map txE)) s[i].s := congrArg (fun e : ETx => e.1) e1
  have a2 : c[j].s = noI (sesE (s.map txE)) s[j].s := congrArg (fun e : ETx => e.1) e2
  have a3 : (c[i]'(by omega)).c = rankI (stE (s.map txE)) s[i].c := congrArg (fun e : ETx => e.2.2.1) e1
  have a4 : c[j].b = rankI (stE (s.map txE)) s[j].b := congrArg (fun e : ETx => e.2.1) e2
  have m1 := hs.1.mem_iff.1 (List.getElem_mem q1)
  have m2 := hs.1.mem_iff.1 (List.getElem_mem q2)
  rw [a1, a2] at e
  have es := can_ses hs _ m1 _ m2 e
  have hlt := (List.pairwise_iff_getElem.1 hs.2) i j q1 q2 hi
  rw [a3, a4]
  refine can_mono hs _ (bm _ m1).2 _ (bm _ m2).1 ?_
  obtain ⟨i', hi', f1⟩ := List.mem_iff_getElem.1 m1
  obtain ⟨j', hj', f2⟩ := List.mem_iff_getElem.1 m2
  rw [← f1, ← f2] at es hlt ⊢
  rcases Nat.lt_trichotomy i' j' with w | w | w
  ·exact ses_all hse hbc j' hj' i' w es
  ·subst w; omega
  ·have := ses_all hse hbc i' hi' j' w es.symm
   have := hbc _ (List.getElem_mem hi')
   have := hbc _ (List.getElem_mem hj')
   omega
theorem can_srt (hs : IsSrt h s) (he : c.map txE = canE (s.map txE)) : c.Pairwise fun t u => t.b < u.b := by
 rw [List.pairwise_iff_getElem]
 intro i j hi hj hij
 have hl : c.length = s.length := by have := congrArg List.length he; unfold canE at this; simpa using this
 have key : ∀ j (hj : j < c.length), c[j].b = rankI (stE (s.map txE)) (s[j]'(by omega)).b := by
  intro j hj
  have := congrArg (fun l => l[j]?) he
  unfold canE at this
  simp only [List.getElem?_map] at this
  rw [List.getElem?_eq_getElem hj, List.getElem?_eq_getElem (show j < s.length by omega)] at this
  simp only [Option.map_some, Option.some.injEq] at this
  exact congrArg (fun e : ETx => e.2.1) this
 rw [key i hi, key j hj]
 refine rnk_lt ?_ ((List.pairwise_iff_getElem.1 hs.2) i j _ _ hij)
 exact (stE_mem (List.mem_map_of_mem (List.getElem_mem (show i < s.length by omega)))).1
theorem can_can (he : c.map txE = canE (s.map txE)) : canE (c.map txE) = c.map txE := by
 rw [he]
 conv => lhs; rw [canE.eq_def (s.map txE)]
 refine can_ren ?_ ?_ ?_ ?_ ?_ ?_
 ·exact fun a ha b hb e => noI_inj ha hb e
 ·exact fun a ha b hb e => rnk_lt ha e
 ·exact fun a ha b hb e => noI_inj ha hb e
 ·unfold noV; rw [if_pos rfl]
 ·intro a ha e
  unfold noV at e
  by_cases h0 : a = 0
  ·exact h0
  ·rw [if_neg h0] at e; have := noI_nonneg (valE (s.map txE)) a; omega
 ·exact fun a ha b hb e => noV_inj (V := valA (s.map txE)) (fun v hv h0 => valE_mem.2 ⟨hv, h0⟩) (.inr ha) (.inr hb) e
end
end

end Go.Proofs.Ytlajeemkoldngaa
