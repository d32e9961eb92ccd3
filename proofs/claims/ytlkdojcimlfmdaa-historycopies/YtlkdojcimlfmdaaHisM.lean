/- The walks of the reference's Check, and of what the history layer's statements ask first. Conditions: a slice's cells are known; a transaction has fewer operations than memory holds. -/
import Derived.Test.YtlkdojcimlfmdaaHisL
import Derived.Laws.StructEq
namespace Go.Proofs.Ytlkdojcimlfmdaa
set_option maxRecDepth 100000
open Go.RowKit

set_option maxHeartbeats 4000000 in
theorem rcheck_any (va : Value) (h : List TxnV) (w : World) (hT : Txns w va h) (hsh : Short h) :
    Calls Try.prog 13 #[va] w fun e w' => e = .returned (.int .i64 (checkR h)) ∧ Below w.heap.size w w' := by
  obtain ⟨ao, cap, rfl, hal⟩ := hT.form
  by_cases hbig : 64 < h.length
  · have hbig' : (64 : Int) < (h.length : Int) := by omega
    have H : Hid ((3 : Int) = checkR h) := Lib.hid (by unfold checkR; rw [if_pos (.inl hbig)])
    go_enter Try.func13, Try.ntmps13
    go_wp2_with fail
    go_ret
    exact ⟨ret_int H.out, Below.refl _ _⟩
  have hbf : decide ((64 : Int) < (h.length : Int)) = false := by simp; omega
  have hle := opsN_short h hsh
  have CO := Lib.hid (count_any _ h w hT (by omega))
  have HT := Lib.hid (fun wx (hx : Below w.heap.size w wx) => hT.below hx)
  clear hT hsh
  go_enter Try.func13, Try.ntmps13
  go_wp2_with fail
  refine (CO.out).mono ?_
  rintro e w1 ⟨rfl, hb1⟩
  clear CO
  by_cases hov : 1024 < opsN h
  · have hov' : (1024 : Int) < (opsN h : Int) := by omega
    have H : Hid ((3 : Int) = checkR h) := Lib.hid (by unfold checkR; rw [if_pos (.inr hov)])
    go_wp2_with fail
    go_ret
    exact ⟨ret_int H.out, hb1⟩
  have hov' : decide ((1024 : Int) < (opsN h : Int)) = false := by simp; omega
  have HCK : Hid (checkR h = if mayRef h then 0 else 2) := Lib.hid (by unfold checkR; rw [if_neg (by omega)])
  have CM := Lib.hid (rmay_any _ h w1 (HT.out _ hb1) (by omega))
  generalize mayRef h = q at *
  go_wp2_with fail
  refine (CM.out).mono ?_
  rintro e w2 ⟨rfl, hb2⟩
  have hb3 := below_then hb1 hb2
  clear CM
  cases q
  · have H : Hid ((2 : Int) = checkR h) := Lib.hid (by rw [HCK.out]; rfl)
    go_wp2_with fail
    go_ret
    exact ⟨ret_int H.out, hb3⟩
  · have H : Hid ((0 : Int) = checkR h) := Lib.hid (by rw [HCK.out]; rfl)
    go_wp2_with fail
    go_ret
    exact ⟨ret_int H.out, hb3⟩
def spH (v1 v2 : Value) : List TxnV := [⟨0, 1, 2, v1, [⟨true, 0, 5⟩]⟩, ⟨0, 3, 4, v2, [⟨true, 1, 5⟩]⟩]
def spH1 (v1 : Value) : List TxnV := [⟨0, 1, 2, v1, [⟨true, 0, 5⟩]⟩]
theorem spH_ok (v1 v2 : Value) : ∀ t ∈ spH v1 v2, t.ok := by
  intro t ht
  simp [spH] at ht
  rcases ht with rfl | rfl
  · refine ⟨⟨?_, ?_, ?_⟩, ?_⟩
    iterate 3 (simp [IntOk])
    intro o ho; simp at ho; subst ho; simp [OpV.ok, IntOk]
  · refine ⟨⟨?_, ?_, ?_⟩, ?_⟩
    iterate 3 (simp [IntOk])
    intro o ho; simp at ho; subst ho; simp [OpV.ok, IntOk]
theorem spH_short (v1 v2 : Value) : Short (spH v1 v2) := by
  intro t ht
  simp [spH] at ht
  rcases ht with rfl | rfl <;> simp
theorem spH_check (v1 v2 : Value) : checkI (spH v1 v2) = 2 := by rfl
theorem spH1_check (v1 : Value) : checkI (spH1 v1) = 0 := by rfl
theorem spH_ops (v1 v2 : Value) : opsN (spH v1 v2) = 2 := by rfl
theorem spH1_okW (v1 : Value) : okW (spH1 v1) = true := by rfl
theorem spH1_wr (v1 : Value) : wrTo (spH1 v1) 1 5 = some ⟨0, 0, true⟩ := by rfl
theorem spH1_in (v1 : Value) : ∀ t ∈ spH1 v1, t ∈ spH v1 v1 := by intro t ht; simp [spH1] at ht; subst ht; simp [spH]
theorem eqlW (i k : Int) (b : Bool) (i' k' : Int) (b' : Bool) (w : World) : Sem.run Try.prog (binOp .eql 69 (.agg #[.int .i64 i, .int .i64 k, .bool b]) (.agg #[.int .i64 i', .int .i64 k', .bool b'])) w = .ok (.bool (i == i' && (k == k' && b == b'))) w := by
  have hS : Try.prog.underlying 69 = some (.struct (Try.prog.fieldsOf 69)) := by kernel_rfl
  have hp : Try.prog.stoodInHeld 69 = false := by kernel_rfl
  have u3 := Try.underlying3
  have u4 := Try.underlying4
  rw [run_eql_struct, show (10000 : Nat) = 9999 + 1 from rfl, run_equalIn_agg w 9999 69 _ _ hS hp]
  simp only [Program.fieldsOf, Try.underlying69]
  go_simp
  by_cases h1 : i = i' <;> by_cases h2 : k = k' <;> cases b <;> cases b' <;> simp [h1, h2]
theorem guardW (o : BinOp) (x y : Operand) (i k b i' k' b') (w : World) : Sem.run Try.prog (eqGuard o 69 x y (.agg #[.int .i64 i, .int .i64 k, .bool b]) (.agg #[.int .i64 i', .int .i64 k', .bool b'])) w = .ok () w :=
  run_eqGuard_agg w o 69 x y _ _ (by kernel_rfl)
theorem Row.take {w : World} {ao : Option Addr} {n size cap : Nat} {cs : List Value} (h : Row w (.slice ao n cap) n size cs) {k : Nat} (hk : k ≤ n) : Row w (.slice ao k cap) k size (cs.take (k * size)) := by
  obtain ⟨hl, ao', cap', he, hm, hno, hc⟩ := h
  obtain ⟨rfl, rfl⟩ : ao = ao' ∧ cap = cap' := by simpa using he
  have hks : k * size ≤ n * size := Nat.mul_le_mul_right _ hk
  refine ⟨by rw [List.length_take]; omega, ao, cap, rfl, ⟨by omega, hm.2⟩, fun h0 => ⟨by have := hno h0; omega, (hno h0).2⟩, fun h0 => ?_⟩
  obtain ⟨b, off, hb, hcell⟩ := hc (by omega)
  exact ⟨b, off, hb, fun i hi => by rw [hcell i (by omega), List.getElem?_take, if_pos hi]⟩
theorem txV_take : ∀ (h : List TxnV) (k : Nat), txV (h.take k) = (txV h).take (k * 4)
  | [], _ => by simp [txV]
  | t :: h, 0 => by simp [txV]
  | t :: h, k + 1 => by
    have := txV_take h k
    have e : (k + 1) * 4 = k * 4 + 1 + 1 + 1 + 1 := by omega
    unfold txV at this ⊢
    rw [e, List.take_succ_cons, List.flatMap_cons, List.flatMap_cons, this]
    simp
theorem Txns.take {w : World} {ao : Option Addr} {n cap : Nat} {h : List TxnV} (hT : Txns w (.slice ao n cap) h) {k : Nat} (hk : k ≤ h.length) : Txns w (.slice ao k cap) (h.take k) := by
  obtain ⟨hR, hO⟩ := hT
  have hn : n = h.length := by obtain ⟨_, ao', cap', he, _⟩ := hR; simp at he; exact he.2.1
  subst hn
  have hl : (h.take k).length = k := by rw [List.length_take]; omega
  refine ⟨?_, fun t ht => hO t (List.mem_of_mem_take ht)⟩
  rw [hl, txV_take]; exact hR.take hk
set_option maxHeartbeats 8000000 in
theorem speaks6_any (w : World) :
    Calls Try.prog 7 #[] w fun e w' => e = .returned (.bool true) ∧ Below w.heap.size w w' := by
  have C1 := fun (wx : World) => Lib.hid (write_op 0 5 wx)
  have C2 := fun (wx : World) => Lib.hid (write_op 1 5 wx)
  go_enter Try.func7, Try.ntmps7
  go_wp2_with fail
  refine ((C1 w).out).mono ?_
  rintro e w1 ⟨rfl, hb1⟩
  go_wp2_with fail
  refine ((C2 _).out).mono ?_
  rintro e w2 ⟨rfl, hb2⟩
  clear C1 C2
  have hbx := below_then (hb1.alloc hb1.size (.cells #[.bool true, .int .i64 0, .int .i64 5] 31)) hb2
  have hb3 := (hbx.alloc hbx.size (.cells #[.bool true, .int .i64 1, .int .i64 5] 31)).alloc (by simp; exact Nat.le_succ_of_le hbx.size) (.cells #[.int .i64 0, .int .i64 1, .int .i64 2, .slice (some ⟨w1.heap.size, 0, none⟩) 1 1, .int .i64 0, .int .i64 3, .int .i64 4, .slice (some ⟨w2.heap.size, 0, none⟩) 1 1] 29)
  have hO1 : Ops _ (.slice (some ⟨w1.heap.size, 0, none⟩) 1 1) [⟨true, 0, 5⟩] := ((Row.of_owns (World.ownsRow_lit (base := 0) (e := 31) (size := 3) w1 #[.bool true, .int .i64 0, .int .i64 5] 1 (Nat.zero_le _) (by decide) rfl)).below hb2).below (box_below w2 (.cells #[.bool true, .int .i64 1, .int .i64 5] 31))
  have hO2 : Ops _ (.slice (some ⟨w2.heap.size, 0, none⟩) 1 1) [⟨true, 1, 5⟩] := Row.of_owns (World.ownsRow_lit (base := 0) (e := 31) (size := 3) w2 #[.bool true, .int .i64 1, .int .i64 5] 1 (Nat.zero_le _) (by decide) rfl)
  have hR : Row _ _ 2 4 _ := Row.of_owns (World.ownsRow_lit (base := 0) (e := 29) (size := 4) (w2.alloc (.cells #[.bool true, .int .i64 1, .int .i64 5] 31)) #[.int .i64 0, .int .i64 1, .int .i64 2, .slice (some ⟨w1.heap.size, 0, none⟩) 1 1, .int .i64 0, .int .i64 3, .int .i64 4, .slice (some ⟨w2.heap.size, 0, none⟩) 1 1] 2 (Nat.zero_le _) (by decide) rfl)
  have hO1 := hO1.below (box_below _ (.cells #[.int .i64 0, .int .i64 1, .int .i64 2, .slice (some ⟨w1.heap.size, 0, none⟩) 1 1, .int .i64 0, .int .i64 3, .int .i64 4, .slice (some ⟨w2.heap.size, 0, none⟩) 1 1] 29))
  have hO2 := hO2.below (box_below _ (.cells #[.int .i64 0, .int .i64 1, .int .i64 2, .slice (some ⟨w1.heap.size, 0, none⟩) 1 1, .int .i64 0, .int .i64 3, .int .i64 4, .slice (some ⟨w2.heap.size, 0, none⟩) 1 1] 29))
  rw [show (w2.alloc (.cells #[.bool true, .int .i64 1, .int .i64 5] 31)).heap.size = w2.heap.size + 1 from by simp] at hR
  go_wp2_with fail
  generalize (w2.alloc (.cells #[.bool true, .int .i64 1, .int .i64 5] 31)).alloc (.cells #[.int .i64 0, .int .i64 1, .int .i64 2, .slice (some ⟨w1.heap.size, 0, none⟩) 1 1, .int .i64 0, .int .i64 3, .int .i64 4, .slice (some ⟨w2.heap.size, 0, none⟩) 1 1] 29) = w3 at *
  generalize w1.heap.size = a1 at *
  generalize w2.heap.size = a2 at *
  have hT : Txns w3 (.slice (some ⟨a2 + 1, 0, none⟩) 2 2) (spH (.slice (some ⟨a1, 0, none⟩) 1 1) (.slice (some ⟨a2, 0, none⟩) 1 1)) := ⟨hR, fun t ht => by
    simp [spH] at ht
    rcases ht with rfl | rfl
    · exact hO1
    · exact hO2⟩
  have hT1 : Txns w3 (.slice (some ⟨a2 + 1, 0, none⟩) 1 2) (spH1 (.slice (some ⟨a1, 0, none⟩) 1 1)) := hT.take (k := 1) (by simp [spH])
  have HT := Lib.hid (fun wx (hx : Below w3.heap.size w3 wx) => hT.below hx)
  have HT1 := Lib.hid (fun wx (hx : Below w3.heap.size w3 wx) => hT1.below hx)
  clear hT hR hO1 hO2 hb1 hb2 hbx
  refine (hwrites_any _ _ _ hT1 (fun t ht => spH_ok (.slice (some ⟨a1, 0, none⟩) 1 1) (.slice (some ⟨a2, 0, none⟩) 1 1) t (by simp [spH1] at ht; subst ht; simp [spH])) (fun t ht => by simp [spH1] at ht; subst ht; simp [keysIn]) (show (1 : Nat) ≤ 100000 by omega) (show (1 : Nat) ≤ 100000 by omega)).mono ?_
  rintro e w4 ⟨hb4, ⟨hno, _⟩ | ⟨_, b, n, rfl, hbb, hM⟩⟩
  · cases hno
  have hM : MapI eW Try.prog 3 w4 b n (wrTo (spH1 (.slice (some ⟨a1, 0, none⟩) 1 1)) 1) 1 := hM
  clear hT1
  have G := guardW
  have E := eqlW
  go_wp2_with fail
  refine (hcheck_any _ _ _ (HT.out _ hb4) (spH_ok _ _) (spH_short _ _)).mono ?_
  rintro e w5 ⟨rfl, hb5⟩
  rw [spH_check]
  have hb5' := below_then hb4 hb5
  go_wp2_with fail
  refine (hcheck_any _ _ _ (HT1.out _ hb5') (fun t ht => spH_ok (.slice (some ⟨a1, 0, none⟩) 1 1) (.slice (some ⟨a2, 0, none⟩) 1 1) t (by simp [spH1] at ht; subst ht; simp [spH])) (fun t ht => spH_short (.slice (some ⟨a1, 0, none⟩) 1 1) (.slice (some ⟨a2, 0, none⟩) 1 1) t (by simp [spH1] at ht; subst ht; simp [spH]))).mono ?_
  rintro e w6 ⟨rfl, hb6⟩
  rw [spH1_check]
  have hb6' := below_then hb5' hb6
  have hM6 := (hM.below hb5).below hb6
  have hk5 : InI 5 := by decide
  clear hM hb5 hb6 hb5'
  obtain ⟨D, hD, hDs, _⟩ := id hM6
  have HL := fun ty => hD.len mapIW ty
  rw [hDs] at HL
  have HK := lookI_run (t := 64) (el := 69) (w := w6) false keyI mapIW wZ (zeroW _) hM6 hk5
  rw [spH1_wr] at HK
  simp only [Bool.false_eq_true, if_false, Option.getD_some, eW] at HK
  clear hD hDs
  go_wp2_with fail
  refine (hops_any _ _ _ (HT.out _ hb6') (show (2 : Nat) ≤ 4611686018427387904 by omega)).mono ?_
  rintro e w7 ⟨rfl, hb7⟩
  rw [spH_ops]
  have hb7' := below_then hb3 (below_then hb6' hb7)
  clear HK HL G E hM6 hb6' hb7 hb4 HT HT1 hb3
  go_wp2_with fail
  go_ret
  exact ⟨rfl, hb7'⟩
end Go.Proofs.Ytlkdojcimlfmdaa
