/- Walks: Cycle. Conditions: a relation's array is the one of a table of yes and no; First's library table lies where it is laid. -/
import Derived.Test.YtjfegknokombgaaDoorRelK
namespace Go.Proofs.YtjfegknokombgaaDoor
set_option maxRecDepth 100000
open Go.RowKit

def lenV : Value → Nat
  | .slice _ n _ => n
  | _ => 0
theorem getD_at (l : List Nat) (i : Nat) (h : i < l.length) : l.getD i 0 = l[i] := by simp [List.getD, h]
/-- Each number of a list stands to the next one. -/
def Edges (R : Mat) (l : List Nat) : Prop := ∀ i, i + 1 < l.length → R (l.getD i 0) (l.getD (i + 1) 0) = true
/-- Numbers below 64, no two alike, each of which stands to the next one, and the last one to the first. -/
def CycOK (R : Mat) (C : List Nat) : Prop := C ≠ [] ∧ C.Nodup ∧ (∀ x ∈ C, x < 64) ∧ ∀ i, i < C.length → R (C.getD i 0) (C.getD ((i + 1) % C.length) 0) = true
def CycRes (R : Mat) (C : List Nat) : Prop := (C = [] ∧ acy R = true) ∨ (CycOK R C ∧ acy R = false)
theorem acy_of_zero {R : Mat} (h : EndInv R 0) : acy R = true := by
  rw [acy_iff]
  intro i hi hp
  have := h.all (fun x => x < 64 ∧ Path R x x) (fun a ha => by
    refine ⟨ha.1, ?_⟩
    obtain ⟨h1, h2⟩ := ha
    cases h2 with
    | one h => exact ⟨a, ⟨h1, .one h⟩, h⟩
    | more hm hlt hrest => exact ⟨_, ⟨hlt, hrest.trans h1 (.one hm)⟩, hm⟩) i ⟨hi, hp⟩
  rw [lst_zero] at this
  cases this
theorem cyc_path {R : Mat} {C : List Nat} (h : CycOK R C) : ∀ i, i < C.length → i = 0 ∨ Path R (C.getD 0 0) (C.getD i 0) := by
  obtain ⟨h0, _, hlt, hstep⟩ := h
  intro i
  induction i with
  | zero => intro _; exact .inl rfl
  | succ i ih =>
    intro hi
    have hs := hstep i (by omega)
    rw [Nat.mod_eq_of_lt hi] at hs
    rcases ih (by omega) with rfl | hp
    · exact .inr (.one hs)
    · refine .inr (hp.trans (hlt _ ?_) (.one hs))
      rw [getD_at _ _ (by omega)]; exact List.getElem_mem _
theorem not_acy {R : Mat} {C : List Nat} (h : CycOK R C) : acy R = false := by
  cases he : acy R
  · rfl
  · exfalso
    rw [acy_iff] at he
    have hpos : 0 < C.length := List.length_pos_iff.2 h.1
    have hlast := h.2.2.2 (C.length - 1) (by omega)
    rw [show C.length - 1 + 1 = C.length from by omega, Nat.mod_self] at hlast
    have hm : ∀ i, i < C.length → C.getD i 0 < 64 := fun i hi => h.2.2.1 _ (by rw [getD_at _ _ hi]; exact List.getElem_mem _)
    apply he (C.getD 0 0) (hm 0 hpos)
    rcases cyc_path h (C.length - 1) (by omega) with e | hp
    · rw [e] at hlast; exact .one hlast
    · exact hp.trans (hm _ (by omega)) (.one hlast)
/-- The row that one has gone, and where one stands. -/
structure GoOK (R : Mat) (E : Nat) (Q : List Nat) (n : Nat) : Prop where
  nodup : Q.Nodup
  mem : ∀ x ∈ Q, x ∈ lst E
  at_ : n ∈ lst E
  edges : Edges R (Q ++ [n])
theorem GoOK.len {R : Mat} {E : Nat} {Q : List Nat} {n : Nat} (h : GoOK R E Q n) : Q.length ≤ 64 := by
  have := nodup_le Q (lst E) h.nodup h.mem
  have := lstTo_len E 64
  have : (lst E).length ≤ 64 := this
  omega
theorem GoOK.len2 {R : Mat} {E : Nat} {Q : List Nat} {n : Nat} (h : GoOK R E Q n) (hn : n ∉ Q) : Q.length < 64 := by
  have := nodup_le (n :: Q) (lst E) (List.nodup_cons.2 ⟨hn, h.nodup⟩) (fun x hx => by
    rcases List.mem_cons.1 hx with rfl | hx
    · exact h.at_
    · exact h.mem x hx)
  have h2 : (lst E).length ≤ 64 := lstTo_len E 64
  rw [List.length_cons] at this; omega
theorem GoOK.next {R : Mat} {E : Nat} {Q : List Nat} {n m : Nat} (h : GoOK R E Q n) (hn : n ∉ Q) (hm : m ∈ lst E) (hR : R n m = true) : GoOK R E (Q ++ [n]) m where
  nodup := by
    rw [List.nodup_append]
    exact ⟨h.nodup, by simp, fun x hx y hy => by simp at hy; subst hy; rintro rfl; exact hn hx⟩
  mem := fun x hx => by
    rcases List.mem_append.1 hx with hx | hx
    · exact h.mem x hx
    · simp at hx; subst hx; exact h.at_
  at_ := hm
  edges := by
    intro i hi
    have hlen : (Q ++ [n] ++ [m]).length = Q.length + 2 := by simp
    by_cases hi2 : i + 1 < (Q ++ [n]).length
    · have := h.edges i hi2
      have e1 : (Q ++ [n] ++ [m]).getD i 0 = (Q ++ [n]).getD i 0 := by
        rw [getD_at _ _ (by omega), getD_at _ _ (by omega), List.getElem_append_left]
      have e2 : (Q ++ [n] ++ [m]).getD (i + 1) 0 = (Q ++ [n]).getD (i + 1) 0 := by
        rw [getD_at _ _ (by omega), getD_at _ _ (by omega), List.getElem_append_left]
      rw [e1, e2]; exact this
    · have hi3 : i = Q.length := by simp at hi2 hi; omega
      subst hi3
      have e1 : (Q ++ [n] ++ [m]).getD Q.length 0 = n := by simp [List.getD]
      have e2 : (Q ++ [n] ++ [m]).getD (Q.length + 1) 0 = m := by simp [List.getD]
      rw [e1, e2]; exact hR
theorem GoOK.cyc {R : Mat} {E : Nat} {Q : List Nat} {n k : Nat} (h : GoOK R E Q n) (hk : k < Q.length) (hn : Q[k] = n) : CycOK R (Q.drop k) := by
  refine ⟨?_, ?_, ?_, ?_⟩
  · intro e; have := congrArg List.length e; simp at this; omega
  · exact h.nodup.sublist (List.drop_sublist k Q)
  · intro x hx; exact (mem_lst.1 (h.mem x (List.mem_of_mem_drop hx))).1
  · intro i hi
    have hlen : (Q.drop k).length = Q.length - k := by simp
    rw [hlen] at hi ⊢
    have hedge := h.edges (k + i) (by simp; omega)
    have e1 : (Q.drop k).getD i 0 = (Q ++ [n]).getD (k + i) 0 := by
      rw [getD_at _ _ (by omega), getD_at _ _ (by simp; omega), List.getElem_append_left (by omega), List.getElem_drop]
    rw [e1]
    by_cases hlast : i + 1 < Q.length - k
    · rw [Nat.mod_eq_of_lt hlast]
      have e2 : (Q.drop k).getD (i + 1) 0 = (Q ++ [n]).getD (k + i + 1) 0 := by
        rw [getD_at _ _ (by omega), getD_at _ _ (by simp; omega), List.getElem_append_left (by omega), List.getElem_drop]
        rfl
      rw [e2]; exact hedge
    · have hi2 : i + 1 = Q.length - k := by omega
      rw [hi2, Nat.mod_self]
      have e2 : (Q.drop k).getD 0 0 = (Q ++ [n]).getD (k + i + 1) 0 := by
        rw [getD_at _ _ (by omega), List.getElem_drop]
        rw [show k + i + 1 = Q.length from by omega]
        simp [List.getD, hn]
      rw [e2]; exact hedge

theorem owns_some {w : World} {base : Nat} {e : TypeId} {size : Nat} {v : Value} {n : Nat} {cs : List Value} (h : w.ownsRow base e size v n cs) (hn : 0 < n) :
    ∃ g cap, v = .slice (some ⟨g, 0, none⟩) n cap ∧ n ≤ cap ∧ cap ≤ 9223372036854775807 := by
  rcases h.2 with ⟨_, rfl⟩ | ⟨g, cap, cur, rfl, _, _, hc, hm, _, _⟩
  · omega
  · exact ⟨g, cap, rfl, hc, hm⟩
theorem owns_lenV {w : World} {base : Nat} {e : TypeId} {size : Nat} {v : Value} {n : Nat} {cs : List Value} (h : w.ownsRow base e size v n cs) : lenV v = n := by
  rcases h.2 with ⟨rfl, rfl⟩ | ⟨g, cap, cur, rfl, _⟩ <;> rfl
theorem Ints.drop {w : World} {g n cap : Nat} {l : List Int} (h : Ints w (.slice (some ⟨g, 0, none⟩) n cap) l) (k : Nat) (hk : k < l.length) :
    Ints w (.slice (some ⟨g, k, none⟩) (l.length - k) (cap - k)) (l.drop k) := by
  have hlen : (l.drop k).length = l.length - k := by simp
  obtain ⟨_, ao, cap', he, hm, _, hc⟩ := h
  obtain ⟨rfl, rfl, rfl⟩ : some (⟨g, 0, none⟩ : Addr) = ao ∧ n = l.length ∧ cap = cap' := by simpa using he
  refine ⟨by simp, some ⟨g, k, none⟩, cap - k, by rw [hlen], by rw [hlen]; unfold maxLen at *; omega, (fun h => by cases h), fun _ => ⟨g, k, rfl, fun i hi => ?_⟩⟩
  obtain ⟨b, off, he2, hcell⟩ := hc (by omega)
  obtain ⟨rfl, rfl⟩ : g = b ∧ 0 = off := by simpa using he2
  have := hcell (k + i) (by omega)
  rw [Nat.zero_add] at this
  rw [this, List.map_drop, List.getElem?_drop]
theorem fst_and {R : Mat} {E n : Nat} (hE : IsSet E) (h : ∃ b ∈ lst E, R n b = true) : fst (mkS (R n) &&& E) ∈ lst E ∧ R n (fst (mkS (R n) &&& E)) = true := by
  obtain ⟨b, hb, hR⟩ := h
  have hset : IsSet (mkS (R n) &&& E) := isSet_and (isSet_mkS _)
  have hne : lst (mkS (R n) &&& E) ≠ [] := by
    intro e
    have he := emp_yes (R := R) hb hR
    unfold emp at he
    rw [lst_nil hset e] at he
    cases he
  have hm := mem_lst.1 (fst_mem hne)
  rw [Nat.testBit_and, testBit_mkS, Bool.and_eq_true, Bool.and_eq_true] at hm
  exact ⟨(mem_lst' hE).2 hm.2.2, hm.2.1.2⟩
theorem hasB_lst {E n : Nat} (h : n ∈ lst E) : hasB E (n : Int) = true := by
  obtain ⟨h1, h2⟩ := mem_lst.1 h
  unfold hasB
  have h3 : 0 ≤ (n : Int) ∧ (n : Int) < 64 := by omega
  simp [h3, h2]
def CycPost (R : Mat) (W : World) (e : Ending) (w' : World) : Prop := ∃ v C, e = .returned v ∧ Ints w' v (C.map Int.ofNat) ∧ CycRes R C ∧ Below W.heap.size W w'
set_option maxHeartbeats 4000000 in
theorem cycle_any (R : Mat) (w : World) (ht : Tab w) :
    Calls Tryd.prog 39 #[.agg (rowsA R)] w fun e w' => CycPost R w e w' := by
  obtain ⟨i0, hi, hz0, hz1, hz2⟩ := info_parts infoInt
  have hg := ht.pos
  have HT : Hid (∀ wx, Below w.heap.size w wx → Tab wx) := Lib.hid (fun wx hb => ht.below hb hg)
  clear ht
  have HB0 : Below w.heap.size w (w.alloc (.cells (rowsA R) 27)) := (Below.refl w.heap.size w).alloc (Nat.le_refl _) _
  have HR0 := RelAt.new w 27 R
  have CE := Lib.hid (endless_any R _ (HT.out _ HB0))
  go_enter Tryd.func39, Tryd.ntmps39
  go_wp2_with (with_reducible refine wpList_load_rel HR0 rfl _ rfl rfl ?_)
  refine (CE.out).mono ?_
  rintro e w1 ⟨E, rfl, ⟨hinv, hsucc⟩, hb1⟩
  have hbb : Below w.heap.size w w1 := HB0.trans (hb1.mono (by simp))
  have hr1 := HR0.below hb1 HR0.lt
  have HI := Lib.hid hinv
  have HS := Lib.hid hsucc
  have hE : IsSet E := hinv.set
  clear hinv hsucc hb1 HB0 HR0 CE
  have hT1 := Lib.hid (HT.out _ hbb)
  rcases Nat.eq_zero_or_pos E with h0 | h0
  · subst h0
    have HA := Lib.hid (acy_of_zero HI.out)
    have C0 := first_any 0 w1 hE hT1.out
    rw [fst_zero] at C0
    have C0' : Hid (Calls Tryd.prog 63 #[.int .u64 0] w1 fun e w' => e = .returned (.int .i64 64) ∧ w1 = w') := Lib.hid C0
    have C1' : Hid (Calls Tryd.prog 61 #[.int .u64 0, .int .i64 64] w1 fun e w' => e = .returned (.bool false) ∧ w1 = w') := Lib.hid (has_any 0 64 w1 hE)
    clear C0
    go_wp2_with (go_at_call 63; refine (C0'.out).mono ?_; rintro e w' ⟨rfl, rfl⟩)
    refine wp_loop_rounds 1 ?_
    rw [rounds_succ]
    go_wp2_with (go_at_call 61; refine (C1'.out).mono ?_; rintro e w' ⟨rfl, rfl⟩)
    go_ret
    exact ⟨_, [], rfl, Ints.of_owns (base := 0) (e := 3) (World.ownsRow_nil _ _ _ _), .inl ⟨rfl, HA.out⟩, hbb⟩
  · have hne := lst_ne hE h0
    have HG0 : Hid (GoOK R E [] (fst E)) := Lib.hid ⟨by simp, by simp, fst_mem hne, by intro i hi; simp at hi⟩
    clear hne
    go_wp2_with (go_at_call 63; refine (first_any E _ hE hT1.out).mono ?_; rintro e w' ⟨rfl, rfl⟩)
    go_loopw [4, 5] (fun x v wr => ∃ (Q : List Nat) (n : Nat), v = .int .i64 (n : Int) ∧ Hid (GoOK R E Q n) ∧ Hid (Q.length ≤ 64) ∧ wr.ownsRow (w.heap.size + 1) 3 1 x Q.length (Q.map fun i : Nat => Value.int .i64 (i : Int)) ∧ RelAt wr w.heap.size 27 R ∧ Below w.heap.size w wr)
      (fun x _ _ => 65 - lenV x)
    case atStart => exact ⟨[], fst E, rfl, HG0, Lib.hid (by simp), World.ownsRow_nil _ _ _ _, hr1, hbb⟩
    case round =>
      obtain ⟨Q, n, rfl, hgo, hql, hown, hr, hb⟩ := hrel
      have hq64 := hql.out
      have hn64 : n < 64 := (mem_lst.1 hgo.out.at_).1
      have CH : Hid (∀ wx, Calls Tryd.prog 61 #[.int .u64 (E : Int), .int .i64 (n : Int)] wx fun e w' => e = .returned (.bool true) ∧ wx = w') := Lib.hid (fun wx => by
        have h := has_any E (n : Int) wx hE
        rwa [hasB_lst hgo.out.at_] at h)
      have CI := Lib.hid (index_any _ (Q.map Int.ofNat) (n : Int) _ (Ints.of_nats hown))
      go_wp2_with (go_at_call 61; refine (CH.out _).mono ?_; rintro e w' ⟨rfl, rfl⟩)
      refine (CI.out).mono ?_
      rintro e w' ⟨hres, rfl⟩
      rcases hres with ⟨k, hk, hkn, rfl⟩ | ⟨hno, rfl⟩
      · have hk' : k < Q.length := by simpa using hk
        obtain ⟨g, cap, rfl, hnc, hcm⟩ := owns_some hown (by omega)
        have HC : Hid (CycOK R (Q.drop k)) := Lib.hid (hgo.out.cyc hk' (by
          rw [List.getElem_map] at hkn
          have : ((Q[k] : Nat) : Int) = (n : Int) := hkn
          omega))
        have HD := Lib.hid ((Ints.of_nats hown).drop k hk)
        have hck : ¬ cap = k := by omega
        clear hkn hk hown CI CH
        go_wp2_with fail
        go_ret
        refine ⟨_, Q.drop k, rfl, ?_, .inr ⟨HC.out, not_acy HC.out⟩, hb⟩
        rw [List.map_drop]
        have := HD.out
        rw [List.length_map] at this
        simpa using this
      · have hnq : n ∉ Q := fun h => hno (List.mem_map.2 ⟨n, h, rfl⟩)
        have hlt := hgo.out.len2 hnq
        obtain ⟨hm1, hm2⟩ := fst_and (R := R) (n := n) hE (HS.out n hgo.out.at_)
        have HN := Lib.hid (hgo.out.next hnq hm1 hm2)
        have hcell := hr.cell hn64
        have HA := Lib.hid (Go.bits_and_u64_nat (mkS (R n)) E (isSet_mkS _) hE)
        have hA := HA.out
        have hset : IsSet (mkS (R n) &&& E) := isSet_and (isSet_mkS _)
        have hni : (n : Int) < 64 := by omega
        have HL0 := Lib.hid (owns_lenV hown)
        clear hno hnq hm1 hm2 CI CH HA
        have hszr := hr.lt
        generalize mkS (R n) = rn at *
        generalize rn &&& E = z at *
        go_wp2_with (at_builtin; refine wpList_append_own _ rfl _ _ 30 rfl (w.heap.size + 1) 3 i0 (.int .i64 0) 1 8 Tryd.underlying30 hi hz0 hz1 hz2 rfl (by decide) _ _ _ rfl (hown.alloc _) ⟨_, 0, none⟩ 1 1 [.int .i64 (n : Int)] rfl rfl ?c1 ?c2 ?c3 ?c4 ?c5 ?_)
        case c1 => exact cell_one_new _ _ _
        case c2 => intro u hu; simp at hu; subst hu; rfl
        case c3 => unfold maxLen; omega
        case c4 => omega
        case c5 => simp; omega
        intro v3 w3 hown3 hg3 _
        have hb3 : Below (w.heap.size + 1) wr w3 := below_app (Below.refl _ _) hr.lt hown hg3
        have hr3 := hr.below hb3 (by omega)
        have hb4 := hb.trans (hb3.mono (by omega))
        have hcell3 := (hb3.cell (p := ⟨w.heap.size, n, none⟩) (by simp)).trans hcell
        have hT3 := Lib.hid (HT.out _ hb4)
        clear hown hg3 hb3 hr hb hcell
        go_wp2_with (go_at_call 63; refine (first_any z _ hset hT3.out).mono ?_; rintro e w' ⟨rfl, rfl⟩)
        go_roundw
        case rel => exact ⟨Q ++ [n], fst z, rfl, HN, Lib.hid (by simp; omega), by simpa using hown3, hr3, hb4⟩
        case measure => have h1 := HL0.out; have h2 := owns_lenV hown3; simp; omega
end Go.Proofs.YtjfegknokombgaaDoor
