/- Walks: endless, the library's Index. Conditions: a relation's array is the one of a table of yes and no; First's library table lies where it is laid; slices' cells are known. -/
import Derived.Test.YtjfegknokombgaaDoorRelJ
import Derived.Test.YtjfegknokombgaaDoorRelP
namespace Go.Proofs.YtjfegknokombgaaDoor
set_option maxRecDepth 100000
open Go.RowKit

def IdxRes (l : List Int) (n : Int) (e : Ending) : Prop := (∃ (k : Nat) (hk : k < l.length), l[k] = n ∧ e = .returned (.int .i64 (k : Int))) ∨ (n ∉ l ∧ e = .returned (.int .i64 (-1)))
set_option maxHeartbeats 1000000 in
theorem index_any (v : Value) (l : List Int) (n : Int) (w : World) (hv : Ints w v l) :
    Calls Tryd.prog 64 #[v, .int .i64 n] w fun e w' => IdxRes l n e ∧ w = w' := by
  obtain ⟨ao, cap, rfl, hlen⟩ := hv.form
  go_enter Tryd.func64, Tryd.ntmps64
  go_wp2
  go_loop [8] (fun i => ∃ k : Nat, k ≤ l.length ∧ i = .int .i64 k ∧ Hid (n ∉ l.take k)) (fun i => l.length - (intOf i).toNat)
  case atStart => exact ⟨0, Nat.zero_le _, rfl, Lib.hid (by simp)⟩
  case round =>
    obtain ⟨k, hk, rfl, hno⟩ := hrel
    by_cases hlt : k < l.length
    · obtain ⟨b, off, rfl, hc⟩ := hv.at hlt
      have HS : Hid (n ≠ l[k] → n ∉ l.take (k + 1)) := Lib.hid (fun h => by rw [List.take_succ_eq_append_getElem hlt, List.mem_append, List.mem_singleton]; exact fun h' => h'.elim hno.out h)
      have HE : Hid (∀ z, z = l[k] → n = z → ∃ (k' : Nat) (hk' : k' < l.length), l[k'] = n ∧ Ending.returned (Value.int .i64 (k : Int)) = .returned (.int .i64 (k' : Int))) := Lib.hid (fun z hz hn => ⟨k, hlt, by rw [← hz, hn], rfl⟩)
      obtain ⟨z, hz⟩ : ∃ z, z = l[k] := ⟨_, rfl⟩
      rw [← hz] at hc HS
      have HZ := Lib.hid hz
      clear hz
      by_cases hzn : n = z
      · have hz' : (n == z) = true := by simpa using hzn
        have HZN := Lib.hid hzn
        clear hzn
        go_wp2
        go_ret
        exact ⟨.inl (HE.out z HZ.out HZN.out), rfl⟩
      · have hz' : (n == z) = false := by simpa using hzn
        go_wp2
        go_round
        case rel => exact ⟨k + 1, by omega, by go_num, Lib.hid (HS.out hzn)⟩
        case measure => simp [intOf]; omega
    · have HX : Hid (n ∉ l) := Lib.hid (by have := hno.out; rwa [List.take_of_length_le (by omega)] at this)
      go_wp2
      go_ret
      exact ⟨.inr ⟨HX.out, rfl⟩, rfl⟩

/-- Does nothing of a set follow on a number? -/
def emp (R : Mat) (s i : Nat) : Bool := (mkS (R i) &&& s) == 0
theorem emp_no {R : Mat} {s i : Nat} (hs : IsSet s) (h : emp R s i = false) : ∃ j, j ∈ lst s ∧ R i j = true := by
  unfold emp at h
  rw [beq_eq_false_iff_ne] at h
  have hset : IsSet (mkS (R i) &&& s) := isSet_and (isSet_mkS _)
  have hne : lst (mkS (R i) &&& s) ≠ [] := fun e => h (lst_nil hset e)
  have hm := mem_lst.1 (fst_mem hne)
  rw [Nat.testBit_and, testBit_mkS, Bool.and_eq_true, Bool.and_eq_true] at hm
  exact ⟨_, (mem_lst' hs).2 hm.2.2, hm.2.1.2⟩
theorem emp_yes {R : Mat} {s i j : Nat} (hj : j ∈ lst s) (h : R i j = true) : emp R s i = false := by
  unfold emp
  rw [beq_eq_false_iff_ne]
  intro e
  have hj' := mem_lst.1 hj
  have := congrArg (fun x => Nat.testBit x j) e
  simp [Nat.testBit_and, testBit_mkS, hj'.1, hj'.2, h] at this
/-- A set each of whose numbers stands to one of it. -/
def Suff (R : Mat) (F : Nat → Prop) : Prop := ∀ a, F a → a < 64 ∧ ∃ b, F b ∧ R a b = true
structure EndInv (R : Mat) (s : Nat) : Prop where
  set : IsSet s
  all : ∀ F, Suff R F → ∀ a, F a → a ∈ lst s
/-- One round done for the first k numbers. -/
def NxTo (R : Mat) (s : Nat) (k : Nat) (x : Nat) : Prop := IsSet x ∧ ∀ i, x.testBit i = (s.testBit i && !(((lst s).take k).contains i && emp R s i))
theorem nxTo_start {R : Mat} {s : Nat} (h : IsSet s) : NxTo R s 0 s := ⟨h, fun i => by simp⟩
theorem nxTo_miss {R : Mat} {s k x : Nat} (h : NxTo R s k x) (hk : k < (lst s).length) (he : emp R s (lst s)[k] = false) : NxTo R s (k + 1) x := by
  refine ⟨h.1, fun i => ?_⟩
  rw [h.2 i, any_take _ _ hk]
  by_cases e : i = (lst s)[k]
  · rw [e, he]; simp
  · simp [e]
theorem nxTo_hit {R : Mat} {s k x : Nat} (h : NxTo R s k x) (hk : k < (lst s).length) (he : emp R s (lst s)[k] = true) : NxTo R s (k + 1) (woS x ((lst s)[k] : Int)) := by
  refine ⟨isSet_woS h.1, fun i => ?_⟩
  have hlt := lst_lt hk
  rw [testBit_woS, h.2 i, any_take _ _ hk]
  have h3 : 0 ≤ (((lst s)[k] : Nat) : Int) ∧ (((lst s)[k] : Nat) : Int) < 64 := by omega
  simp only [h3, decide_true, Bool.true_and, and_self, Int.toNat_natCast]
  by_cases e : i = (lst s)[k]
  · rw [e, he]; simp
  · have e' : ¬ (lst s)[k] = i := fun h => e h.symm
    simp [e, e']
theorem nxTo_end {R : Mat} {s x : Nat} (hs : IsSet s) (h : NxTo R s (lst s).length x) (i : Nat) : x.testBit i = (s.testBit i && !emp R s i) := by
  rw [h.2 i, List.take_length]
  cases hb : s.testBit i
  · simp
  · have : (lst s).contains i = true := by rw [List.contains_iff_mem]; exact (mem_lst' hs).2 hb
    rw [this]; simp
theorem EndInv.next {R : Mat} {s x : Nat} (h : EndInv R s) (hx : NxTo R s (lst s).length x) : EndInv R x where
  set := hx.1
  all := fun F hF a ha => by
    obtain ⟨hlt, b, hb, hab⟩ := hF a ha
    rw [mem_lst' hx.1, nxTo_end h.set hx, (mem_lst' h.set).1 (h.all F hF a ha), emp_yes (h.all F hF b hb) hab]; rfl
theorem EndInv.done {R : Mat} {s : Nat} (h : EndInv R s) (hx : NxTo R s (lst s).length s) : ∀ a ∈ lst s, ∃ b ∈ lst s, R a b = true := by
  intro a ha
  have hb := (mem_lst' h.set).1 ha
  have := nxTo_end h.set hx a
  rw [hb] at this
  simp at this
  exact emp_no h.set this
theorem nx_less {R : Mat} {s x : Nat} (hs : IsSet s) (hx : NxTo R s (lst s).length x) (hne : x ≠ s) : (lst x).length < (lst s).length := by
  by_cases hall : ∀ i ∈ lst s, i ∈ lst x
  · exfalso
    apply hne
    apply set_ext hx.1 hs
    intro i _
    have h1 := nxTo_end hs hx i
    rw [Bool.eq_iff_iff, ← mem_lst' hx.1, ← mem_lst' hs]
    constructor
    · intro h
      have := (mem_lst' hx.1).1 h
      rw [h1, Bool.and_eq_true] at this
      exact (mem_lst' hs).2 this.1
    · exact hall i
  · have ⟨i, hi⟩ := Classical.not_forall.1 hall
    obtain ⟨h1, h2⟩ : i ∈ lst s ∧ i ∉ lst x := by
      by_cases h : i ∈ lst s
      · exact ⟨h, fun h' => hi fun _ => h'⟩
      · exact absurd (fun h' => absurd h' h) hi
    have := nodup_le (i :: lst x) (lst s) (List.nodup_cons.2 ⟨h2, lst_nodup x⟩) (fun y hy => by
      rcases List.mem_cons.1 hy with rfl | hy
      · exact h1
      · have hb := (mem_lst' hx.1).1 hy
        rw [nxTo_end hs hx, Bool.and_eq_true] at hb
        exact (mem_lst' hs).2 hb.1)
    rw [List.length_cons] at this; omega
theorem below64 : belowS 64 = 18446744073709551615 := by decide
theorem endInv_start (R : Mat) : EndInv R 18446744073709551615 where
  set := by unfold IsSet; omega
  all := fun F hF a ha => by
    have hlt := (hF a ha).1
    rw [mem_lst]
    refine ⟨hlt, ?_⟩
    rw [show (18446744073709551615 : Nat) = 2 ^ 64 - 1 from by decide, Nat.testBit_two_pow_sub_one]; simp [hlt]
theorem sp_below64 (w : World) : Calls Tryd.prog 37 #[.int .i64 64] w fun e w' => e = .returned (.int .u64 ((18446744073709551615 : Nat) : Int)) ∧ w = w' := by
  have h := below_any 64 w
  rw [below64] at h
  exact h
def EndRes (R : Mat) (E : Nat) : Prop := EndInv R E ∧ ∀ a ∈ lst E, ∃ b ∈ lst E, R a b = true
set_option maxHeartbeats 4000000 in
theorem endless_any (R : Mat) (w : World) (ht : Tab w) :
    Calls Tryd.prog 62 #[.agg (rowsA R)] w fun e w' => ∃ E : Nat, e = .returned (.int .u64 (E : Int)) ∧ EndRes R E ∧ Below w.heap.size w w' := by
  have hg := ht.pos
  have HT : Hid (∀ wx, Below w.heap.size w wx → Tab wx) := Lib.hid (fun wx hb => ht.below hb hg)
  clear ht
  have HB0 : Below w.heap.size w (w.alloc (.cells (rowsA R) 27)) := (Below.refl w.heap.size w).alloc (Nat.le_refl _) _
  have HR0 := RelAt.new w 27 R
  go_enter Tryd.func62, Tryd.ntmps62
  go_wp2_with fail
  refine (sp_below64 _).mono ?_
  rintro e w' ⟨rfl, rfl⟩
  have HI0 := Lib.hid (endInv_start R)
  have H0 : Hid (IsSet 18446744073709551615) := Lib.hid (by unfold IsSet; omega)
  generalize (18446744073709551615 : Nat) = full at *
  go_wp2_with fail
  go_loopw [3] (fun v wr => ∃ s : Nat, v = .int .u64 (s : Int) ∧ EndInv R s ∧ RelAt wr w.heap.size 27 R ∧ Below w.heap.size w wr) (fun v _ => (lst (intOf v).toNat).length)
  case atStart => exact ⟨full, rfl, HI0.out, HR0, HB0⟩
  case round =>
    obtain ⟨s, rfl, hinv, hr, hb⟩ := hrel
    have HI := Lib.hid hinv
    have hs : IsSet s := hinv.set
    clear hinv
    go_wp2_with fail
    refine (list_any s _ hs (HT.out _ hb)).mono ?_
    rintro e w1 ⟨v, rfl, hown, hb1⟩
    have hlen' : (lst s).length ≤ 64 := lstTo_len s 64
    have hr1 := hr.below hb1 hr.lt
    have hbb := hb.trans (hb1.mono hb.size)
    have hIs := Ints.of_nats hown
    clear hown hb1 hb hr HR0 HB0
    obtain ⟨L, hL⟩ : ∃ L, L = lst s := ⟨_, rfl⟩
    have HL := Lib.hid hL
    have HLT : Hid (∀ (k : Nat) (hk : k < L.length), L[k] < 64) := Lib.hid (by subst hL; exact fun k hk => lst_lt hk)
    rw [← hL] at hIs hlen'
    clear hL
    obtain ⟨ao, cap, rfl, hml⟩ := hIs.form
    rw [List.length_map] at *
    go_wp2_with fail
    go_loop [4, 12] (fun x i => ∃ (k n : Nat), k ≤ L.length ∧ i = .int .i64 k ∧ x = .int .u64 (n : Int) ∧ Hid (NxTo R s k n)) (fun _ i => L.length - (intOf i).toNat)
    case atStart => exact ⟨0, s, by omega, rfl, rfl, Lib.hid (nxTo_start hs)⟩
    case round =>
      obtain ⟨k, n, hk, rfl, rfl, hnx⟩ := hrel
      by_cases hlk : k < L.length
      · obtain ⟨p, off, hao, hc⟩ := hIs.at (k := k) (by simpa using hlk)
        cases hao
        rw [List.getElem_map] at hc
        have hbl := HLT.out k hlk
        have hbi : (L[k] : Int) < 64 := by omega
        have hcb := hr1.cell hbl
        have hset := isSet_mkS (R L[k])
        have HM : Hid (emp R s L[k] = false → NxTo R s (k + 1) n) := Lib.hid (by have h := HL.out; subst h; exact nxTo_miss hnx.out hlk)
        have HH : Hid (emp R s L[k] = true → NxTo R s (k + 1) (woS n (L[k] : Int))) := Lib.hid (by have h := HL.out; subst h; exact nxTo_hit hnx.out hlk)
        have HA : Hid ((Go.bits .and .u64 ((mkS (R L[k]) : Nat) : Int) (s : Int) == 0) = emp R s L[k]) := Lib.hid (by
          unfold emp; rw [Go.bits_and_u64_nat _ _ hset hs, Bool.eq_iff_iff]; simp)
        have hns : IsSet n := hnx.out.1
        generalize L[k] = b at *
        change World.cell? _ ⟨p, off + k, none⟩ = some (.int .i64 (b : Int)) at hc
        have hA := HA.out
        generalize mkS (R b) = rb at *
        cases he : emp R s b
        · have HX := Lib.hid (HM.out he)
          rw [he] at hA
          clear he HM HH HA
          go_wp2_with fail
          go_round
          case rel => exact ⟨k + 1, n, by omega, by go_num, rfl, HX⟩
          case measure => simp [intOf]; omega
        · have HX := Lib.hid (HH.out he)
          rw [he] at hA
          clear he HM HH HA
          go_wp2_with (go_at_call 52; refine (wo_any n _ _ hns).mono ?_; rintro e w' ⟨rfl, rfl⟩)
          go_round
          case rel => exact ⟨k + 1, _, by omega, by go_num, rfl, HX⟩
          case measure => simp [intOf]; omega
      · have HX : Hid (NxTo R s (lst s).length n) := Lib.hid (by
          have h := HL.out
          subst h
          have := hnx.out
          rwa [show k = (lst s).length from by omega] at this)
        by_cases hns : n = s
        · subst hns
          have HE : Hid (EndRes R n) := Lib.hid ⟨HI.out, HI.out.done HX.out⟩
          go_wp2_with fail
          go_ret
          exact ⟨n, rfl, HE.out, hbb⟩
        · have hnb : ((n : Int) == (s : Int)) = false := by rw [beq_eq_false_iff_ne]; omega
          have HN := Lib.hid (HI.out.next HX.out)
          have hlt := nx_less hs HX.out hns
          clear hns
          go_wp2_with fail
          go_roundw
          case rel => exact ⟨n, rfl, HN.out, hr1, hbb⟩
          case measure => simpa [intOf] using hlt
end Go.Proofs.YtjfegknokombgaaDoor
