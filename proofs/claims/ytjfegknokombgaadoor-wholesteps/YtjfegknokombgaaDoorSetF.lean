/- Walks: the reference's Below, the set's own List; Same. Conditions: as in the texts before. -/
import Derived.Test.YtjfegknokombgaaDoorSetE
import Derived.Deep.QuietTactic
import Derived.BigQuiet
namespace Go.Proofs.YtjfegknokombgaaDoor
set_option maxRecDepth 100000
open Go.RowKit

def rng (k : Nat) : List Value := (List.range k).map fun i : Nat => Value.int .i64 (i : Int)
theorem rng_len (k : Nat) : (rng k).length = k := by simp [rng]
theorem rng_succ (k : Nat) : rng (k + 1) = rng k ++ [.int .i64 (k : Int)] := by unfold rng; rw [List.range_succ]; simp
theorem intsV_len (l : List Nat) : (l.map fun i : Nat => Value.int .i64 (i : Int)).length = l.length := by simp
theorem lst_step {S c : Nat} {acc : List Nat} (hl : lst S = acc ++ lst c) (hne : lst c ≠ []) : lst S = (acc ++ [fst c]) ++ lst (woS c (fst c : Int)) := by
  rw [hl, List.append_assoc, List.singleton_append, ← lst_cons hne]
theorem lst_less {c : Nat} (hne : lst c ≠ []) : (lst (woS c (fst c : Int))).length < (lst c).length := by
  have := congrArg List.length (lst_cons hne)
  simp at this; omega
set_option maxHeartbeats 1000000 in
theorem list_any (s : Nat) (w : World) (hs : IsSet s) (ht : Tab w) :
    Calls Tryd.prog 66 #[.int .u64 (s : Int)] w fun e w' => ∃ v, e = .returned v ∧ w'.ownsRow w.heap.size 3 1 v (lst s).length ((lst s).map fun i : Nat => Value.int .i64 (i : Int)) ∧ Below w.heap.size w w' := by
  obtain ⟨i0, hi, hz0, hz1, hz2⟩ := info_parts infoInt
  obtain ⟨B, hB⟩ : ∃ B, B = w.heap.size := ⟨_, rfl⟩
  rw [← hB]
  have HB : Hid (B = w.heap.size) := Lib.hid hB
  have hB' : B ≤ w.heap.size := by omega
  have hgB : 1 < B := by have := ht.pos; omega
  clear hB
  have hT : ∀ wr, Below B w wr → Tab wr := fun wr hb => ht.below hb hgB
  have HT := Lib.hid hT; clear hT
  have hle : (lst s).length ≤ 64 := lstTo_len s 64
  go_enter Tryd.func66, Tryd.ntmps66
  go_wp2_with (first
    | (go_at_call 50; refine (count_any _ _ hs).mono ?_; rintro e w' ⟨rfl, rfl⟩)
    | (at_make; refine wpList_make_own _ rfl _ _ 30 rfl B 3 i0 (.int .i64 0) 1 Tryd.underlying30 hi hz0 hz1 _ _ _ (lst s).length rfl rfl rfl ?b1 ?b2 ?b3 ?_))
  case b1 => rw [hz2]; omega
  case b2 => unfold maxLen; omega
  case b3 => exact hB'
  intro w1 hown0 hg0
  have hb0 : Below B w w1 := (Below.refl B w).grown hg0 hB' (by simp)
  clear hg0
  go_wp2_with fail
  go_loopw [0, 3] (fun v x wr => ∃ (c : Nat) (acc : List Nat), IsSet c ∧ v = .int .u64 (c : Int) ∧ lst s = acc ++ lst c ∧ wr.ownsRow B 3 1 x acc.length (acc.map fun i : Nat => Value.int .i64 (i : Int)) ∧ Below B w wr)
    (fun v _ _ => (lst (intOf v).toNat).length)
  case atStart => exact ⟨s, [], hs, rfl, by simp, hown0, hb0⟩
  case round =>
    obtain ⟨c, acc, hc, rfl, hl, hown, hb⟩ := hrel
    have hsz := hb.size
    have hal : acc.length ≤ 64 := by have := congrArg List.length hl; simp at this; omega
    have HL := Lib.hid hl; clear hl
    have HTr : Hid (Tab _) := Lib.hid (HT.out _ hb)
    rcases Nat.eq_zero_or_pos c with h0 | h0
    · subst h0
      have hacc : Hid (acc = lst s) := Lib.hid (by rw [HL.out, lst_zero, List.append_nil])
      go_wp2
      go_ret
      exact ⟨_, rfl, by rw [← hacc.out]; exact hown, hb⟩
    · have hne := lst_ne hc h0
      have hwo := isSet_woS (n := (fst c : Int)) hc
      have HS := Lib.hid (lst_step HL.out hne)
      have HD := Lib.hid (lst_less hne)
      have hfl := fst_lt hne
      clear hne
      go_wp2_with (first
        | (go_at_call 63; refine (first_any c _ hc HTr.out).mono ?_; rintro e w' ⟨rfl, rfl⟩)
        | (at_builtin; refine wpList_append_own _ rfl _ _ 30 rfl B 3 i0 (.int .i64 0) 1 8 Tryd.underlying30 hi hz0 hz1 hz2 rfl (by decide) _ _ _ rfl (hown.alloc _) ⟨_, 0, none⟩ 1 1 [.int .i64 (fst c : Int)] rfl rfl ?c1 ?c2 ?c3 ?c4 ?c5 ?_))
      case c1 => exact cell_one_new _ _ _
      case c2 => intro u hu; simp at hu; subst hu; rfl
      case c3 => unfold maxLen; omega
      case c4 => omega
      case c5 => simp; omega
      intro v' w2 hown' hgrow _
      have hb' := below_app hb hB' hown hgrow
      have HT2 : Hid (Tab w2) := Lib.hid (HT.out _ hb')
      clear hown hb hgrow
      go_wp2_with (first
        | (go_at_call 63; refine (first_any c _ hc HT2.out).mono ?_; rintro e w' ⟨rfl, rfl⟩)
        | (go_at_call 52; refine (wo_any c _ _ hc).mono ?_; rintro e w' ⟨rfl, rfl⟩))
      go_roundw
      case rel => exact ⟨woS c (fst c : Int), acc ++ [fst c], hwo, rfl, HS.out, by simpa using hown', hb'⟩
      case measure => simpa [intOf] using HD.out

/-- Are two lists the same? -/
def sameL (a b : List Int) : Bool := a == b
theorem take_eq_succ {a b : List Int} {k : Nat} (ha : k < a.length) (hb : k < b.length) (h : a.take k = b.take k) (hx : a[k] = b[k]) : a.take (k + 1) = b.take (k + 1) := by
  rw [List.take_succ_eq_append_getElem ha, List.take_succ_eq_append_getElem hb, h, hx]
theorem same_no {a b : List Int} {k : Nat} (ha : k < a.length) (hb : k < b.length) (hx : ¬ a[k] = b[k]) : false = sameL a b := by
  unfold sameL
  symm
  rw [beq_eq_false_iff_ne]
  rintro rfl
  exact hx rfl
theorem same_len {a b : List Int} (h : ¬ a.length = b.length) : false = sameL a b := by
  unfold sameL
  symm
  rw [beq_eq_false_iff_ne]
  rintro rfl
  exact h rfl
theorem same_yes {a b : List Int} {k : Nat} (ha : a.length ≤ k) (hb : b.length ≤ k) (h : a.take k = b.take k) : true = sameL a b := by
  rw [List.take_of_length_le ha, List.take_of_length_le hb] at h
  subst h
  simp [sameL]
set_option maxHeartbeats 1000000 in
theorem same_any (va vb : Value) (a b : List Int) (w : World) (ha : Ints w va a) (hb : Ints w vb b) :
    Calls Tryd.prog 18 #[va, vb] w fun e w' => e = .returned (.bool (sameL a b)) ∧ Below w.heap.size w w' := by
  obtain ⟨ao, cap, rfl, hal⟩ := ha.form
  obtain ⟨bo, bap, rfl, hbl⟩ := hb.form
  by_cases hlen : a.length = b.length
  · have hlb : ((a.length : Int) == (b.length : Int)) = true := by rw [beq_iff_eq]; omega
    have HL := Lib.hid hlen
    have h1 : a.length ≤ b.length := by omega
    have h2 : b.length ≤ a.length := by omega
    clear hlen
    go_enter Tryd.func18, Tryd.ntmps18
    go_wp2
    go_loopw [5] (fun i wr => ∃ k : Nat, k ≤ a.length ∧ i = .int .i64 k ∧ a.take k = b.take k ∧ Below w.heap.size w wr) (fun i _ => a.length - (intOf i).toNat)
    case atStart => exact ⟨0, by omega, rfl, by simp, Below.refl _ _⟩
    case round =>
      obtain ⟨k, hk, rfl, htk, hbw⟩ := hrel
      have HTK := Lib.hid htk
      clear htk
      by_cases hlt : k < a.length
      · have hltb : k < b.length := by omega
        have ha' : Ints _ _ _ := ha.below hbw
        have hb' : Ints _ _ _ := hb.below hbw
        obtain ⟨p, off, rfl, hc⟩ := ha'.at hlt
        obtain ⟨q, offb, rfl, hcb⟩ := hb'.at hltb
        clear ha' hb'
        have HS : Hid (a[k] = b[k] → a.take (k + 1) = b.take (k + 1)) := Lib.hid (take_eq_succ hlt hltb HTK.out)
        have HN : Hid (¬ a[k] = b[k] → false = sameL a b) := Lib.hid (same_no hlt hltb)
        generalize a[k] = x at *
        generalize b[k] = y at *
        by_cases hxy : x = y
        · have hxy' : (x == y) = true := by simpa using hxy
          have HX := Lib.hid (HS.out hxy)
          clear hxy
          go_wp2
          go_quiet (fail)
          go_wp2
          go_roundw
          case rel => exact ⟨k + 1, by omega, by go_num, HX.out, below_drewN hbw _⟩
          case measure => simp [intOf]; omega
        · have hxy' : (x == y) = false := by simpa using hxy
          have HX := Lib.hid (HN.out hxy)
          clear hxy
          go_wp2
          go_quiet (fail)
          go_wp2
          go_ret
          exact ⟨ret_b HX.out, below_drewN hbw _⟩
      · have HX := Lib.hid (same_yes (a := a) (b := b) (k := k) (by omega) (by omega) HTK.out)
        go_wp2
        go_ret
        exact ⟨ret_b HX.out, hbw⟩
  · have hlb : ((a.length : Int) == (b.length : Int)) = false := by rw [beq_eq_false_iff_ne]; omega
    have HX := Lib.hid (same_len hlen)
    clear hlen
    go_enter Tryd.func18, Tryd.ntmps18
    go_wp2
    go_ret
    exact ⟨ret_b HX.out, Below.refl _ _⟩
end Go.Proofs.YtjfegknokombgaaDoor
