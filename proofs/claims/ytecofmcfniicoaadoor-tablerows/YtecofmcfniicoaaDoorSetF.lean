/- Walks: the reference's Below, the set's own List; Same. Conditions: as in the texts before. -/
import Derived.Test.YtecofmcfniicoaaDoorSetE
import Derived.Deep.QuietTactic
import Derived.BigQuiet
namespace Go.Proofs.YtecofmcfniicoaaDoor
set_option maxRecDepth 100000
open Go.RowKit

def rng (k : Nat) : List Value := (List.range k).map fun i : Nat => Value.int .i64 (i : Int)
theorem rng_len (k : Nat) : (rng k).length = k := by simp [rng]
theorem rng_succ (k : Nat) : rng (k + 1) = rng k ++ [.int .i64 (k : Int)] := by unfold rng; rw [List.range_succ]; simp
theorem intsV_len (l : List Nat) : (l.map fun i : Nat => Value.int .i64 (i : Int)).length = l.length := by simp
theorem lst_step {S c : Nat} {acc : List Nat} (hl : lst S = acc ++ lst c) (hne : lst c ≠ []) : lst S = (acc ++ [fst c]) ++ lst (woS c (fst c : Int)) := by
  rw [hl, List.append_assoc, List.singleton_append, ← lst_cons hne]
theorem lst_less {c : Nat} (hne : lst c ≠ []) : (lst (woS c (fst c : Int))).length < (lst c).length := by
  have := congrArg List.length (lst_cons hne)
  simp at this; omega
/-- Are two lists the same? -/
def sameL (a b : List Int) : Bool := a == b
theorem take_eq_succ {a b : List Int} {k : Nat} (ha : k < a.length) (hb : k < b.length) (h : a.take k = b.take k) (hx : a[k] = b[k]) : a.take (k + 1) = b.take (k + 1) := by
  rw [List.take_succ_eq_append_getElem ha, List.take_succ_eq_append_getElem hb, h, hx]
theorem same_no {a b : List Int} {k : Nat} (ha : k < a.length) (hb : k < b.length) (hx : ¬ a[k] = b[k]) : false = sameL a b := by
  unfold sameL
  symm
  rw [beq_eq_false_iff_ne]
  rintro rfl
  exact hx rfl
theorem same_len {a b : List Int} (h : ¬ a.length = b.length) : false = sameL a b := by
  unfold sameL
  symm
  rw [beq_eq_false_iff_ne]
  rintro rfl
  exact h rfl
theorem same_yes {a b : List Int} {k : Nat} (ha : a.length ≤ k) (hb : b.length ≤ k) (h : a.take k = b.take k) : true = sameL a b := by
  rw [List.take_of_length_le ha, List.take_of_length_le hb] at h
  subst h
  simp [sameL]
set_option maxHeartbeats 1000000 in
theorem same_any (va vb : Value) (a b : List Int) (w : World) (ha : Ints w va a) (hb : Ints w vb b) :
    Calls Tryd.prog 27 #[va, vb] w fun e w' => e = .returned (.bool (sameL a b)) ∧ Below w.heap.size w w' := by
  obtain ⟨ao, cap, rfl, hal⟩ := ha.form
  obtain ⟨bo, bap, rfl, hbl⟩ := hb.form
  by_cases hlen : a.length = b.length
  · have hlb : ((a.length : Int) == (b.length : Int)) = true := by rw [beq_iff_eq]; omega
    have HL := Lib.hid hlen
    have h1 : a.length ≤ b.length := by omega
    have h2 : b.length ≤ a.length := by omega
    clear hlen
    go_enter Tryd.func27, Tryd.ntmps27
    go_wp2
    go_loopw [5] (fun i wr => ∃ k : Nat, k ≤ a.length ∧ i = .int .i64 k ∧ a.take k = b.take k ∧ Below w.heap.size w wr) (fun i _ => a.length - (intOf i).toNat)
    case atStart => exact ⟨0, by omega, rfl, by simp, Below.refl _ _⟩
    case round =>
      obtain ⟨k, hk, rfl, htk, hbw⟩ := hrel
      have HTK := Lib.hid htk
      clear htk
      by_cases hlt : k < a.length
      · have hltb : k < b.length := by omega
        have ha' : Ints _ _ _ := ha.below hbw
        have hb' : Ints _ _ _ := hb.below hbw
        obtain ⟨p, off, rfl, hc⟩ := ha'.at hlt
        obtain ⟨q, offb, rfl, hcb⟩ := hb'.at hltb
        clear ha' hb'
        have HS : Hid (a[k] = b[k] → a.take (k + 1) = b.take (k + 1)) := Lib.hid (take_eq_succ hlt hltb HTK.out)
        have HN : Hid (¬ a[k] = b[k] → false = sameL a b) := Lib.hid (same_no hlt hltb)
        generalize a[k] = x at *
        generalize b[k] = y at *
        by_cases hxy : x = y
        · have hxy' : (x == y) = true := by simpa using hxy
          have HX := Lib.hid (HS.out hxy)
          clear hxy
          go_wp2
          go_quiet (fail)
          go_wp2
          go_roundw
          case rel => exact ⟨k + 1, by omega, by go_num, HX.out, below_drewN hbw _⟩
          case measure => simp [intOf]; omega
        · have hxy' : (x == y) = false := by simpa using hxy
          have HX := Lib.hid (HN.out hxy)
          clear hxy
          go_wp2
          go_quiet (fail)
          go_wp2
          go_ret
          exact ⟨ret_b HX.out, below_drewN hbw _⟩
      · have HX := Lib.hid (same_yes (a := a) (b := b) (k := k) (by omega) (by omega) HTK.out)
        go_wp2
        go_ret
        exact ⟨ret_b HX.out, hbw⟩
  · have hlb : ((a.length : Int) == (b.length : Int)) = false := by rw [beq_eq_false_iff_ne]; omega
    have HX := Lib.hid (same_len hlen)
    clear hlen
    go_enter Tryd.func27, Tryd.ntmps27
    go_wp2
    go_ret
    exact ⟨ret_b HX.out, Below.refl _ _⟩
end Go.Proofs.YtecofmcfniicoaaDoor
