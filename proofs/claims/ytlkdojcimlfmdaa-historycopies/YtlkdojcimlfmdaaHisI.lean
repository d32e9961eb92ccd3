/- Walks of the reference: who writes a value to a key; which histories may be. Conditions: a slice's cells are known; there are at most 100000 operations. -/
import Derived.Test.YtlkdojcimlfmdaaHisH
import Derived.Deep.CutRange
namespace Go.Proofs.Ytlkdojcimlfmdaa
set_option maxRecDepth 100000
open Go.RowKit

def isWr (key x : Int) (o : OpV) : Bool := o.wr && (o.key == key && o.val == x)
/-- Who writes a value to a key; -1: nobody does. -/
def wrI (key x : Int) (h : List TxnV) : Int := match h.findIdx? (fun t => t.l.any (isWr key x)) with
  | some i => i
  | none => -1
theorem wrI_hit {key x : Int} {h : List TxnV} {k j : Nat} (hk : k < h.length) (hj : j < h[k].l.length) (hn : ∀ i, ∀ hi : i < k, (h[i]'(by omega)).l.any (isWr key x) = false) (hh : isWr key x h[k].l[j] = true) : wrI key x h = k := by
  unfold wrI
  have : h.findIdx? (fun t => t.l.any (isWr key x)) = some k := by
    rw [List.findIdx?_eq_some_iff_getElem]
    exact ⟨hk, List.any_eq_true.2 ⟨_, List.getElem_mem hj, hh⟩, fun i hi => by rw [hn i hi]; simp⟩
  rw [this]
theorem wrI_none {key x : Int} {h : List TxnV} (hn : ∀ i, ∀ hi : i < h.length, h[i].l.any (isWr key x) = false) : wrI key x h = -1 := by
  unfold wrI
  have : h.findIdx? (fun t => t.l.any (isWr key x)) = none := by
    rw [List.findIdx?_eq_none_iff]
    intro t ht
    obtain ⟨i, hi, rfl⟩ := List.getElem_of_mem ht
    exact hn i hi
  rw [this]
theorem wrI_nonneg {key x : Int} {h : List TxnV} : wrI key x h < 0 ↔ ∀ t ∈ h, ∀ o ∈ t.l, isWr key x o = false := by
  unfold wrI
  cases hf : h.findIdx? (fun t => t.l.any (isWr key x)) with
  | none =>
    rw [List.findIdx?_eq_none_iff] at hf
    simp only [Int.reduceNeg, Int.reduceLT, true_iff]
    intro t ht o ho
    have := List.any_eq_false.1 (hf t ht) o ho
    simpa using this
  | some i =>
    rw [List.findIdx?_eq_some_iff_getElem] at hf
    obtain ⟨hi, h1, _⟩ := hf
    constructor
    · intro h2; simp only at h2; omega
    · intro h2
      obtain ⟨o, ho, hw⟩ := List.any_eq_true.1 h1
      rw [h2 _ (List.getElem_mem hi) o ho] at hw
      cases hw
set_option maxHeartbeats 8000000 in
theorem writer_any (va : Value) (h : List TxnV) (key x : Int) (w : World) (hT : Txns w va h) :
    Calls Try.prog 59 #[va, .int .i64 key, .int .i64 x] w fun e w' => e = .returned (.int .i64 (wrI key x h)) ∧ Below w.heap.size w w' := by
  obtain ⟨ao, cap, rfl, hal⟩ := hT.form
  have HT := Lib.hid (fun wx (hx : Below w.heap.size w wx) => hT.below hx)
  have HHIT : Hid (∀ k j, ∀ hk : k < h.length, ∀ hj : j < h[k].l.length, (∀ i, ∀ hi : i < k, (h[i]'(by omega)).l.any (isWr key x) = false) → isWr key x h[k].l[j] = true → (k : Int) = wrI key x h) := Lib.hid (fun k j hk hj hn hh => (wrI_hit hk hj hn hh).symm)
  have HNONE : Hid ((∀ i, ∀ hi : i < h.length, h[i].l.any (isWr key x) = false) → (-1 : Int) = wrI key x h) := Lib.hid (fun hn => (wrI_none hn).symm)
  clear hT
  go_enter Try.func59, Try.ntmps59
  go_wp2_with fail
  go_loopw [7] (fun i wr => ∃ k : Nat, k ≤ h.length ∧ i = .int .i64 k ∧ (∀ i, ∀ _ : i < k, ∀ hi2 : i < h.length, h[i].l.any (isWr key x) = false) ∧ Below w.heap.size w wr) (fun i _ => h.length - (intOf i).toNat)
  case atStart => exact ⟨0, by omega, rfl, by omega, Below.refl _ _⟩
  case round =>
    obtain ⟨k, hk, rfl, hN, hb⟩ := hrel
    have HN := Lib.hid hN
    clear hN
    by_cases hlt : k < h.length
    · have hki : (k : Int) < (h.length : Int) := by omega
      obtain ⟨g, o, hao, c0, c1, c2, c3⟩ := (HT.out _ hb).at hlt
      cases hao
      have HOP := Lib.hid (fun wx (hx : Below w.heap.size w wx) => (HT.out wx hx).ops hlt)
      have HAT := Lib.hid (fun wx (hx : Below w.heap.size w wx) => (HT.out wx hx).at hlt)
      have HHK := Lib.hid (fun j hj hh => HHIT.out k j hlt hj (fun i hi => HN.out i hi (by omega)) hh)
      have HLK : Hid (h[k].l.any (isWr key x) = false → ∀ i, ∀ _ : i < k + 1, ∀ hi2 : i < h.length, h[i].l.any (isWr key x) = false) := Lib.hid (fun hh i hi hi2 => by
        rcases Nat.lt_or_eq_of_le (Nat.le_of_lt_succ hi) with h1 | rfl
        · exact HN.out i h1 hi2
        · exact hh)
      obtain ⟨ai, capi, hv, hli⟩ := ((HT.out _ hb).ops hlt).form
      rw [hv] at HOP c3 HAT
      generalize h[k].l = l at *
      clear hv c0 c1 c2 c3 HHIT HNONE
      go_wp2_with fail
      go_loopw [8] (fun i wx => ∃ j : Nat, j ≤ l.length ∧ i = .int .i64 j ∧ ((l.take j).any (isWr key x) = false) ∧ Below w.heap.size w wx) (fun i _ => l.length - (intOf i).toNat)
      case atStart => exact ⟨0, by omega, rfl, rfl, hb⟩
      case round =>
        obtain ⟨j, hj, rfl, hA, hb2⟩ := hrel
        have HA := Lib.hid hA
        clear hA hb
        obtain ⟨_, _, hao, c0, c1, c2, c3⟩ := HAT.out _ hb2
        cases hao
        clear c0 c1 c2
        by_cases hltj : j < l.length
        · have hkj : (j : Int) < (l.length : Int) := by omega
          obtain ⟨g2, o2, hao2, e0, e1, e2⟩ := (HOP.out _ hb2).at hltj
          cases hao2
          have HS : Hid ((l.take (j + 1)).any (isWr key x) = ((l.take j).any (isWr key x) || isWr key x l[j])) := Lib.hid (by rw [take_snoc l j hltj, List.any_append]; simp)
          have HH := Lib.hid (HHK.out j hltj)
          generalize l[j] = y at *
          obtain ⟨yw, yk, yv⟩ := y
          try simp only at e0 e1 e2
          have hb3 := hb2.alloc hb2.size (.cells #[.bool yw, .int .i64 yk, .int .i64 yv] 31)
          clear HHK
          cases yw with
          | false =>
            have H : Hid ((l.take (j + 1)).any (isWr key x) = false) := Lib.hid (by rw [HS.out, HA.out]; rfl)
            clear HS HH
            go_wp2_with fail
            go_roundw
            case rel => exact ⟨j + 1, by omega, by go_num, H.out, hb3⟩
            case measure => simp [intOf]; omega
          | true =>
            by_cases hyk : yk = key
            · subst hyk
              by_cases hyv : yv = x
              · have H := Lib.hid (HH.out (by subst hyv; unfold isWr; simp))
                subst hyv
                clear HS HH
                go_wp2_with fail
                go_ret
                exact ⟨ret_int H.out, hb3⟩
              · have H : Hid ((l.take (j + 1)).any (isWr yk x) = false) := Lib.hid (by rw [HS.out, HA.out]; unfold isWr; simp [hyv])
                have hyv' : (yv == x) = false := by simpa using hyv
                clear HS HH hyv
                go_wp2_with fail
                go_roundw
                case rel => exact ⟨j + 1, by omega, by go_num, H.out, hb3⟩
                case measure => simp [intOf]; omega
            · have H : Hid ((l.take (j + 1)).any (isWr key x) = false) := Lib.hid (by rw [HS.out, HA.out]; unfold isWr; simp [hyk])
              have hyk' : (yk == key) = false := by simpa using hyk
              clear HS HH hyk
              go_wp2_with fail
              go_roundw
              case rel => exact ⟨j + 1, by omega, by go_num, H.out, hb3⟩
              case measure => simp [intOf]; omega
        · have hj2 : j = l.length := by omega
          subst hj2
          have H := Lib.hid (HLK.out (by have := HA.out; rwa [List.take_length] at this))
          go_wp2_with fail
          go_roundw
          case rel => exact ⟨k + 1, by omega, by go_num, H.out, hb2⟩
          case measure => simp [intOf]; omega
    · have hkl : k = h.length := by omega
      subst hkl
      have H := Lib.hid (HNONE.out (fun i hi => HN.out i hi hi))
      clear HHIT HNONE
      go_wp2_with fail
      go_ret
      exact ⟨ret_int H.out, hb⟩
end Go.Proofs.Ytlkdojcimlfmdaa
