/- The walk of the statement on lines: it answers true. Condition: the library's variables are as a start leaves them. -/
import Derived.Test.YtjfegknokombgaaDoorTokJ
namespace Go.Proofs.YtjfegknokombgaaDoor
set_option maxRecDepth 100000
open Go.RowKit

theorem linesB_len (s : ByteArray) : (linesB s).length + 1 = (cutB 10 s).length := by
  unfold linesB
  have := (cut_len_le 10 s).2
  rw [List.length_dropLast]; omega
theorem linesB_at (s : ByteArray) {k : Nat} (h : k < (linesB s).length) : (linesB s).getD k ⟨#[]⟩ = (cutB 10 s).getD k ⟨#[]⟩ := by
  have hl := linesB_len s
  unfold linesB at *
  simp only [List.getD_eq_getElem?_getD]
  rw [List.getElem?_dropLast, if_pos (by omega)]
theorem endedB_at (s : ByteArray) {n : Nat} (h : (cutB 10 s).length = n + 1) : endedB s = ((cutB 10 s).getD n ⟨#[]⟩).toList.isEmpty := by
  unfold endedB
  rw [last_at h (by omega), List.getD_eq_getElem?_getD, List.getElem?_eq_getElem (by omega)]; rfl
theorem Strs.atD {w : World} {ao : Option Addr} {n cap : Nat} {xs : List ByteArray} (h : Strs w (.slice ao n cap) xs) {k : Nat} (hk : k < xs.length) :
    ∃ b off, ao = some ⟨b, off, none⟩ ∧ w.cell? ⟨b, off + k, none⟩ = some (.string (xs.getD k ⟨#[]⟩)) := by
  obtain ⟨b, off, h1, h2⟩ := h.at hk
  exact ⟨b, off, h1, by rw [h2, List.getD_eq_getElem?_getD, List.getElem?_eq_getElem hk]; rfl⟩
set_option maxHeartbeats 2000000 in
theorem lines_walk (s : ByteArray) (w : World) (he : Env w) (hs : s.size ≤ maxLen) :
    Calls Tryd.prog 6 #[.string s] w fun e w' => e = .returned (.bool true) ∧ Below w.heap.size w w' := by
  have HEN : Hid (∀ wx, Below w.heap.size w wx → Env wx) := Lib.hid (fun wx h => he.below h)
  have hmm : s.size ≤ 9223372036854775807 := hs
  clear he hs
  by_cases h1 : 2000 < s.size
  · have h1' : (2000 : Int) < (s.size : Int) := by omega
    go_enter Tryd.func6, Tryd.ntmps6
    go_wp2_with fail
    refine (speaks3_any w (HEN.out _ (Below.refl _ _))).mono ?_
    rintro e w1 ⟨rfl, hb1⟩
    go_wp2_with fail
    go_ret
    exact ⟨rfl, hb1⟩
  have h1' : ¬ (2000 : Int) < (s.size : Int) := by omega
  have CL := Lib.hid (fun (wx : World) (h : Env wx) => lines_any s wx h (by omega))
  have CC := Lib.hid (fun (wx : World) => cut_any s 10 wx (by omega))
  have hl := linesB_len s
  have hcl := (cut_len_le 10 s).1
  obtain ⟨n, hn⟩ : ∃ n, (linesB s).length = n := ⟨_, rfl⟩
  have hcn : (cutB 10 s).length = n + 1 := by omega
  have HE := Lib.hid (endedB_at s hcn)
  have HAT : Hid (∀ k, k < n → (linesB s).getD k ⟨#[]⟩ = (cutB 10 s).getD k ⟨#[]⟩) := Lib.hid (fun k h => linesB_at s (by omega))
  have HN := Lib.hid hn
  have HCN := Lib.hid hcn
  have hnb : (n : Int) ≤ 1000000 := by omega
  clear hl hcl hn hcn
  go_enter Tryd.func6, Tryd.ntmps6
  go_wp2_with fail
  refine (speaks3_any w (HEN.out _ (Below.refl _ _))).mono ?_
  rintro e w1 ⟨rfl, hb1⟩
  go_wp2_with fail
  refine (CL.out _ (HEN.out _ hb1)).mono ?_
  rintro e w2 ⟨v1, rfl, hS1, hb2⟩
  have hbb := hb1.trans (hb2.mono hb1.size)
  go_wp2_with fail
  refine (CC.out _).mono ?_
  rintro e w3 ⟨v2, rfl, hS2, hb3⟩
  have hbc := hbb.trans (hb3.mono hbb.size)
  have hS1' := hS1.below hb3
  obtain ⟨ao1, cap1, rfl, ⟨hc11, hc12⟩, _⟩ := hS1.form
  obtain ⟨ao2, cap2, rfl, ⟨hc21, hc22⟩, _⟩ := hS2.form
  rw [HN.out] at hS1' hc11
  rw [HCN.out] at hS2 hc21
  obtain ⟨g, o, hg, hc⟩ := hS2.atD (k := n) (by have := HCN.out; omega)
  subst hg
  rw [HN.out, HCN.out]
  have HS1 := Lib.hid hS1'
  have HS2 := Lib.hid hS2
  rw [HE.out]
  have HAT2 : Hid (∀ k, k < n → ∃ t, (∀ wx, Below w3.heap.size w3 wx → ∃ b1 f1, ao1 = some ⟨b1, f1, none⟩ ∧ wx.cell? ⟨b1, f1 + k, none⟩ = some (.string t) ∧ wx.cell? ⟨g, o + k, none⟩ = some (.string t))) := Lib.hid (fun k hk => by
    refine ⟨(cutB 10 s).getD k ⟨#[]⟩, fun wx hb => ?_⟩
    obtain ⟨b1, f1, e1, c1⟩ := (HS1.out.below hb).atD (k := k) (by have := HN.out; omega)
    obtain ⟨b2, f2, e2, c2⟩ := (HS2.out.below hb).atD (k := k) (by have := HCN.out; omega)
    cases e2
    rw [HAT.out k hk] at c1
    exact ⟨b1, f1, e1, c1, c2⟩)
  clear hS1 hS2 hS1' hb1 hb2 hb3 hbb CL CC HE
  generalize (cutB 10 s).getD n ⟨#[]⟩ = q at *
  go_wp2_with fail
  go_loopw [38] (fun i wr => ∃ k : Nat, k ≤ n ∧ i = .int .i64 k ∧ Below w3.heap.size w3 wr) (fun i _ => n - (intOf i).toNat)
  case atStart => exact ⟨0, by omega, rfl, Below.refl _ _⟩
  case round =>
    obtain ⟨k, hk, rfl, hb⟩ := hrel
    by_cases hlt : k < n
    · have hki : (k : Int) < (n : Int) := by omega
      have hki2 : (k : Int) < (n : Int) + 1 := by omega
      obtain ⟨t, ht⟩ := HAT2.out k hlt
      obtain ⟨b1, f1, rfl, c1, c2⟩ := ht wr hb
      clear ht
      go_wp2_with fail
      go_quiet (fail)
      go_wp2_with fail
      go_roundw
      case rel => exact ⟨k + 1, by omega, by go_num, below_drewN hb _⟩
      case measure => simp [intOf]; omega
    · go_wp2_with fail
      go_ret
      exact ⟨rfl, hbc.trans (hb.mono hbc.size)⟩
end Go.Proofs.YtjfegknokombgaaDoor
