/- The walk of the reference's words of a line. Condition: a text of at most 100000 bytes. -/
import Derived.Test.YtjfegknokombgaaDoorTokF
namespace Go.Proofs.YtjfegknokombgaaDoor
set_option maxRecDepth 100000
open Go.RowKit

theorem numsB_succ (Q : List ByteArray) (k : Nat) (hk : k < Q.length) : (numsB (Q.take (k + 1))).map (Value.int .i64) = (numsB (Q.take k)).map (Value.int .i64) ++ [.int .i64 ((numV Q[k].data.toList : Nat) : Int)] := by
  unfold numsB
  rw [List.take_succ_eq_append_getElem hk, List.map_append, List.map_append]; rfl
theorem numsB_len (Q : List ByteArray) (k : Nat) (hk : k ≤ Q.length) : (numsB (Q.take k)).length = k := by unfold numsB; simp; omega
theorem cons_at {α : Type} (q : α) (Q : List α) {j : Nat} (h1 : 1 ≤ j) (h : j < (q :: Q).length) : (q :: Q)[j] = Q[j - 1]'(by simp at h; omega) := by
  obtain ⟨k, rfl⟩ : ∃ k, j = k + 1 := ⟨j - 1, by omega⟩
  rfl
set_option maxHeartbeats 2000000 in
theorem rwords_any (s : ByteArray) (many : Int) (w : World) (hs : s.size ≤ 100000) (m0 : -9223372036854775808 ≤ many) (m1 : many ≤ 9223372036854775807) :
    Calls Tryd.prog 25 #[.string s, .int .i64 many] w fun e w' => ∃ p v b, e = .returned (.tuple #[.string p, v, .bool b]) ∧ WordsRes s many w' p v b ∧ Below w.heap.size w w' := by
  obtain ⟨i0, hi, hz0, hz1, hz2⟩ := info_parts infoInt
  have CC := Lib.hid (cut_any s 32 w hs)
  obtain ⟨hl1, hl2⟩ := cut_len_le 32 s
  by_cases hm : ((cutB 32 s).length : Int) - 1 = many
  case neg =>
    have HR := Lib.hid (words_count hm)
    have hne : (((cutB 32 s).length : Int) != wrap64 (many + 1)) = true := by rw [bne_iff_ne]; unfold wrap64; omega
    clear hm m0 m1
    go_enter Tryd.func25, Tryd.ntmps25
    go_wp2_with fail
    refine (CC.out).mono ?_
    rintro e w' ⟨v, rfl, hS, hb⟩
    obtain ⟨ao, cap, rfl, _, _⟩ := hS.form
    clear hS
    go_wp2_with fail
    go_ret3
    exact ⟨_, _, _, rfl, wordsRes_no HR.out, hb⟩
  have HP : Hid (∀ t ∈ cutB 32 s, t.size ≤ 9223372036854775807) := Lib.hid (fun t ht => by rcases pieces_le ht with h | h <;> omega)
  obtain ⟨q, Q, hqQ⟩ : ∃ q Q, cutB 32 s = q :: Q := by
    cases h : cutB 32 s with
    | nil => rw [h] at hl2; simp at hl2
    | cons q Q => exact ⟨q, Q, rfl⟩
  have HQ := Lib.hid hqQ
  rw [hqQ] at CC HP hm hl1
  rw [List.length_cons] at hm hl1
  clear hqQ hl2
  obtain ⟨n, hn⟩ : ∃ n, n = Q.length := ⟨_, rfl⟩
  have HN := Lib.hid hn
  rw [← hn] at hm hl1
  obtain rfl : many = (n : Int) := by omega
  have hnb : (n : Int) ≤ 1000000 := by omega
  have FIN : Hid (∀ wr v base, okTo Q n → wr.ownsRow base 3 1 v n ((numsB (Q.take n)).map (Value.int .i64)) → WordsRes s (n : Int) wr q v true) := Lib.hid (fun wr v base h1 h2 => by
    have hN := HN.out
    rw [hN] at h1 h2
    obtain ⟨e1, e2, e3⟩ := words_yes HQ.out h1
    rw [← hN] at e1
    rw [List.take_length] at h2
    exact ⟨e1.symm, fun _ => ⟨e2.symm, by rw [e3]; exact Ints.of_owns h2⟩, fun h => by cases h⟩)
  clear hn hm hs m0 m1
  go_enter Tryd.func25, Tryd.ntmps25
  go_wp2_with fail
  refine (CC.out).mono ?_
  rintro e w1 ⟨v, rfl, hS, hb1⟩
  obtain ⟨ao, cap, rfl, ⟨hc1, hc2⟩, _⟩ := hS.form
  obtain ⟨g0, o0, hg0, hc0⟩ := hS.at (k := 0) (by simp)
  subst hg0
  rw [List.length_cons] at hc1
  rw [List.length_cons, ← HN.out] at hS
  rw [List.length_cons, ← HN.out]
  rw [← HN.out] at hc1
  have hbz1 := hb1.size
  have HE := Lib.hid hS
  rw [Nat.add_zero] at hc0
  change w1.cell? ⟨g0, o0, none⟩ = some (.string q) at hc0
  have HC : Hid (∀ wr, Below w1.heap.size w1 wr → wr.cell? ⟨g0, o0, none⟩ = some (.string q)) := Lib.hid (fun wr hb => by rw [hb.cell (p := ⟨g0, o0, none⟩) (block_lt hc0)]; exact hc0)
  clear hS hc0 CC
  go_wp2_with fail
  go_loopw [8, 9] (fun v i wr => ∃ j : Nat, 1 ≤ j ∧ j ≤ n + 1 ∧ i = .int .i64 j ∧ okTo Q (j - 1) ∧ wr.ownsRow w1.heap.size 3 1 v (j - 1) ((numsB (Q.take (j - 1))).map (Value.int .i64)) ∧ Below w1.heap.size w1 wr) (fun _ i _ => n + 1 - (intOf i).toNat)
  case atStart => exact ⟨1, by omega, by omega, rfl, okTo_zero Q, World.ownsRow_lit _ _ _ (Nat.le_refl _) (by simp) (by simp), (Below.refl _ _).alloc (Nat.le_refl _) _⟩
  case round =>
    obtain ⟨j, hj1, hj, rfl, hok, hown, hb⟩ := hrel
    have HOK := Lib.hid hok
    have hzr := hb.size
    clear hok
    by_cases hlt : j < n + 1
    · have hki : (j : Int) < (n : Int) + 1 := by omega
      have hj0 : (0 : Int) ≤ (j : Int) := by omega
      have hkq : j - 1 < Q.length := by have := HN.out; omega
      obtain ⟨g1, o1, hg1, hcp⟩ := (HE.out.below hb).at (k := j) (by rw [List.length_cons]; have := HN.out; omega)
      cases hg1
      rw [cons_at q Q hj1] at hcp
      have hts := HP.out Q[j - 1] (List.mem_cons_of_mem _ (List.getElem_mem hkq))
      have CN := Lib.hid (rnumber_any Q[j - 1] wr (by unfold maxLen; omega))
      have HSET := Lib.hid (numsB_succ Q (j - 1) hkq)
      cases hd : okN Q[j - 1].data.toList
      · have HR := Lib.hid (words_no_at (many := (n : Int)) HQ.out hkq hd)
        rw [hd] at CN
        clear hd
        generalize numV Q[j - 1].data.toList = x at *
        generalize Q[j - 1] = t at *
        go_wp2_with fail
        refine (CN.out).mono ?_
        rintro e w' ⟨rfl, hbn⟩
        go_wp2_with fail
        go_ret3
        exact ⟨_, _, _, rfl, wordsRes_no HR.out, hb1.trans ((hb.trans (hbn.mono hzr)).mono hbz1)⟩
      · have HOK' := Lib.hid (okTo_succ HOK.out hkq hd)
        rw [show j - 1 + 1 = j from by omega] at HOK' HSET
        rw [hd] at CN
        clear hd
        generalize numV Q[j - 1].data.toList = x at *
        generalize Q[j - 1] = t at *
        go_wp2_with fail
        refine (CN.out).mono ?_
        rintro e w2 ⟨rfl, hbn⟩
        have hown2 := owns_below hown hbn
        have hb2 := hb.trans (hbn.mono hzr)
        have hbz2 := hb2.size
        clear hown hbn hb
        go_wp2_with (at_builtin; refine wpList_append_own _ rfl _ _ 30 rfl w1.heap.size 3 i0 (.int .i64 0) 1 8 Tryd.underlying30 hi hz0 hz1 hz2 rfl (by decide) _ _ _ rfl (hown2.alloc _) ⟨_, 0, none⟩ 1 1 [.int .i64 (x : Int)] rfl rfl ?d1 ?d2 ?d3 ?d4 ?d5 ?_)
        case d1 => exact cell_one_new _ _ _
        case d2 => intro u hu; simp at hu; subst hu; rfl
        case d3 => unfold maxLen; omega
        case d4 => omega
        case d5 => simp; omega
        intro v3 w3 hown3 hg3 _
        have hb3 := below_app hb2 (Nat.le_refl _) hown2 hg3
        clear hown2 hb2 hg3
        go_wp2_with fail
        go_roundw
        case rel => exact ⟨j + 1, by omega, by omega, by go_num, HOK'.out, by rw [show j + 1 - 1 = j from by omega, HSET.out]; exact hown3, hb3⟩
        case measure => simp [intOf]; omega
    · obtain rfl : j = n + 1 := by omega
      have hc3 := HC.out _ hb
      go_wp2_with fail
      go_ret3
      exact ⟨_, _, _, rfl, FIN.out _ _ _ HOK.out hown, hb1.trans (hb.mono hbz1)⟩
end Go.Proofs.YtjfegknokombgaaDoor
