/- The walk of a line's words. Conditions: as XTokE's. -/
import Derived.Test.YtjfegknokombgaaDoorTokE
import Derived.Test.YtjfegknokombgaaDoorBlk
import Derived.Deep.OwnRows
namespace Go.Proofs.YtjfegknokombgaaDoor
set_option maxRecDepth 100000
open Go.RowKit

/-- Are a line's pieces behind the first one just so many numbers? -/
def wordsOK (s : ByteArray) (many : Int) : Bool := decide (((cutB 32 s).length : Int) = many + 1) && (cutB 32 s).tail.all fun t => okN t.data.toList
def numsB (P : List ByteArray) : List Int := P.map fun t => ((numV t.data.toList : Nat) : Int)
def numsOf (s : ByteArray) : List Int := numsB (cutB 32 s).tail
def headB (s : ByteArray) : ByteArray := (cutB 32 s).headD ⟨#[]⟩
def WordsRes (s : ByteArray) (many : Int) (w : World) (p : ByteArray) (v : Value) (b : Bool) : Prop :=
  b = wordsOK s many ∧ (b = true → p = headB s ∧ Ints w v (numsOf s)) ∧ (b = false → p = ⟨#[]⟩ ∧ v = .slice none 0 0)
theorem wordsRes_no {s : ByteArray} {many : Int} {w : World} (h : wordsOK s many = false) : WordsRes s many w ⟨#[]⟩ (.slice none 0 0) false := ⟨h.symm, (fun h => by cases h), fun _ => ⟨rfl, rfl⟩⟩
/-- The numbers' cells while the loop goes: the first k are there, noughts behind. -/
def numsTo (Q : List ByteArray) (k : Nat) : List Value := ((numsB (Q.take k)).map (Value.int .i64)) ++ List.replicate (Q.length - k) (.int .i64 0)
theorem numsTo_len (Q : List ByteArray) (k : Nat) (hk : k ≤ Q.length) : (numsTo Q k).length = Q.length := by
  unfold numsTo numsB; simp; omega
theorem numsTo_set (Q : List ByteArray) (k : Nat) (hk : k < Q.length) : (numsTo Q k).toArray.setIfInBounds k (.int .i64 ((numV Q[k].data.toList : Nat) : Int)) = (numsTo Q (k + 1)).toArray := by
  have hl : ((numsB (Q.take k)).map (Value.int .i64)).length = k := by unfold numsB; simp; omega
  have e1 : Q.length - k = (Q.length - (k + 1)) + 1 := by omega
  have e2 : numsB (Q.take (k + 1)) = numsB (Q.take k) ++ [((numV Q[k].data.toList : Nat) : Int)] := by
    unfold numsB; rw [List.take_succ_eq_append_getElem hk, List.map_append]; rfl
  unfold numsTo
  rw [e1, e2, List.replicate_succ, List.map_append, List.setIfInBounds_toArray]
  congr 1
  rw [List.set_append_right _ _ (by omega), hl, Nat.sub_self, List.set_cons_zero]
  simp
theorem numsTo_all (Q : List ByteArray) : numsTo Q Q.length = (numsB Q).map (Value.int .i64) := by unfold numsTo; simp
theorem numsTo_at (Q : List ByteArray) (k : Nat) (hk : k < Q.length) : (numsTo Q k).toArray[k]? = some (.int .i64 0) := by
  have hl : ((numsB (Q.take k)).map (Value.int .i64)).length = k := by unfold numsB; simp; omega
  unfold numsTo
  rw [List.getElem?_toArray, List.getElem?_append_right (by omega), hl, Nat.sub_self, List.getElem?_replicate, if_pos (by omega)]
/-- All pieces ahead of a place are numbers. -/
def okTo (Q : List ByteArray) (k : Nat) : Prop := ∀ t ∈ Q.take k, okN t.data.toList = true
theorem okTo_zero (Q : List ByteArray) : okTo Q 0 := by intro t ht; simp at ht
theorem okTo_succ {Q : List ByteArray} {k : Nat} (h : okTo Q k) (hk : k < Q.length) (hd : okN Q[k].data.toList = true) : okTo Q (k + 1) := by
  intro b hb
  rw [List.take_succ_eq_append_getElem hk, List.mem_append] at hb
  rcases hb with hb | hb
  · exact h b hb
  · rw [List.mem_singleton] at hb; subst hb; exact hd
theorem words_no_at {s : ByteArray} {many : Int} {q : ByteArray} {Q : List ByteArray} (h : cutB 32 s = q :: Q) {k : Nat} (hk : k < Q.length) (hd : okN Q[k].data.toList = false) : wordsOK s many = false := by
  unfold wordsOK
  rw [h, List.tail_cons]
  have : Q.all (fun t => okN t.data.toList) = false := List.all_eq_false.2 ⟨Q[k], List.getElem_mem hk, by simp [hd]⟩
  rw [this]; simp
theorem words_yes {s : ByteArray} {q : ByteArray} {Q : List ByteArray} (h : cutB 32 s = q :: Q) (hd : okTo Q Q.length) : wordsOK s (Q.length : Int) = true ∧ headB s = q ∧ numsOf s = numsB Q := by
  unfold wordsOK headB numsOf
  rw [h, List.tail_cons]
  refine ⟨?_, rfl, rfl⟩
  have : Q.all (fun t => okN t.data.toList) = true := List.all_eq_true.2 (fun t ht => hd t (by rw [List.take_length]; exact ht))
  rw [this]; simp
theorem words_count {s : ByteArray} {many : Int} (h : ¬ ((cutB 32 s).length : Int) - 1 = many) : wordsOK s many = false := by
  unfold wordsOK
  have : decide (((cutB 32 s).length : Int) = many + 1) = false := by simp; omega
  rw [this]; simp
theorem pieces_le {s : ByteArray} {c : UInt8} {t : ByteArray} (h : t ∈ cutB c s) : t.size ≤ 100000000 ∨ 100000 < s.size := by
  by_cases hb : 100000 < s.size
  · exact .inr hb
  · left
    have key : ∀ (l p : List UInt8), p ∈ cutL c l → p.length ≤ l.length := by
      intro l
      induction l with
      | nil => intro p hp; simp [cutL] at hp; subst hp; simp
      | cons b l ih =>
        intro p hp
        unfold cutL at hp
        split at hp
        · rcases List.mem_cons.1 hp with rfl | hp
          · simp
          · have := ih p hp; simp; omega
        · rcases List.mem_cons.1 hp with rfl | hp
          · have := cutL_ne c l
            cases hc : cutL c l with
            | nil => exact absurd hc this
            | cons a r =>
              have := ih a (by rw [hc]; exact List.mem_cons_self)
              simp; omega
          · have := ih p (List.mem_of_mem_tail hp); simp; omega
    obtain ⟨p, hp, rfl⟩ := List.mem_map.1 h
    have := key _ _ hp
    have e : (⟨p.toArray⟩ : ByteArray).size = p.length := by simp [ByteArray.size]
    rw [e, Lib.size_eq] at *; omega
theorem ret3 {p p' : ByteArray} {v : Value} {b b' : Bool} (h : p = p') (k : b = b') : Ending.returned (.tuple #[.string p, v, .bool b]) = .returned (.tuple #[.string p', v, .bool b']) := by rw [h, k]
set_option maxHeartbeats 2000000 in
theorem words_any (s : ByteArray) (many : Int) (w : World) (he : Env w) (hs : s.size ≤ 100000) :
    Calls Tryd.prog 24 #[.string s, .int .i64 many] w fun e w' => ∃ p v b, e = .returned (.tuple #[.string p, v, .bool b]) ∧ WordsRes s many w' p v b ∧ Below w.heap.size w w' := by
  have CC := Lib.hid (count_byte s 32 w)
  by_cases hm : ((cutB 32 s).length : Int) - 1 = many
  case neg =>
    have HR := Lib.hid (words_count hm)
    have hne : ((((cutB 32 s).length : Int) - 1) != many) = true := by rw [bne_iff_ne]; exact hm
    clear hm
    go_enter Tryd.func24, Tryd.ntmps24
    go_wp2_with fail
    refine (CC.out).mono ?_
    rintro e w' ⟨rfl, rfl⟩
    go_wp2_with fail
    go_ret3
    exact ⟨_, _, _, rfl, wordsRes_no HR.out, Below.refl _ _⟩
  obtain ⟨hl1, hl2⟩ := cut_len_le 32 s
  have CS := Lib.hid (split_byte s 32 w he hs)
  have HP : Hid (∀ t ∈ cutB 32 s, t.size ≤ 9223372036854775807) := Lib.hid (fun t ht => by rcases pieces_le ht with h | h <;> omega)
  have hS := strs_lit w (cutB 32 s) (by unfold maxLen; omega)
  have hb1 := (Below.refl w.heap.size w).alloc (Nat.le_refl _) (.cells ((cutB 32 s).map Value.string).toArray 9)
  obtain ⟨q, Q, hqQ⟩ : ∃ q Q, cutB 32 s = q :: Q := by
    cases h : cutB 32 s with
    | nil => rw [h] at hl2; simp at hl2
    | cons q Q => exact ⟨q, Q, rfl⟩
  have HQ := Lib.hid hqQ
  rw [hqQ] at CC CS HP hS hb1 hm hl1
  rw [List.length_cons] at CC CS hm hl1 hS
  clear hqQ hl2
  obtain ⟨n, hn⟩ : ∃ n, n = Q.length := ⟨_, rfl⟩
  have HN := Lib.hid hn
  rw [← hn] at CC CS hm hl1 hS
  obtain rfl : many = (n : Int) := by omega
  have hnb : (n : Int) ≤ 1000000 := by omega
  rw [show ((n + 1 : Nat) : Int) - 1 = (n : Int) from by omega] at CC
  have hmk := fun W => Go.run_make_row' (P := Tryd.prog) 30 3 (.int .i64 0) 8 Tryd.underlying30 infoInt rfl .i64 .i64 n (by omega) (by omega) W
  clear hn hm he hs hl1
  go_enter Tryd.func24, Tryd.ntmps24
  go_wp2_with fail
  refine (CC.out).mono ?_
  rintro e w' ⟨rfl, rfl⟩
  go_wp2_with fail
  refine (CS.out).mono ?_
  rintro e w' ⟨rfl, rfl⟩
  generalize w.alloc (.cells ((q :: Q).map Value.string).toArray 9) = w1 at *
  clear CS CC
  have hW := Whole.new w1 3 (madeCells #[.int .i64 0] n)
  have hb2 := (Below.refl w1.heap.size w1).alloc (Nat.le_refl _) (.cells (madeCells #[.int .i64 0] n) 3)
  have hg := hS.at (k := 0) (by simp)
  obtain ⟨g0, o0, hg0, hc0⟩ := hg
  cases hg0
  have hz1 := hb1.size
  rw [show madeCells #[.int .i64 0] n = (numsTo Q 0).toArray from by
    apply Array.ext
    · rw [size_madeCells]; simp [numsTo, numsB, HN.out]
    · intro i h1 h2
      simp [madeCells, numsTo, numsB, Nat.mod_one]] at hmk hW hb2
  have HE : Hid (Strs w1 (.slice (some ⟨w.heap.size, 0, none⟩) (n + 1) (n + 1)) (q :: Q)) := Lib.hid hS
  change w1.cell? ⟨w.heap.size, 0, none⟩ = some (.string q) at hc0
  clear hS
  have FIN : Hid (∀ wr, okTo Q n → Whole wr w1.heap.size 3 (numsTo Q n).toArray → WordsRes s (n : Int) wr q (.slice (some ⟨w1.heap.size, 0, none⟩) n n) true) := Lib.hid (fun wr h1 h2 => by
    have hN := HN.out
    rw [hN] at h1
    obtain ⟨e1, e2, e3⟩ := words_yes HQ.out h1
    rw [← hN] at e1
    refine ⟨e1.symm, fun _ => ⟨e2.symm, ?_⟩, fun h => by cases h⟩
    have hr := h2.row (numsTo_len Q n (by omega) |>.trans hN.symm) (by unfold maxLen; omega)
    have hl : (numsB Q).length = n := by unfold numsB; simp; omega
    rw [e3]
    unfold Ints
    rw [hl]
    have e4 : numsTo Q n = (numsB Q).map (Value.int .i64) := by
      have := numsTo_all Q
      rw [← hN] at this
      exact this
    rw [e4] at hr
    exact hr)
  have hzs := Whole.lt hW
  rcases Nat.eq_zero_or_pos n with h0 | h0
  · subst h0
    change (∀ W, (Instr.makeSlice 30 (.int .i64 0) (.int .i64 0)).run Tryd.prog W = _) at hmk
    have HW := Lib.hid hW
    have hc1 : (w1.alloc (.cells (numsTo Q 0).toArray 3)).cell? ⟨w.heap.size, 0, none⟩ = some (.string q) := by rw [hb2.cell (p := ⟨w.heap.size, 0, none⟩) (block_lt hc0)]; exact hc0
    clear hW hc0
    go_wp2_with fail
    refine wp_loop_rounds 1 ?_
    rw [rounds_succ]
    go_wp2_with fail
    go_ret3
    exact ⟨_, _, _, rfl, FIN.out _ (okTo_zero Q) HW.out, hb1.trans (hb2.mono hz1)⟩
  · have hn1 : ¬ n + 1 = 1 := by omega
    have HW0 := Lib.hid hW
    have HC : Hid (∀ wr, Below w1.heap.size w1 wr → wr.cell? ⟨w.heap.size, 0, none⟩ = some (.string q)) := Lib.hid (fun wr hb => by rw [hb.cell (p := ⟨w.heap.size, 0, none⟩) (block_lt hc0)]; exact hc0)
    clear hW hc0
    go_wp2_with fail
    go_loopw [24] (fun i wr => ∃ k : Nat, k ≤ n ∧ i = .int .i64 k ∧ okTo Q k ∧ Whole wr w1.heap.size 3 (numsTo Q k).toArray ∧ Below w1.heap.size w1 wr) (fun i _ => n - (intOf i).toNat)
    case atStart => exact ⟨0, by omega, rfl, okTo_zero Q, HW0.out, hb2⟩
    case round =>
      obtain ⟨k, hk, rfl, hok, hw, hb⟩ := hrel
      have HOK := Lib.hid hok
      have HW := Lib.hid hw
      have hzr := hb.size
      have hwl := hw.lt
      clear hok hw
      by_cases hlt : k < n
      · have hki : (k : Int) < (n : Int) := by omega
        have hkq : k < Q.length := by have := HN.out; omega
        obtain ⟨g1, o1, hg1, hc1⟩ := (HE.out.below hb).at (k := k + 1) (by rw [List.length_cons]; omega)
        cases hg1
        change wr.cell? ⟨w.heap.size, 0 + (k + 1), none⟩ = some (.string Q[k]) at hc1
        rw [show 0 + (k + 1) = 1 + k from by omega] at hc1
        have hz := HW.out.cell k
        rw [numsTo_at Q k hkq] at hz
        have hf := HW.out.frozen k
        have hts := HP.out Q[k] (List.mem_cons_of_mem _ (List.getElem_mem hkq))
        have CN := Lib.hid (number_any Q[k] wr (by unfold maxLen; omega))
        have HSET := Lib.hid (numsTo_set Q k hkq)
        cases hd : okN Q[k].data.toList
        · have HR := Lib.hid (words_no_at (many := (n : Int)) HQ.out hkq hd)
          rw [hd] at CN
          clear hd
          generalize numV Q[k].data.toList = x at *
          generalize Q[k] = t at *
          go_wp2_with fail
          refine (CN.out).mono ?_
          rintro e w' ⟨rfl, rfl⟩
          go_wp2_with fail
          go_ret3
          exact ⟨_, _, _, rfl, wordsRes_no HR.out, hb1.trans (hb.mono hz1)⟩
        · have HOK' := Lib.hid (okTo_succ HOK.out hkq hd)
          rw [hd] at CN
          clear hd
          generalize numV Q[k].data.toList = x at *
          generalize Q[k] = t at *
          go_wp2_with fail
          refine (CN.out).mono ?_
          rintro e w' ⟨rfl, rfl⟩
          go_wp2_with fail
          go_roundw
          case rel => exact ⟨k + 1, by omega, by go_num, HOK'.out, by rw [← HSET.out]; exact HW.out.put _ _, below_put hb (Nat.le_refl _) _ _⟩
          case measure => simp [intOf]; omega
      · obtain rfl : k = n := by omega
        have hc2 := HC.out _ hb
        go_wp2_with fail
        go_ret3
        exact ⟨_, _, _, rfl, FIN.out _ HOK.out HW.out, hb1.trans (hb.mono hz1)⟩
end Go.Proofs.YtjfegknokombgaaDoor
