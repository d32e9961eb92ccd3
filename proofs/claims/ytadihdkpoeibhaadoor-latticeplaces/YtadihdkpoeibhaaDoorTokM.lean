/- Plain facts on lines, words, and numbers in words: pieces between a byte, a word's number, a numeral; nothing of the program. -/
import Derived.Lib.ItoaNum
import Derived.Lib.SplitLaws
namespace Go.Proofs.YtadihdkpoeibhaaDoor
set_option maxRecDepth 100000

/-- The pieces of a text between a byte. -/
def cutL (c : UInt8) : List UInt8 → List (List UInt8)
  | [] => [[]]
  | b :: l => if b = c then [] :: cutL c l else (b :: (cutL c l).headD []) :: (cutL c l).tail
theorem cutL_ne (c : UInt8) (l : List UInt8) : cutL c l ≠ [] := by
  cases l with
  | nil => simp [cutL]
  | cons b l => unfold cutL; split <;> simp
theorem cutL_length (c : UInt8) : ∀ l : List UInt8, (cutL c l).length = l.count c + 1
  | [] => rfl
  | b :: l => by
    have ih := cutL_length c l
    unfold cutL
    split
    · rename_i h; subst h; simp [ih]
    · rename_i h
      have : (b :: l).count c = l.count c := List.count_cons_of_ne (by simpa using h)
      rw [this]; simp [ih]
theorem cutL_none {c : UInt8} : ∀ {l : List UInt8}, (∀ x ∈ l, x ≠ c) → cutL c l = [l]
  | [], _ => rfl
  | b :: l, h => by
    have hb := h b List.mem_cons_self
    have ih := cutL_none (l := l) (fun x hx => h x (List.mem_cons_of_mem _ hx))
    unfold cutL
    rw [if_neg hb, ih]; rfl
theorem cutL_app {c : UInt8} (r : List UInt8) : ∀ {a : List UInt8}, (∀ x ∈ a, x ≠ c) → cutL c (a ++ c :: r) = a :: cutL c r
  | [], _ => by simp [cutL]
  | b :: a, h => by
    have hb := h b List.mem_cons_self
    have ih := cutL_app r (a := a) (fun x hx => h x (List.mem_cons_of_mem _ hx))
    rw [List.cons_append, cutL, if_neg hb, ih]; rfl
/-- No byte of what stands from one place to another one is the one that is cut at. -/
def Clear (c : UInt8) (l : List UInt8) (a i : Nat) : Prop := ∀ x ∈ (l.drop a).take (i - a), x ≠ c
theorem clear_nil (c : UInt8) (l : List UInt8) (a : Nat) : Clear c l a a := by intro x hx; simp at hx
theorem clear_next {c : UInt8} {l : List UInt8} {a i : Nat} (h : Clear c l a i) (ha : a ≤ i) (hi : i < l.length) (hne : l[i] ≠ c) : Clear c l a (i + 1) := by
  intro x hx
  have e : i + 1 - a = (i - a) + 1 := by omega
  have hlt : i - a < (l.drop a).length := by rw [List.length_drop]; omega
  rw [e, List.take_succ_eq_append_getElem hlt, List.mem_append] at hx
  rcases hx with hx | hx
  · exact h x hx
  · rw [List.mem_singleton] at hx
    subst hx
    rw [List.getElem_drop]
    have : a + (i - a) = i := by omega
    simpa only [this] using hne
theorem cut_hit {c : UInt8} {l : List UInt8} {a i : Nat} (h : Clear c l a i) (ha : a ≤ i) (hi : i < l.length) (he : l[i] = c) :
    cutL c (l.drop a) = (l.drop a).take (i - a) :: cutL c (l.drop (i + 1)) := by
  have e : l.drop a = (l.drop a).take (i - a) ++ c :: l.drop (i + 1) := by
    have h1 : (l.drop a).drop (i - a) = l.drop i := by rw [List.drop_drop]; congr 1; omega
    have h2 : l.drop i = c :: l.drop (i + 1) := by rw [List.drop_eq_getElem_cons hi, he]
    rw [← h2, ← h1, List.take_append_drop]
  calc cutL c (l.drop a) = cutL c ((l.drop a).take (i - a) ++ c :: l.drop (i + 1)) := by rw [← e]
    _ = _ := cutL_app _ h
theorem cut_end {c : UInt8} {l : List UInt8} {a : Nat} (h : Clear c l a l.length) : cutL c (l.drop a) = [l.drop a] := by
  apply cutL_none
  intro x hx
  apply h x
  rw [List.take_of_length_le (by rw [List.length_drop]; omega)]
  exact hx

theorem index_app (c : UInt8) (r : List UInt8) : ∀ (a : List UInt8), (∀ x ∈ a, x ≠ c) → Lib.index (a ++ c :: r) [c] = (a.length : Int)
  | [], _ => by rw [List.nil_append, Lib.index]; simp [List.isPrefixOf]
  | b :: a, h => by
    have hb := h b List.mem_cons_self
    have ih := index_app c r a (fun x hx => h x (List.mem_cons_of_mem _ hx))
    have hp : ([c] : List UInt8).isPrefixOf (b :: (a ++ c :: r)) = false := by simp [List.isPrefixOf, Ne.symm hb]
    rw [List.cons_append, Lib.index, hp, ih]
    have : ((a.length : Int) == -1) = false := by rw [beq_eq_false_iff_ne]; omega
    simp [this]
theorem index_none (c : UInt8) : ∀ (a : List UInt8), (∀ x ∈ a, x ≠ c) → Lib.index a [c] = -1
  | [], _ => by simp [Lib.index]
  | b :: a, h => by
    have hb := h b List.mem_cons_self
    have ih := index_none c a (fun x hx => h x (List.mem_cons_of_mem _ hx))
    have hp : ([c] : List UInt8).isPrefixOf (b :: a) = false := by simp [List.isPrefixOf, Ne.symm hb]
    rw [Lib.index, hp, ih]; simp
theorem first_of (c : UInt8) : ∀ (l : List UInt8), (∀ x ∈ l, x ≠ c) ∨ ∃ a r, l = a ++ c :: r ∧ ∀ x ∈ a, x ≠ c
  | [] => .inl (by simp)
  | b :: l => by
    by_cases hb : b = c
    · exact .inr ⟨[], l, by rw [hb]; rfl, by simp⟩
    · rcases first_of c l with h | ⟨a, r, rfl, h⟩
      · refine .inl fun x hx => ?_
        rcases List.mem_cons.1 hx with rfl | hx
        · exact hb
        · exact h x hx
      · refine .inr ⟨b :: a, r, rfl, fun x hx => ?_⟩
        rcases List.mem_cons.1 hx with rfl | hx
        · exact hb
        · exact h x hx
theorem splitK_cut (c : UInt8) : ∀ (k : Nat) (l : List UInt8), l.count c = k → Lib.splitK [c] 0 k l = cutL c l
  | 0, l, h => by
    have hn : ∀ x ∈ l, x ≠ c := by
      intro x hx e
      subst e
      exact absurd (List.count_pos_iff.2 hx) (by omega)
    rw [Lib.splitK, cutL_none hn]
  | k + 1, l, h => by
    rcases first_of c l with hn | ⟨a, r, rfl, ha⟩
    · exfalso
      have : l.count c = 0 := List.count_eq_zero.2 (fun hm => hn c hm rfl)
      omega
    · have hix := index_app c r a ha
      have hm : (Lib.index (a ++ c :: r) [c] == -1) = false := by rw [hix, beq_eq_false_iff_ne]; omega
      have hc : r.count c = k := by
        have : a.count c = 0 := List.count_eq_zero.2 (fun hm => ha c hm rfl)
        rw [List.count_append, List.count_cons_self, this] at h
        omega
      rw [Lib.splitK, hm, hix, cutL_app r ha]
      simp only [Bool.false_eq_true, if_false, Int.toNat_natCast, Nat.add_zero, List.length_cons, List.length_nil]
      have e1 : (a ++ c :: r).take a.length = a := by simp
      have e2 : (a ++ c :: r).drop (a.length + (0 + 1)) = r := by
        rw [show a ++ c :: r = (a ++ [c]) ++ r from by simp]
        rw [List.drop_append_of_le_length (by simp)]
        simp
      rw [e1, e2, splitK_cut c k r hc]
/-- The pieces as texts. -/
def cutB (c : UInt8) (s : ByteArray) : List ByteArray := (cutL c s.data.toList).map fun l => ⟨l.toArray⟩
theorem byteArray_ext {a b : ByteArray} (h : a.data.toList = b.data.toList) : a = b := by
  obtain ⟨⟨a⟩⟩ := a; obtain ⟨⟨b⟩⟩ := b; simp at h; rw [h]
theorem splitB_cut (c : UInt8) (s : ByteArray) : Lib.splitB ⟨#[c]⟩ 0 (Lib.countB s ⟨#[c]⟩) s = cutB c s := by
  have h := Lib.splitB_data ⟨#[c]⟩ 0 (Lib.countB s ⟨#[c]⟩) s
  have hc : Lib.countB s ⟨#[c]⟩ = s.data.toList.count c := Lib.count_one c _
  rw [hc] at h ⊢
  rw [show (⟨#[c]⟩ : ByteArray).data.toList = [c] from rfl, splitK_cut c _ _ rfl] at h
  unfold cutB
  rw [← h, List.map_map]
  symm
  calc _ = (Lib.splitB ⟨#[c]⟩ 0 (s.data.toList.count c) s).map id := List.map_congr_left (fun a _ => byteArray_ext (by simp))
    _ = _ := List.map_id _
theorem countB_cut (c : UInt8) (s : ByteArray) : Lib.countB s ⟨#[c]⟩ = s.data.toList.count c := Lib.count_one c _
theorem cutB_length (c : UInt8) (s : ByteArray) : (cutB c s).length = s.data.toList.count c + 1 := by
  unfold cutB; rw [List.length_map, cutL_length]

/-- Is a byte a digit? -/
def isD (b : UInt8) : Bool := decide (48 ≤ b.toNat) && decide (b.toNat ≤ 57)
/-- What digits say. -/
def valL (l : List UInt8) : Nat := l.foldl (fun n b => n * 10 + (b.toNat - 48)) 0
/-- Is a word one number at least ahead of which there stands a nought? -/
def nought (l : List UInt8) : Bool := decide (1 < l.length) && (l.headD 0 == 48)
/-- Is a word a number? -/
def okN (l : List UInt8) : Bool := decide (0 < l.length) && l.all isD && !nought l && decide (valL l ≤ 2147483647)
def numV (l : List UInt8) : Nat := if okN l = true then valL l else 0
theorem valL_snoc (l : List UInt8) (b : UInt8) : valL (l ++ [b]) = valL l * 10 + (b.toNat - 48) := by unfold valL; rw [List.foldl_append]; rfl
theorem valL_mono (r : List UInt8) : ∀ l : List UInt8, valL l ≤ valL (l ++ r) := by
  induction r with
  | nil => intro l; simp
  | cons b r ih =>
    intro l
    have h1 := ih (l ++ [b])
    rw [List.append_assoc, List.singleton_append] at h1
    have h2 := valL_snoc l b
    omega
theorem valL_take_le (l : List UInt8) (k : Nat) : valL (l.take k) ≤ valL l := by
  have := valL_mono (l.drop k) (l.take k)
  rwa [List.take_append_drop] at this
theorem valL_take_succ (l : List UInt8) (k : Nat) (hk : k < l.length) : valL (l.take (k + 1)) = valL (l.take k) * 10 + (l[k].toNat - 48) := by
  rw [List.take_succ_eq_append_getElem hk, valL_snoc]
theorem okN_empty {l : List UInt8} (h : l.length = 0) : okN l = false := by
  unfold okN; simp [h]
theorem okN_nought {l : List UInt8} (h : nought l = true) : okN l = false := by
  unfold okN; simp [h]
theorem okN_digit {l : List UInt8} {k : Nat} (hk : k < l.length) (h : isD l[k] = false) : okN l = false := by
  unfold okN
  have : l.all isD = false := by
    rw [List.all_eq_false]
    exact ⟨l[k], List.getElem_mem hk, by simp [h]⟩
  simp [this]
theorem okN_big {l : List UInt8} {k : Nat} (h : 2147483647 < valL (l.take k)) : okN l = false := by
  unfold okN
  have := valL_take_le l k
  have : decide (valL l ≤ 2147483647) = false := by simp; omega
  simp [this]
theorem numV_no {l : List UInt8} (h : okN l = false) : numV l = 0 := by unfold numV; simp [h]
/-- All bytes ahead of a place are digits. -/
def digTo (l : List UInt8) (k : Nat) : Prop := ∀ b ∈ l.take k, isD b = true
theorem digTo_zero (l : List UInt8) : digTo l 0 := by intro b hb; simp at hb
theorem digTo_succ {l : List UInt8} {k : Nat} (h : digTo l k) (hk : k < l.length) (hd : isD l[k] = true) : digTo l (k + 1) := by
  intro b hb
  rw [List.take_succ_eq_append_getElem hk, List.mem_append] at hb
  rcases hb with hb | hb
  · exact h b hb
  · rw [List.mem_singleton] at hb; subst hb; exact hd
theorem okN_yes {l : List UInt8} (h0 : 0 < l.length) (hn : nought l = false) (hd : digTo l l.length) (hv : valL (l.take l.length) ≤ 2147483647) : okN l = true ∧ numV l = valL (l.take l.length) := by
  rw [List.take_length] at hv
  have h1 : okN l = true := by
    unfold okN
    have : l.all isD = true := by
      rw [List.all_eq_true]
      intro b hb
      exact hd b (by rw [List.take_length]; exact hb)
    simp [h0, hn, this, hv]
  exact ⟨h1, by unfold numV; rw [if_pos h1, List.take_length]⟩
theorem numV_le (l : List UInt8) : numV l ≤ 2147483647 := by
  unfold numV
  split
  · rename_i h; unfold okN at h; simp at h; exact h.2
  · omega

/-! ### Numerals -/
theorem isD_ofNat {d : Nat} (h : d < 10) : isD (UInt8.ofNat (48 + d)) = true ∧ (UInt8.ofNat (48 + d)).toNat = 48 + d := by
  have e : (UInt8.ofNat (48 + d)).toNat = 48 + d := by rw [UInt8.toNat_ofNat']; omega
  refine ⟨?_, e⟩
  unfold isD; rw [e]; simp; omega
theorem dec_small {u : Nat} (h : u < 10) : Lib.decDigits u = [UInt8.ofNat (48 + u)] := by rw [Lib.decDigits, dif_pos h]
theorem dec_big {u : Nat} (h : ¬ u < 10) : Lib.decDigits u = Lib.decDigits (u / 10) ++ [UInt8.ofNat (48 + u % 10)] := by rw [Lib.decDigits, dif_neg h]
theorem dec_all (u : Nat) : (∀ b ∈ Lib.decDigits u, isD b = true) ∧ valL (Lib.decDigits u) = u ∧ 0 < (Lib.decDigits u).length ∧ (0 < u → (Lib.decDigits u).headD 0 ≠ 48) := by
  induction u using Nat.strongRecOn with
  | _ u ih =>
    by_cases h : u < 10
    · obtain ⟨h1, h2⟩ := isD_ofNat h
      rw [dec_small h]
      refine ⟨?_, ?_, by simp, ?_⟩
      · intro b hb; rw [List.mem_singleton] at hb; subst hb; exact h1
      · unfold valL; simp only [List.foldl_cons, List.foldl_nil, h2]; omega
      · intro h0 he
        have : (UInt8.ofNat (48 + u)).toNat = 48 := by rw [show UInt8.ofNat (48 + u) = 48 from he]; rfl
        omega
    · obtain ⟨i1, i2, i3, i4⟩ := ih (u / 10) (by omega)
      obtain ⟨h1, h2⟩ := isD_ofNat (Nat.mod_lt u (by decide : 0 < 10))
      rw [dec_big h]
      refine ⟨?_, ?_, by simp, ?_⟩
      · intro b hb
        rw [List.mem_append] at hb
        rcases hb with hb | hb
        · exact i1 b hb
        · rw [List.mem_singleton] at hb; subst hb; exact h1
      · rw [valL_snoc, i2, h2]; omega
      · intro _
        have := i4 (by omega)
        cases hd : Lib.decDigits (u / 10) with
        | nil => rw [hd] at i3; simp at i3
        | cons a r => rw [hd] at this; simpa using this
theorem dec_nought (u : Nat) : nought (Lib.decDigits u) = false := by
  unfold nought
  by_cases h : u < 10
  · rw [dec_small h]; rfl
  · have h4 := (dec_all u).2.2.2 (by omega)
    have : ((Lib.decDigits u).headD 0 == 48) = false := by simpa using h4
    rw [this]; simp
/-- A word of digits, no nought ahead, is its number's numeral. -/
theorem dec_val : ∀ (n : Nat) (l : List UInt8), l.length = n → 0 < n → (∀ b ∈ l, isD b = true) → nought l = false → Lib.decDigits (valL l) = l ∧ (1 < n → 0 < valL l) := by
  intro n
  induction n with
  | zero => intro l _ h; omega
  | succ n ih =>
    intro l hl _ hd hn
    have hne : l ≠ [] := by intro e; subst e; simp at hl
    obtain ⟨m, d, rfl⟩ : ∃ m d, l = m ++ [d] := ⟨l.dropLast, l.getLast hne, (List.dropLast_concat_getLast hne).symm⟩
    have hml : m.length = n := by simp at hl; omega
    have hdd := hd d (by simp)
    have hd' : 48 ≤ d.toNat ∧ d.toNat ≤ 57 := by unfold isD at hdd; simp at hdd; exact hdd
    have hde : UInt8.ofNat (48 + (d.toNat - 48)) = d := by
      rw [show 48 + (d.toNat - 48) = d.toNat from by omega]; simp
    by_cases h0 : n = 0
    · subst h0
      have hm : m = [] := List.eq_nil_of_length_eq_zero hml
      subst hm
      have hv : valL [d] = d.toNat - 48 := by simp [valL]
      rw [List.nil_append, hv, dec_small (by omega), hde]
      exact ⟨rfl, by omega⟩
    · obtain ⟨a, r, rfl⟩ : ∃ a r, m = a :: r := by
        cases m with
        | nil => simp at hml; omega
        | cons a r => exact ⟨a, r, rfl⟩
      have ha : a ≠ 48 := by
        intro e; subst e
        unfold nought at hn
        simp at hn
      have hn' : nought (a :: r) = false := by
        unfold nought
        have : ((a :: r).headD 0 == 48) = false := by simpa using ha
        rw [this]; simp
      obtain ⟨i1, i2⟩ := ih (a :: r) hml (by omega) (fun b hb => hd b (List.mem_append_left _ hb)) hn'
      have hpos : 0 < valL (a :: r) := by
        by_cases h1 : 1 < n
        · exact i2 h1
        · have hr : r = [] := List.eq_nil_of_length_eq_zero (by simp at hml; omega)
          subst hr
          have hda := hd a (by simp)
          have : 48 ≤ a.toNat := by unfold isD at hda; simp at hda; exact hda.1
          have : a.toNat ≠ 48 := by intro e; exact ha (UInt8.toNat_inj.1 (by simpa using e))
          simp [valL]; omega
      rw [valL_snoc]
      refine ⟨?_, by omega⟩
      rw [dec_big (by omega)]
      rw [show (valL (a :: r) * 10 + (d.toNat - 48)) / 10 = valL (a :: r) by omega, show (valL (a :: r) * 10 + (d.toNat - 48)) % 10 = d.toNat - 48 by omega, i1, hde]
theorem dec_val' {l : List UInt8} (h0 : 0 < l.length) (hd : ∀ b ∈ l, isD b = true) (hn : nought l = false) : Lib.decDigits (valL l) = l := (dec_val l.length l rfl h0 hd hn).1
theorem dec_val_ne {l : List UInt8} (hn : nought l = true) : Lib.decDigits (valL l) ≠ l := by
  intro e
  have := dec_nought (valL l)
  rw [e, hn] at this; cases this
theorem pow_nDigits (u : Nat) : 0 < u → 10 ^ (Lib.nDigits u - 1) ≤ u := by
  induction u using Nat.strongRecOn with
  | _ u ih =>
    intro h0
    by_cases h : u < 10
    · rw [Lib.nDigits_small h]; simp; omega
    · have := ih (u / 10) (by omega) (by omega)
      have hp := Lib.nDigits_pos (u / 10)
      rw [Lib.nDigits_big h]
      obtain ⟨k, hk⟩ : ∃ k, Lib.nDigits (u / 10) = k + 1 := ⟨Lib.nDigits (u / 10) - 1, by omega⟩
      rw [hk] at this ⊢
      simp only [Nat.add_sub_cancel] at this ⊢
      rw [Nat.pow_succ]; omega
theorem dec_length (u : Nat) : (Lib.decDigits u).length = Lib.nDigits u := by rw [Lib.decDigits_eq]; simp
/-- A longer word of digits, no nought ahead, says more than ten digits can. -/
theorem val_long {l : List UInt8} (h : 10 < l.length) (hd : ∀ b ∈ l, isD b = true) (hn : nought l = false) : 2147483647 < valL l := by
  obtain ⟨h1, h2⟩ := dec_val l.length l rfl (by omega) hd hn
  have h3 := pow_nDigits (valL l) (h2 (by omega))
  rw [← dec_length, h1] at h3
  have h4 : 10 ^ 10 ≤ 10 ^ (l.length - 1) := Nat.pow_le_pow_right (by decide) (by omega)
  have h5 : (10 : Nat) ^ 10 = 10000000000 := by decide
  omega
theorem val_ten : ∀ (n : Nat) (l : List UInt8), l.length = n → (∀ b ∈ l, isD b = true) → valL l < 10 ^ n := by
  intro n
  induction n with
  | zero => intro l hl _; have : l = [] := List.eq_nil_of_length_eq_zero hl; subst this; simp [valL]
  | succ n ih =>
    intro l hl hd
    have hne : l ≠ [] := by intro e; subst e; simp at hl
    obtain ⟨m, d, rfl⟩ : ∃ m d, l = m ++ [d] := ⟨l.dropLast, l.getLast hne, (List.dropLast_concat_getLast hne).symm⟩
    have hdd := hd d (by simp)
    have hd' : 48 ≤ d.toNat ∧ d.toNat ≤ 57 := by unfold isD at hdd; simp at hdd; exact hdd
    have := ih m (by simp at hl; omega) (fun b hb => hd b (List.mem_append_left _ hb))
    rw [valL_snoc, Nat.pow_succ]; omega
theorem numV_dec {u : Nat} (h : u ≤ 2147483647) : okN (Lib.decDigits u) = true ∧ numV (Lib.decDigits u) = u := by
  obtain ⟨h1, h2, h3, _⟩ := dec_all u
  have hk : okN (Lib.decDigits u) = true := by
    unfold okN
    have : (Lib.decDigits u).all isD = true := List.all_eq_true.2 h1
    simp [this, h3, dec_nought, h2, h]
  exact ⟨hk, by unfold numV; rw [if_pos hk, h2]⟩
theorem okN_dec {l : List UInt8} (h : okN l = true) : Lib.decDigits (numV l) = l := by
  have h' := h
  unfold okN at h'
  simp only [Bool.and_eq_true, decide_eq_true_eq, Bool.not_eq_true', List.all_eq_true] at h'
  obtain ⟨⟨⟨h0, hd⟩, hn⟩, _⟩ := h'
  unfold numV; rw [if_pos h]; exact dec_val' h0 hd hn
/-- What the reference asks of a word of digits: its numeral is itself, and it is no more than the greatest. -/
theorem okN_ref {l : List UInt8} (h0 : 0 < l.length) (hd : ∀ b ∈ l, isD b = true) : okN l = (decide (Lib.decDigits (valL l) = l) && decide (valL l ≤ 2147483647)) := by
  have ha : l.all isD = true := List.all_eq_true.2 hd
  unfold okN
  cases hn : nought l with
  | true => have := dec_val_ne hn; simp [this]
  | false => have := dec_val' h0 hd hn; simp [this, ha, h0]
end Go.Proofs.YtadihdkpoeibhaaDoor
