/- The walk of what the token layer's statements ask first. Condition: the library's variables are as a start leaves them. -/
import Derived.Test.YtjfegknokombgaaDoorTokH
import Derived.Test.YtjfegknokombgaaDoorSetG
namespace Go.Proofs.YtjfegknokombgaaDoor
set_option maxRecDepth 100000
open Go.RowKit

theorem words_is (s : ByteArray) (many : Int) (w : World) (he : Env w) (hs : s.size ≤ 100000) (h : wordsOK s many = true) :
    Calls Tryd.prog 24 #[.string s, .int .i64 many] w fun e w' => ∃ v, e = .returned (.tuple #[.string (headB s), v, .bool true]) ∧ Ints w' v (numsOf s) ∧ Below w.heap.size w w' := by
  refine (words_any s many w he hs).mono ?_
  rintro e w' ⟨p, v, b, rfl, ⟨h1, h2, _⟩, hb⟩
  rw [h] at h1
  subst h1
  obtain ⟨rfl, hI⟩ := h2 rfl
  exact ⟨v, rfl, hI, hb⟩
theorem words_isnt (s : ByteArray) (many : Int) (w : World) (he : Env w) (hs : s.size ≤ 100000) (h : wordsOK s many = false) :
    Calls Tryd.prog 24 #[.string s, .int .i64 many] w fun e w' => e = .returned (.tuple #[.string ⟨#[]⟩, .slice none 0 0, .bool false]) ∧ Below w.heap.size w w' := by
  refine (words_any s many w he hs).mono ?_
  rintro e w' ⟨p, v, b, rfl, ⟨h1, _, h2⟩, hb⟩
  rw [h] at h1
  subst h1
  obtain ⟨rfl, rfl⟩ := h2 rfl
  exact ⟨rfl, hb⟩
theorem rwords_is (s : ByteArray) (many : Int) (w : World) (hs : s.size ≤ 100000) (m0 : -9223372036854775808 ≤ many) (m1 : many ≤ 9223372036854775807) (h : wordsOK s many = true) :
    Calls Tryd.prog 25 #[.string s, .int .i64 many] w fun e w' => ∃ v, e = .returned (.tuple #[.string (headB s), v, .bool true]) ∧ Ints w' v (numsOf s) ∧ Below w.heap.size w w' := by
  refine (rwords_any s many w hs m0 m1).mono ?_
  rintro e w' ⟨p, v, b, rfl, ⟨h1, h2, _⟩, hb⟩
  rw [h] at h1
  subst h1
  obtain ⟨rfl, hI⟩ := h2 rfl
  exact ⟨v, rfl, hI, hb⟩
theorem rwords_isnt (s : ByteArray) (many : Int) (w : World) (hs : s.size ≤ 100000) (m0 : -9223372036854775808 ≤ many) (m1 : many ≤ 9223372036854775807) (h : wordsOK s many = false) :
    Calls Tryd.prog 25 #[.string s, .int .i64 many] w fun e w' => e = .returned (.tuple #[.string ⟨#[]⟩, .slice none 0 0, .bool false]) ∧ Below w.heap.size w w' := by
  refine (rwords_any s many w hs m0 m1).mono ?_
  rintro e w' ⟨p, v, b, rfl, ⟨h1, _, h2⟩, hb⟩
  rw [h] at h1
  subst h1
  obtain ⟨rfl, rfl⟩ := h2 rfl
  exact ⟨rfl, hb⟩
theorem same_self (va vb : Value) (a : List Int) (w : World) (ha : Ints w va a) (hb : Ints w vb a) :
    Calls Tryd.prog 18 #[va, vb] w fun e w' => e = .returned (.bool true) ∧ Below w.heap.size w w' := by
  have h := same_any va vb a a w ha hb
  rwa [show sameL a a = true from by simp [sameL]] at h
theorem sp3_words (w : World) (he : Env w) : Calls Tryd.prog 24 #[.string ⟨#[114, 32, 51, 32, 49, 55]⟩, .int .i64 2] w fun e w' => ∃ v, e = .returned (.tuple #[.string ⟨#[114]⟩, v, .bool true]) ∧ Ints w' v [3, 17] ∧ Below w.heap.size w w' := by
  have h := words_is ⟨#[114, 32, 51, 32, 49, 55]⟩ 2 w he (by decide) (by decide)
  rwa [show headB ⟨#[114, 32, 51, 32, 49, 55]⟩ = ⟨#[114]⟩ from by decide, show numsOf ⟨#[114, 32, 51, 32, 49, 55]⟩ = [3, 17] from by decide] at h
theorem sp3_not (w : World) (he : Env w) : Calls Tryd.prog 24 #[.string ⟨#[114, 32, 51, 32, 49, 55]⟩, .int .i64 1] w fun e w' => e = .returned (.tuple #[.string ⟨#[]⟩, .slice none 0 0, .bool false]) ∧ Below w.heap.size w w' :=
  words_isnt ⟨#[114, 32, 51, 32, 49, 55]⟩ 1 w he (by decide) (by decide)
theorem sp3_number (w : World) : Calls Tryd.prog 20 #[.string ⟨#[50, 49, 52, 55, 52, 56, 51, 54, 52, 55]⟩] w fun e w' => e = .returned (.tuple #[.int .i64 2147483647, .bool true]) ∧ w = w' := by
  have h := number_any ⟨#[50, 49, 52, 55, 52, 56, 51, 54, 52, 55]⟩ w (by decide)
  rwa [show ((numV (⟨#[50, 49, 52, 55, 52, 56, 51, 54, 52, 55]⟩ : ByteArray).data.toList : Nat) : Int) = 2147483647 from by decide, show okN (⟨#[50, 49, 52, 55, 52, 56, 51, 54, 52, 55]⟩ : ByteArray).data.toList = true from by decide] at h
theorem sp3_join : joinB ⟨#[119]⟩ [1, -2] = ⟨#[119, 32, 49, 32, 45, 50]⟩ := by
  unfold joinB joinTo
  have e1 : Lib.itoa 1 = [49] := by rw [itoa_digit (by decide) (by decide)]; rfl
  have e2 : Lib.itoa (-2) = [45, 50] := by rw [itoa_neg_digit (by decide) (by decide)]; rfl
  simp only [List.flatMap_cons, List.flatMap_nil, e1, e2]
  rfl
set_option maxHeartbeats 2000000 in
theorem speaks3_any (w : World) (he : Env w) :
    Calls Tryd.prog 19 #[] w fun e w' => e = .returned (.bool true) ∧ Below w.heap.size w w' := by
  have HE := Lib.hid he
  clear he
  go_enter Tryd.func19, Tryd.ntmps19
  go_wp2_with fail
  refine (sp3_words w HE.out).mono ?_
  rintro e w1 ⟨v, rfl, hI1, hb1⟩
  have hz1 := hb1.size
  obtain ⟨ao, cap, rfl, _⟩ := hI1.form
  have HI1 := Lib.hid hI1
  clear hI1
  go_wp2_with fail
  refine (sp3_not w1 (HE.out.below hb1)).mono ?_
  rintro e w2 ⟨rfl, hb2⟩
  have hbb := hb1.trans (hb2.mono hz1)
  have hI2 := HI1.out.below hb2
  go_wp2_with fail
  refine (sp3_number w2).mono ?_
  rintro e w' ⟨rfl, rfl⟩
  have hb3 := (Below.refl w2.heap.size w2).alloc (Nat.le_refl _) (.cells #[.int .i64 3, .int .i64 17] 3)
  have CS := Lib.hid (same_self _ _ [3, 17] _ (hI2.below hb3) (ints_lit w2 [3, 17] #[.int .i64 3, .int .i64 17] 2 rfl rfl (by decide)))
  have hbz := hbb.size
  have hb4 := hbb.trans (hb3.mono hbz)
  have HEN : Hid (∀ wx, Below w.heap.size w wx → Env wx) := Lib.hid (fun wx h => HE.out.below h)
  clear hI2 hb3 HI1 hb1 hb2 hz1
  go_wp2_with fail
  refine (CS.out).mono ?_
  rintro e w4 ⟨rfl, hb5⟩
  have hb6 := hb4.trans (hb5.mono (by simp; omega))
  have hb7 := (Below.refl w4.heap.size w4).alloc (Nat.le_refl _) (.cells #[.int .i64 1, .int .i64 (-2)] 3)
  have hb8 := hb6.trans (hb7.mono hb6.size)
  have CJ := Lib.hid (join_any ⟨#[119]⟩ _ [1, -2] _ (HEN.out _ hb8) (ints_lit w4 [1, -2] #[.int .i64 1, .int .i64 (-2)] 2 rfl rfl (by decide)) (by intro n hn; simp at hn; unfold IntOk; omega) (by decide))
  rw [sp3_join] at CJ
  clear CS hb4 hb5 hb7
  go_wp2_with fail
  refine (CJ.out).mono ?_
  rintro e w5 ⟨rfl, hb9⟩
  have hb10 := hb8.trans (hb9.mono hb8.size)
  go_wp2_with fail
  go_ret
  exact ⟨rfl, hb10⟩
end Go.Proofs.YtjfegknokombgaaDoor
