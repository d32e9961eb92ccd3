/- The walks of lattice.line, Of, Text and Row. Conditions: the table of the levels lies where it is laid; the levels of a slice are known. -/
import Derived.Test.YtadihdkpoeibhaaDoorLatB
import Derived.Deep.AppendLies
namespace Go.Proofs.YtadihdkpoeibhaaDoor
set_option maxRecDepth 100000
open Go.RowKit

/-- The names of levels. -/
def nmsW (l : List Nat) : List ByteArray := l.map fun (a : Nat) => nameN (a : Int)
theorem nmsW_succ (l : List Nat) (k : Nat) (hk : k < l.length) : nmsW (l.take (k + 1)) = nmsW (l.take k) ++ [nameN (l[k] : Int)] := by
  unfold nmsW; rw [List.take_succ_eq_append_getElem hk, List.map_append]; rfl
/-- A line: a word, and the names of levels. -/
def lnL (first : ByteArray) (l : List Nat) : List UInt8 := first.data.toList ++ spW (if l = [] then [⟨#[45]⟩] else nmsW l)
def lnB (first : ByteArray) (l : List Nat) : ByteArray := ⟨(lnL first l ++ [10]).toArray⟩
theorem name_size : ∀ a : Fin 12, (nameN (a.val : Int)).size ≤ 100 := by decide +kernel
theorem names_size {l : List Nat} (h : ∀ a ∈ l, a < 12) : ∀ y ∈ nmsW l, y.size ≤ 1000 := fun y hy => by
  obtain ⟨a, ha, rfl⟩ := List.mem_map.1 hy
  have := name_size ⟨a, h a ha⟩
  exact Nat.le_trans this (by omega)
theorem text_nl (l : List UInt8) : (⟨l.toArray⟩ : ByteArray) ++ (⟨#[10]⟩ : ByteArray) = ⟨(l ++ [10]).toArray⟩ := by
  apply byteArray_ext
  simp
theorem lnL_len (first : ByteArray) (l : List Nat) (hf : first.size ≤ 100) (hl : ∀ a ∈ l, a < 12) (hn : l.length ≤ 12) : (lnL first l).length ≤ 20000 := by
  unfold lnL
  rw [List.length_append, ← Lib.size_eq]
  split
  · simp [spW]; omega
  · have h1 := spW_len (nmsW l) (names_size hl)
    have h2 : (nmsW l).length = l.length := by unfold nmsW; simp
    omega
set_option maxRecDepth 100000 in
set_option maxHeartbeats 4000000 in
theorem line_any (first : ByteArray) (vl : Value) (l : List Nat) (w : World) (hK : Kinds w) (hI : Ints w vl (l.map Int.ofNat)) (hf : first.size ≤ 100) (hl : ∀ a ∈ l, a < 12) (hn : l.length ≤ 12) :
    Calls Tryd.prog 20 #[.string first, vl] w fun e w' => e = .returned (.string (lnB first l)) ∧ Below w.heap.size w w' := by
  obtain ⟨i0, hi, hz0, hz1, hz2⟩ := info_parts infoStr
  obtain ⟨ao, cap, rfl, hcap⟩ := hI.form
  rw [List.length_map] at hI hcap ⊢
  have HI := Lib.hid (fun wx (hx : Below w.heap.size w wx) => hI.below hx)
  have HN := Lib.hid (fun (a : Int) wx (hx : Below w.heap.size w wx) => lname_any a wx (hK.below hx))
  have HL := Lib.hid hl
  have HSU := Lib.hid (fun k (hk : k < l.length) => nmsW_succ l k hk)
  have HSZ := Lib.hid (fun k (hk : k < l.length) => (name_size ⟨l[k], hl _ (List.getElem_mem hk)⟩))
  have hx0 : Below w.heap.size w (w.alloc (.cells #[.string first] 9)) := (Below.refl _ _).alloc (Nat.le_refl _) _
  have ho0 : (w.alloc (.cells #[.string first] 9)).ownsRow w.heap.size 9 1 (.slice (some ⟨w.heap.size, 0, none⟩) 1 1) 1 [.string first] := World.ownsRow_lit (base := w.heap.size) (size := 1) w #[.string first] 1 (Nat.le_refl _) (by decide) rfl
  clear hI hK
  go_enter Tryd.func20, Tryd.ntmps20
  go_wp2_with fail
  go_loopw [5, 12] (fun v i wr => ∃ k : Nat, k ≤ l.length ∧ i = .int .i64 k ∧ wr.ownsRow w.heap.size 9 1 v (k + 1) ((first :: nmsW (l.take k)).map Value.string) ∧ Below w.heap.size w wr) (fun _ i _ => l.length - (intOf i).toNat)
  case atStart => exact ⟨0, by omega, rfl, by simpa [nmsW] using ho0, hx0⟩
  case round =>
    clear ho0 hx0
    obtain ⟨k, hk, rfl, hown, hb⟩ := hrel
    by_cases hlt : k < l.length
    · have hki : (k : Int) < (l.length : Int) := by omega
      obtain ⟨g, o, e, hc⟩ := (HI.out _ hb).at (k := k) (by simpa using hlt)
      cases e
      rw [List.getElem_map] at hc
      have HS := Lib.hid (HSU.out k hlt)
      have hsz := HSZ.out k hlt
      have CN := Lib.hid (HN.out (Int.ofNat l[k]) _ hb)
      change Hid (Calls _ _ #[.int .i64 (l[k] : Int)] _ _) at CN
      change wr.cell? _ = some (.int .i64 (l[k] : Int)) at hc
      simp only [Int.ofNat_eq_natCast] at CN
      generalize nameN (l[k] : Int) = s at *
      generalize (l[k] : Int) = a at *
      have hbs := hb.size
      go_wp2_with fail
      refine CN.out.mono ?_
      rintro e w3 ⟨rfl, rfl⟩
      clear CN
      go_wp2_with (at_builtin; refine wpList_append_own _ rfl _ _ 49 rfl w.heap.size 9 i0 (.string ByteArray.empty) 1 16 Tryd.underlying49 hi hz0 hz1 hz2 rfl (by decide) _ _ _ rfl (hown.alloc _) ⟨_, 0, none⟩ 1 1 [.string s] rfl rfl ?c1 ?c2 ?c3 ?c4 ?c5 ?_)
      case c1 => exact cell_one_new _ _ _
      case c2 => intro u hu; simp at hu; subst hu; rfl
      case c3 => unfold maxLen; omega
      case c4 => omega
      case c5 => simp; omega
      intro v' w7 hown' hgrow _
      have hb' := below_app0 hb (Nat.le_refl _) hown (Nat.le_refl _) hgrow
      clear hown hb hgrow hc
      go_wp2_with fail
      go_roundw
      case rel =>
        refine ⟨k + 1, by omega, by go_num, ?_, hb'⟩
        rw [HS.out]
        simpa using hown'
      case measure => simp [intOf]; omega
    · obtain rfl : k = l.length := by omega
      have hki : ¬ (l.length : Int) < (l.length : Int) := by omega
      rw [List.take_length] at hown
      have HZN := Lib.hid (names_size HL.out)
      have HNL : Hid ((nmsW l).length = l.length) := Lib.hid (by unfold nmsW; simp)
      have HLL := Lib.hid (lnL_len first l hf HL.out hn)
      by_cases h0 : l = []
      · have HE : Hid (lnL first l = first.data.toList ++ spW [⟨#[45]⟩]) := Lib.hid (by unfold lnL; rw [if_pos h0])
        have HB : Hid (lnB first l = ⟨(lnL first l ++ [10]).toArray⟩) := Lib.hid rfl
        rw [HE.out] at HB HLL
        have hl0 : l.length = 0 := by rw [h0]; rfl
        have hw0 : (first :: nmsW l).map Value.string = [Value.string first] := by rw [h0]; rfl
        rw [hw0, hl0] at hown
        rw [hl0]
        clear HI HN HSU HSZ HZN HNL hl hcap h0 hl0 hw0 HE HL
        have hbs := hb.size
        go_wp2_with (at_builtin; refine wpList_append_own _ rfl _ _ 49 rfl w.heap.size 9 i0 (.string ByteArray.empty) 1 16 Tryd.underlying49 hi hz0 hz1 hz2 rfl (by decide) _ _ _ rfl (hown.alloc _) ⟨_, 0, none⟩ 1 1 [.string ⟨#[45]⟩] rfl rfl ?c1 ?c2 ?c3 ?c4 ?c5 ?_)
        case c2 => rfl
        case c3 => unfold maxLen; omega
        case c5 => omega
        intro v' w7 hown' hgrow _
        have hb' := below_app0 hb (Nat.le_refl _) hown (Nat.le_refl _) hgrow
        have hS : Strs w7 v' [first, ⟨#[45]⟩] := Strs.of_owns hown'
        obtain ⟨ao7, cap7, rfl, _⟩ := hS.form
        have CJ := Lib.hid (join_any ao7 cap7 first [⟨#[45]⟩] w7 hS (by simp) (by simp) (by
          intro y hy
          simp at hy
          rcases hy with rfl | rfl
          · omega
          · decide))
        clear hown hb hgrow hown' hS
        generalize hL : first.data.toList ++ spW [⟨#[45]⟩] = L at *
        have hlen : L.length ≤ 20000 := HLL.out
        have hov : ¬ 9223372036854775807 < (⟨L.toArray⟩ : ByteArray).size + (⟨#[10]⟩ : ByteArray).size := by
          show ¬ _ < L.toArray.size + 1
          simp; omega
        have HT := Lib.hid (text_nl L)
        go_wp2_with fail
        refine CJ.out.mono ?_
        rintro e w8 ⟨rfl, h8⟩
        have hb8 := hb'.trans (h8.mono hb'.size)
        clear CJ h8 hb' HLL hL hlen
        generalize (⟨L.toArray⟩ : ByteArray) = B at *
        go_wp2_with fail
        go_ret
        exact ⟨lret_s (by rw [HB.out]; exact HT.out), hb8⟩
      · have HE : Hid (lnL first l = first.data.toList ++ spW (nmsW l)) := Lib.hid (by unfold lnL; rw [if_neg h0])
        have HB : Hid (lnB first l = ⟨(lnL first l ++ [10]).toArray⟩) := Lib.hid rfl
        rw [HE.out] at HB HLL
        have hl0 : 1 ≤ l.length := by
          cases l with
          | nil => exact absurd rfl h0
          | cons a t => simp
        have hne : ((l.length : Int) == 0) = false := by rw [beq_eq_false_iff_ne]; omega
        have hS : Strs wr _ (first :: nmsW l) := Strs.of_owns hown
        obtain ⟨ao7, cap7, rfl, _⟩ := hS.form
        rw [List.length_cons] at hS ⊢
        have CJ := Lib.hid (join_any ao7 cap7 first (nmsW l) wr hS (by rw [HNL.out]; omega) (by rw [HNL.out]; omega) (by
          intro y hy
          rcases List.mem_cons.1 hy with rfl | hy
          · omega
          · exact HZN.out y hy))
        clear hown hS HI HN HSU HSZ HZN hl h0 HL
        generalize hL : first.data.toList ++ spW (nmsW l) = L at *
        have hlen : L.length ≤ 20000 := HLL.out
        have hov : ¬ 9223372036854775807 < (⟨L.toArray⟩ : ByteArray).size + (⟨#[10]⟩ : ByteArray).size := by
          show ¬ _ < L.toArray.size + 1
          simp; omega
        have HT := Lib.hid (text_nl L)
        go_wp2_with fail
        refine CJ.out.mono ?_
        rintro e w8 ⟨rfl, h8⟩
        have hb8 := hb.trans (h8.mono hb.size)
        clear CJ h8 hb HLL hL hlen
        generalize (⟨L.toArray⟩ : ByteArray) = B at *
        go_wp2_with fail
        go_ret
        exact ⟨lret_s (by rw [HB.out]; exact HT.out), hb8⟩
end Go.Proofs.YtadihdkpoeibhaaDoor
