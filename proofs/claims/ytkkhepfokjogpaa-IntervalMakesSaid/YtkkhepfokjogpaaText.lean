
/- Walk of value.nextText. -/
import Derived.Test.YtkkhepfokjogpaaFirst

import Derived.Outline

import Derived.Laws.IdiomStrings

namespace Go.Proofs.Ytkkhepfokjogpaa

open Go.RowKit

/-- The length without the bytes 255 at the end, of the first n bytes. -/
def trimN (l : List UInt8) : Nat → Nat
  | 0 => 0
  | n + 1 => if l.getD n 0 = 255 then trimN l n else n + 1

def strOf (l : List UInt8) : ByteArray := ⟨l.toArray⟩
def bumpL (l : List UInt8) (n : Nat) : List UInt8 := l.take (n - 1) ++ [l.getD (n - 1) 0 + 1]
/-- The text that follows a text. -/
def nextS (s : ByteArray) : V × Bool :=
  if s.size < 64 then (⟨5, 0, strOf (s.data.toList ++ [0])⟩, true)
  else if trimN s.data.toList s.size = 0 then (⟨0, 0, ⟨#[]⟩⟩, false)
  else (⟨5, 0, strOf (bumpL s.data.toList (trimN s.data.toList s.size))⟩, true)

theorem str_append (s : ByteArray) (l : List UInt8) : s ++ ⟨l.toArray⟩ = strOf (s.data.toList ++ l) := by
  apply (toList_inj _ _).1
  rw [Lib.toList_data, Lib.toList_data]
  simp [strOf]

set_option maxRecDepth 100000 in
theorem bytes_conv (s : ByteArray) (w : World) (m : Nat) (hm : m ≤ s.size) : ∃ cap C, (convert 9 22 (.string (s.extract 0 m))).run Try.prog w = .ok (.slice (some ⟨w.heap.size, 0, none⟩) m cap) (w.drew.alloc (.cells C 5 (C.size, C.size + 1))) ∧
    m ≤ C.size ∧ ∀ j, j < m → C[j]? = some (.int .u8 ((s.data.toList.getD j 0).toNat : Int)) := by
  have hsz : (s.extract 0 m).size = m := by simp; omega
  have h := run_bytes_of_string (P := Try.prog) w 9 22 5 (s.extract 0 m) Try.underlying9 Try.underlying22 Try.underlying5
  rw [hsz] at h
  refine ⟨_, _, h, ?_, fun j hj => ?_⟩
  · unfold bytesRow
    simp
    omega
  · rw [bytesRow_at _ _ j (by rw [ByteArray.size_data, hsz]; exact hj)]
    congr 3
    have hj' : j < s.data.size := by have : s.size = s.data.size := rfl; omega
    simp only [List.getD_eq_getElem?_getD, Array.getElem?_toList]
    rw [Array.getElem?_eq_getElem hj']
    simp

theorem length_bump (l : List UInt8) (m : Nat) (hp : 0 < m) (hm : m ≤ l.length) : (bumpL l m).length = m := by
  unfold bumpL; simp; omega
theorem getD_bump (l : List UInt8) (m j : Nat) (hp : 0 < m) (hm : m ≤ l.length) (hj : j < m) : (bumpL l m).getD j 0 = if j = m - 1 then l.getD (m - 1) 0 + 1 else l.getD j 0 := by
  unfold bumpL
  simp only [List.getD_eq_getElem?_getD, List.getElem?_append, List.length_take]
  by_cases h : j = m - 1
  · rw [if_pos h, if_neg (by omega)]; subst h; simp [Nat.min_eq_left (show m - 1 ≤ l.length by omega)]
  · rw [if_neg h, if_pos (by omega), List.getElem?_take, if_pos (by omega)]
theorem u8_succ (b : UInt8) (h : b.toNat < 255) : (b + 1).toNat = b.toNat + 1 := by
  rw [UInt8.toNat_add]; simp; omega

/-- What the grown bytes read as. -/
theorem bump_back (s : ByteArray) (w : World) (m cap : Nat) (C : Array Value) (hp : 0 < m) (hm : m ≤ s.size) (hC : ∀ j, j < m → C[j]? = some (.int .u8 ((s.data.toList.getD j 0).toNat : Int)))
    (h255 : (s.data.toList.getD (m - 1) 0).toNat < 255) (b : Nat) (hb : b = (s.data.toList.getD (m - 1) 0).toNat) :
    (convert 22 9 (.slice (some ⟨w.heap.size, 0, none⟩) m cap)).run Try.prog ((w.alloc (.cells C 5 (C.size, C.size + 1))).setCell ⟨w.heap.size, m - 1, none⟩ (.int .u8 ((b : Int) + 1))).drew
      = .ok (.string (strOf (bumpL s.data.toList m))) ((w.alloc (.cells C 5 (C.size, C.size + 1))).setCell ⟨w.heap.size, m - 1, none⟩ (.int .u8 ((b : Int) + 1))).drew := by
  have hl : (bumpL s.data.toList m).length = m := length_bump _ _ hp (by simpa using hm)
  have h := run_convert_bytes_back (P := Try.prog) ((w.alloc (.cells C 5 (C.size, C.size + 1))).setCell ⟨w.heap.size, m - 1, none⟩ (.int .u8 ((b : Int) + 1))).drew 22 9 5 ⟨w.heap.size, 0, none⟩ cap (bumpL s.data.toList m) Try.underlying22 Try.underlying5 Try.underlying9 ?_
  · rw [hl] at h; exact h
  · intro j hj
    rw [hl] at hj
    have hg := getD_bump s.data.toList m j hp (by simpa using hm) hj
    rw [List.getD_eq_getElem?_getD, List.getElem?_eq_getElem (by omega)] at hg
    simp only [Option.getD_some] at hg
    rw [hg]
    have ha : (⟨w.heap.size, 0, none⟩ : Addr).add j = ⟨w.heap.size, j, none⟩ := by
      unfold Addr.add
      split <;> simp_all
    rw [ha]
    by_cases h : j = m - 1
    · subst h
      rw [if_pos rfl, u8_succ _ h255]
      have h1 := World.cell?_alloc_mark w C 5 (C.size, C.size + 1) (m - 1)
      rw [hC _ hj] at h1
      have h2 := World.cell?_setCell_same (v := .int .u8 ((b : Int) + 1)) (h := h1)
      rw [World.cell?_drew, h2, hb]
      rfl
    · rw [if_neg h]
      have h1 := World.cell?_alloc_mark w C 5 (C.size, C.size + 1) j
      rw [hC _ hj] at h1
      rw [World.cell?_drew, World.cell?_setCell_other (h := by simp <;> omega), h1]

set_option maxRecDepth 100000 in
set_option maxHeartbeats 400000 in
theorem nextText_short (s : ByteArray) (w : World) (h : s.size < 64) : Calls Try.prog 78 #[.string s] w fun e w' => e = .returned (retV (nextS s)) ∧ Below w.heap.size w w' := by
  have hf : nextS s = (⟨5, 0, strOf (s.data.toList ++ [0])⟩, true) := by simp only [nextS, if_pos h]
  rw [hf]; clear hf
  go_enter Try.func78, Try.ntmps78
  go_wp2
  exact bodyPost_ret (by simp [results, Try.results78, go_sem, retV]; exact str_append s [0]) rfl ⟨rfl, (Below.refl _ _).alloc (Nat.le_refl _) _⟩
set_option maxRecDepth 100000 in
set_option maxHeartbeats 400000 in
theorem nextText_long (s : ByteArray) (w : World) (h : ¬ s.size < 64) (hs : s.size ≤ 140737488351232) : Calls Try.prog 78 #[.string s] w fun e w' => e = .returned (retV (nextS s)) ∧ Below w.heap.size w w' := by
  go_enter Try.func78, Try.ntmps78
  go_wp2
  go_loop [4] (fun n => ∃ m : Nat, m ≤ s.size ∧ n = .int .i64 m ∧ trimN s.data.toList s.size = trimN s.data.toList m) (fun n => (intOf n).toNat)
  case atStart => exact ⟨s.size, Nat.le_refl _, rfl, rfl⟩
  case round =>
    obtain ⟨m, hm, rfl, ht⟩ := hrel
    have HT := Lib.hid ht
    clear ht
    by_cases h0 : m = 0
    · subst h0
      have hf : Hid (nextS s = (⟨0, 0, ⟨#[]⟩⟩, false)) := by
        unfold nextS; rw [if_neg h, if_pos (by rw [HT.out]; rfl)]; rfl
      go_wp2
      exact bodyPost_ret (v := retV (⟨0, 0, ⟨#[]⟩⟩, false)) (by simp [results, Try.results78, go_sem, retV]) rfl ⟨by rw [hf.out], (Below.refl _ _).alloc (Nat.le_refl _) _⟩
    · have hb : m - 1 < s.size := by omega
      have hp : 0 < m := by omega
      by_cases hc : s[m - 1].toNat = 255
      · have hc' : ((s[m - 1].toNat : Int) == 255) = true := by simp; omega
        have hgd : s.data.toList.getD (m - 1) 0 = s[m - 1] := by
          have : m - 1 < s.data.size := hb
          simp only [List.getD_eq_getElem?_getD, Array.getElem?_toList]
          rw [Array.getElem?_eq_getElem this]; rfl
        have ht : Hid (trimN s.data.toList s.size = trimN s.data.toList (m - 1)) := by
          have e : trimN s.data.toList m = trimN s.data.toList (m - 1) := by
            obtain ⟨m', rfl⟩ : ∃ m', m = m' + 1 := ⟨m - 1, by omega⟩
            simp only [trimN]
            rw [if_pos]
            · rfl
            · simp only [Nat.add_sub_cancel] at hgd hc
              rw [hgd]
              exact UInt8.toNat_inj.1 hc
          exact HT.out.trans e
        clear hgd
        clear hc
        go_wp2
        go_round
        case rel => exact ⟨m - 1, by omega, by go_num, ht.out⟩
        case measure => simp [intOf]; omega
      · have hc' : ((s[m - 1].toNat : Int) == 255) = false := by simp; omega
        have hgd : s.data.toList.getD (m - 1) 0 = s[m - 1] := by
          have : m - 1 < s.data.size := hb
          simp only [List.getD_eq_getElem?_getD, Array.getElem?_toList]
          rw [Array.getElem?_eq_getElem this]; rfl
        have h255 : (s.data.toList.getD (m - 1) 0).toNat < 255 := by
          have := (s[m - 1]).toNat_lt; rw [hgd]; omega
        have hf : Hid (nextS s = (⟨5, 0, strOf (bumpL s.data.toList m)⟩, true)) := by
          have e : trimN s.data.toList m = m := by
            obtain ⟨m', rfl⟩ : ∃ m', m = m' + 1 := ⟨m - 1, by omega⟩
            simp only [trimN]
            rw [if_neg]
            intro e
            simp only [Nat.add_sub_cancel] at h255
            rw [e] at h255
            simp at h255
          unfold nextS; rw [if_neg h, if_neg (by rw [HT.out, e]; omega), HT.out, e]; rfl
        clear hc
        obtain ⟨cap, C, hconv, hCs, hC⟩ := bytes_conv s (w.alloc (.cells #[.int .i64 0, .int .i64 0, .string ⟨#[]⟩] 25)) m hm
        obtain ⟨b, hbv⟩ : ∃ b : Nat, b = (s.data.toList.getD (m - 1) 0).toNat := ⟨_, rfl⟩
        have hback := bump_back s (w.alloc (.cells #[.int .i64 0, .int .i64 0, .string ⟨#[]⟩] 25)) m cap C hp hm hC h255 b hbv
        have hcell : ((w.alloc (.cells #[.int .i64 0, .int .i64 0, .string ⟨#[]⟩] 25)).alloc (.cells C 5 (C.size, C.size + 1))).cell? ⟨w.heap.size + 1, m - 1, none⟩ = some (.int .u8 b) := by
          have := World.cell?_alloc_mark (w.alloc (.cells #[.int .i64 0, .int .i64 0, .string ⟨#[]⟩] 25)) C 5 (C.size, C.size + 1) (m - 1)
          rw [hC _ (by omega), ← hbv] at this
          simpa using this
        have hfz : ((w.alloc (.cells #[.int .i64 0, .int .i64 0, .string ⟨#[]⟩] 25)).alloc (.cells C 5 (C.size, C.size + 1))).frozen? ⟨w.heap.size + 1, m - 1, none⟩ = false := by
          have := World.frozen?_alloc_mark (w.alloc (.cells #[.int .i64 0, .int .i64 0, .string ⟨#[]⟩] 25)) C 5 C.size (C.size + 1) (m - 1)
          have h2 : ¬ C.size ≤ m - 1 := by omega
          simpa [h2] using this
        have hb1 : b < 255 := by omega
        generalize strOf (bumpL s.data.toList m) = r at hback hf
        clear hC hbv h255 hgd
        simp only [World.size_alloc] at hback hconv
        go_wp2
        exact bodyPost_ret (v := retV (⟨5, 0, r⟩, true)) (by simp [results, Try.results78, go_sem, retV]) rfl ⟨by rw [hf.out], by (repeat (first | exact Below.refl _ _ | assumption | refine Below.drew ?_ | refine Below.setCell ?_ (by simp; try omega) _ | refine Below.alloc ?_ (by simp; try omega) _))⟩
end Go.Proofs.Ytkkhepfokjogpaa
