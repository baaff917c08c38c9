
/- Walk of value.nextText. -/
import Derived.Test.YtjcbmeannhafjaaFirst

import Derived.Outline

import Derived.Laws.IdiomStrings

namespace Go.Proofs.Ytjcbmeannhafjaa

open Go.RowKit

/-- The length without the bytes 255 at the end, of the first n bytes. -/
def trimN (l : List UInt8) : Nat → Nat
  | 0 => 0
  | n + 1 => if l.getD n 0 = 255 then trimN l n else n + 1

def strOf (l : List UInt8) : ByteArray := ⟨l.toArray⟩
def bumpL (l : List UInt8) (n : Nat) : List UInt8 := l.take (n - 1) ++ [l.getD (n - 1) 0 + 1]
/-- The text that follows a text. -/
def nextS (s : ByteArray) : V × Bool :=
  if s.size < 64 then (⟨5, 0, strOf (s.data.toList ++ [0])⟩, true)
  else if trimN s.data.toList s.size = 0 then (⟨0, 0, ⟨#[]⟩⟩, false)
  else (⟨5, 0, strOf (bumpL s.data.toList (trimN s.data.toList s.size))⟩, true)

theorem str_append (s : ByteArray) (l : List UInt8) : s ++ ⟨l.toArray⟩ = strOf (s.data.toList ++ l) := by
  apply (toList_inj _ _).1
  rw [Lib.toList_data, Lib.toList_data]
  simp [strOf]

set_option maxRecDepth 100000 in
theorem bytes_conv (s : ByteArray) (w : World) (m : Nat) (hm : m ≤ s.size) : ∃ cap C, (convert 9 22 (.string (s.extract 0 m))).run Try.prog w = .ok (.slice (some ⟨w.heap.size, 0, none⟩) m cap) (w.drew.alloc (.cells C 5 (C.size, C.size + 1))) ∧
    m ≤ C.size ∧ ∀ j, j < m → C[j]? = some (.int .u8 ((s.data.toList.getD j 0).toNat : Int)) := by
  have hsz : (s.extract 0 m).size = m := by simp; omega
  have h := run_bytes_of_string (P := Try.prog) w 9 22 5 (s.extract 0 m) Try.underlying9 Try.underlying22 Try.underlying5
  rw [hsz] at h
  refine ⟨_, _, h, ?_, fun j hj => ?_⟩
  · unfold bytesRow
    simp
    omega
  · rw [bytesRow_at _ _ j (by rw [ByteArray.size_data, hsz]; exact hj)]
    congr 3
    have hj' : j < s.data.size := by have : s.size = s.data.size := rfl; omega
    simp only [List.getD_eq_getElem?_getD, Array.getElem?_toList]
    rw [Array.getElem?_eq_getElem hj']
    simp

theorem length_bump (l : List UInt8) (m : Nat) (hp : 0 < m) (hm : m ≤ l.length) : (bumpL l m).length = m := by
  unfold bumpL; simp; omega
theorem getD_bump (l : List UInt8) (m j : Nat) (hp : 0 < m) (hm : m ≤ l.length) (hj : j < m) : (bumpL l m).getD j 0 = if j = m - 1 then l.getD (m - 1) 0 + 1 else l.getD j 0 := by
  unfold bumpL
  simp only [List.getD_eq_getElem?_getD, List.getElem?_append, List.length_take]
  by_cases h : j = m - 1
  · rw [if_pos h, if_neg (by omega)]; subst h; simp [Nat.min_eq_left (show m - 1 ≤ l.length by omega)]
  · rw [if_neg h, if_pos (by omega), List.getElem?_take, if_pos (by omega)]
theorem u8_succ (b : UInt8) (h : b.toNat < 255) : (b + 1).toNat = b.toNat + 1 := by
  rw [UInt8.toNat_add]; simp; omega

/-- What the grown bytes read as. -/
theorem bump_back (s : ByteArray) (w : World) (m cap : Nat) (C : Array Value) (hp : 0 < m) (hm : m ≤ s.size) (hC : ∀ j, j < m → C[j]? = some (.int .u8 ((s.data.toList.getD j 0).toNat : Int)))
    (h255 : (s.data.toList.getD (m - 1) 0).toNat < 255) (b : Nat) (hb : b = (s.data.toList.getD (m - 1) 0).toNat) :
    (convert 22 9 (.slice (some ⟨w.heap.size, 0, none⟩) m cap)).run Try.prog ((w.alloc (.cells C 5 (C.size, C.size + 1))).setCell ⟨w.heap.size, m - 1, none⟩ (.int .u8 ((b : Int) + 1))).drew
      = .ok (.string (strOf (bumpL s.data.toList m))) ((w.alloc (.cells C 5 (C.size, C.size + 1))).setCell ⟨w.heap.size, m - 1, none⟩ (.int .u8 ((b : Int) + 1))).drew := by
  have hl : (bumpL s.data.toList m).length = m := length_bump _ _ hp (by simpa using hm)
  have h := run_convert_bytes_back (P := Try.prog) ((w.alloc (.cells C 5 (C.size, C.size + 1))).setCell ⟨w.heap.size, m - 1, none⟩ (.int .u8 ((b : Int) + 1))).drew 22 9 5 ⟨w.heap.size, 0, none⟩ cap (bumpL s.data.toList m) Try.underlying22 Try.underlying5 Try.underlying9 ?_
  · rw [hl] at h; exact h
  · intro j hj
    rw [hl] at hj
    have hg := getD_bump s.data.toList m j hp (by simpa using hm) hj
    rw [List.getD_eq_getElem?_getD, List.getElem?_eq_getElem (by omega)] at hg
    simp only [Option.getD_some] at hg
    rw [hg]
    have ha : (⟨w.heap.size, 0, none⟩ : Addr).add j = ⟨w.heap.size, j, none⟩ := by
      unfold Addr.add
      split <;> simp_all
    rw [ha]
    by_cases h : j = m - 1
    · subst h
      rw [if_pos rfl, u8_succ _ h255]
      have h1 := World.cell?_alloc_mark w C 5 (C.size, C.size + 1) (m - 1)
      rw [hC _ hj] at h1
      have h2 := World.cell?_setCell_same (v := .int .u8 ((b : Int) + 1)) (h := h1)
      rw [World.cell?_drew, h2, hb]
      rfl
    · rw [if_neg h]
      have h1 := World.cell?_alloc_mark w C 5 (C.size, C.size + 1) j
      rw [hC _ hj] at h1
      rw [World.cell?_drew, World.cell?_setCell_other (h := by simp <;> omega), h1]

end Go.Proofs.Ytjcbmeannhafjaa

/- Walk of value.Next. -/
namespace Go.Proofs.Ytjcbmeannhafjaa

open Go.RowKit

/-- The value behind a value; the zero value and false if there is none. -/
def nextV (k n : Int) (s : ByteArray) : V × Bool :=
  if vldB k n s = false then (⟨0, 0, ⟨#[]⟩⟩, false)
  else if k = 3 ∧ n = 0 then (⟨3, 1, ⟨#[]⟩⟩, true)
  else if k = 4 ∧ n < 9223372036854775807 then (⟨4, n + 1, ⟨#[]⟩⟩, true)
  else if k = 5 then nextS s
  else firstV (k + 1)

end Go.Proofs.Ytjcbmeannhafjaa
