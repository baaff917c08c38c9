
/- Law 5's begun. -/
import Derived.Test.YtjcbmeannhafjaaPdColumns2

import Derived.Test.YtjcbmeannhafjaaPdCheck

import Derived.Test.YtjcbmeannhafjaaPdHolds

namespace Go.Proofs.Ytjcbmeannhafjaa

open Go.RowKit

/-- Column 0 is less than 5; and its negation. -/
def exP : PT := .mk 3 3 ⟨1, 0, zV⟩ ⟨3, 0, ⟨4, 5, ⟨#[]⟩⟩⟩ []
def exN : PT := .mk 6 0 zO zO [exP]
theorem ex_holds : holdsP [⟨4, 3, ⟨#[]⟩⟩] [] exP = true := by
  have h : cmpV ⟨4, 3, ⟨#[]⟩⟩ ⟨4, 5, ⟨#[]⟩⟩ = -1 := by simp [cmpV, cmpI]
  rw [holds_eq]
  show (if (3 : Int) = 1 then true else if (3 : Int) = 3 then cmpsB 3 (denV ⟨1, 0, zV⟩ [⟨4, 3, ⟨#[]⟩⟩] []) (denV ⟨3, 0, ⟨4, 5, ⟨#[]⟩⟩⟩ [⟨4, 3, ⟨#[]⟩⟩] []) else _) = true
  rw [if_neg (by omega), if_pos rfl]
  have e1 : denV ⟨1, 0, zV⟩ [⟨4, 3, ⟨#[]⟩⟩] [] = ⟨4, 3, ⟨#[]⟩⟩ := rfl
  have e2 : denV ⟨3, 0, ⟨4, 5, ⟨#[]⟩⟩⟩ [⟨4, 3, ⟨#[]⟩⟩] [] = ⟨4, 5, ⟨#[]⟩⟩ := rfl
  rw [e1, e2]
  unfold cmpsB
  rw [h]
  have r1 : realV ⟨4, 3, ⟨#[]⟩⟩ = true := by unfold realV realB vldB; simp; rfl
  have r2 : realV ⟨4, 5, ⟨#[]⟩⟩ = true := by unfold realV realB vldB; simp; rfl
  rw [r1, r2]
  rfl
theorem ex_hidden : holdsP [⟨2, 0, ⟨#[]⟩⟩] [] exP = false := by
  rw [holds_eq]
  show (if (3 : Int) = 1 then true else if (3 : Int) = 3 then cmpsB 3 (denV ⟨1, 0, zV⟩ [⟨2, 0, ⟨#[]⟩⟩] []) (denV ⟨3, 0, ⟨4, 5, ⟨#[]⟩⟩⟩ [⟨2, 0, ⟨#[]⟩⟩] []) else _) = false
  rw [if_neg (by omega), if_pos rfl]
  have e1 : denV ⟨1, 0, zV⟩ [⟨2, 0, ⟨#[]⟩⟩] [] = ⟨2, 0, ⟨#[]⟩⟩ := rfl
  have e2 : denV ⟨3, 0, ⟨4, 5, ⟨#[]⟩⟩⟩ [⟨2, 0, ⟨#[]⟩⟩] [] = ⟨4, 5, ⟨#[]⟩⟩ := rfl
  rw [e1, e2]
  rfl
theorem ex_not : holdsP [⟨2, 0, ⟨#[]⟩⟩] [] exN = true := by
  rw [holds_not _ _ _ rfl, firstP_some _ _ _ (show 0 < exN.args.length by decide)]
  show (!holdsP _ _ exP) = true
  rw [ex_hidden]; rfl
theorem ex_cols : (colsP exN).length = 1 := by
  have h : colP exN = [0] := by decide
  unfold colsP
  rw [h]
  have e : ([0] : List Int).mergeSort (fun x y => decide (x ≤ y)) = [0] := by simp
  rw [e]
  rfl
theorem ex_check : checkP [] [] exP = 50 := by decide

/-- A cell list in one block reads as a predicate. -/
theorem pdC_block {P : Nat → Prop} {W : World} {p : PT} {b : Nat} {a : Option Addr} {c : Nat} (h : ∀ j v, ([.int .i64 p.op, .int .i64 p.cmp, .int .i64 p.l.k, .int .i64 p.l.i, .int .i64 p.l.v.k, .int .i64 p.l.v.n, .string p.l.v.s, .int .i64 p.r.k, .int .i64 p.r.i, .int .i64 p.r.v.k, .int .i64 p.r.v.n, .string p.r.v.s, .slice a p.args.length c] : List Value)[j]? = some v → W.cell? ⟨b, j, none⟩ = some v) (hs : PdS P W p.args a c) : PdC P W p b 0 :=
  PdC.close (h 0 _ rfl) (h 1 _ rfl) ⟨h 2 _ rfl, h 3 _ rfl, h 4 _ rfl, h 5 _ rfl, h 6 _ rfl⟩ ⟨h 7 _ rfl, h 8 _ rfl, h 9 _ rfl, h 10 _ rfl, h 11 _ rfl⟩ (h 12 _ rfl) hs
theorem pdS_one {P : Nat → Prop} {W : World} {p : PT} {b : Nat} (hP : P b) (hb : b < W.heap.size) (h : PdC P W p b 0) : PdS P W [p] (some ⟨b, 0, none⟩) 1 :=
  ⟨⟨by simp, by unfold maxLen; exact of_decide_eq_true rfl, fun e => (by cases e), by simp⟩, .inr ⟨b, 0, rfl, hP, hb, PdL.mk' fun j hj => by
    have : j = 0 := by simpa using hj
    subst this
    exact h⟩⟩
theorem rowAt_one {W : World} {b : Nat} {v : V} {c : Nat} (hb : b < W.heap.size) (h0 : W.cell? ⟨b, 0, none⟩ = some (.int .i64 v.k)) (h1 : W.cell? ⟨b, 1, none⟩ = some (.int .i64 v.n)) (h2 : W.cell? ⟨b, 2, none⟩ = some (.string v.s)) : RowAt W (.slice (some ⟨b, 0, none⟩) 1 c) [v] :=
  ⟨_, c, rfl, by simp, fun i hi => by
    have : i = 0 := by simpa using hi
    subst this
    exact ⟨b, 0, rfl, hb, h0, h1, h2⟩⟩
theorem rowAt_nil (W : World) : RowAt W (.slice none 0 0) [] := ⟨none, 0, rfl, by simp, fun i hi => absurd hi (by simp)⟩

set_option maxRecDepth 100000 in
set_option maxHeartbeats 4000000 in
theorem begun5_facts (w W : World) (hb : Below (w.heap.size + 1 + 1 + 1 + 1 + 1) (((((w.alloc (.cells #[.int .i64 3, .int .i64 3, .int .i64 1, .int .i64 0, .int .i64 0, .int .i64 0, .string ⟨#[]⟩, .int .i64 3, .int .i64 0, .int .i64 4, .int .i64 5, .string ⟨#[]⟩, .slice none 0 0] 77)).alloc (.cells #[.int .i64 3, .int .i64 3, .int .i64 1, .int .i64 0, .int .i64 0, .int .i64 0, .string ⟨#[]⟩, .int .i64 3, .int .i64 0, .int .i64 4, .int .i64 5, .string ⟨#[]⟩, .slice none 0 0] 77)).alloc (.cells #[.int .i64 6, .int .i64 0, .int .i64 0, .int .i64 0, .int .i64 0, .int .i64 0, .string ⟨#[]⟩, .int .i64 0, .int .i64 0, .int .i64 0, .int .i64 0, .string ⟨#[]⟩, .slice (some ⟨w.heap.size + 1, 0, none⟩) 1 1] 77)).alloc (.cells #[.int .i64 2, .int .i64 0, .string ⟨#[]⟩] 57)).alloc (.cells #[.int .i64 4, .int .i64 3, .string ⟨#[]⟩] 57)) W) : W.cell? ⟨w.heap.size, 0, none⟩ = some (.int .i64 3) ∧ W.cell? ⟨w.heap.size, 1, none⟩ = some (.int .i64 3) ∧ W.cell? ⟨w.heap.size, 2, none⟩ = some (.int .i64 1) ∧ W.cell? ⟨w.heap.size, 3, none⟩ = some (.int .i64 0) ∧ W.cell? ⟨w.heap.size, 4, none⟩ = some (.int .i64 0) ∧ W.cell? ⟨w.heap.size, 5, none⟩ = some (.int .i64 0) ∧ W.cell? ⟨w.heap.size, 6, none⟩ = some (.string ⟨#[]⟩) ∧ W.cell? ⟨w.heap.size, 7, none⟩ = some (.int .i64 3) ∧ W.cell? ⟨w.heap.size, 8, none⟩ = some (.int .i64 0) ∧ W.cell? ⟨w.heap.size, 9, none⟩ = some (.int .i64 4) ∧ W.cell? ⟨w.heap.size, 10, none⟩ = some (.int .i64 5) ∧ W.cell? ⟨w.heap.size, 11, none⟩ = some (.string ⟨#[]⟩) ∧ W.cell? ⟨w.heap.size, 12, none⟩ = some (.slice none 0 0) ∧ W.cell? ⟨w.heap.size + 1, 0, none⟩ = some (.int .i64 3) ∧ W.cell? ⟨w.heap.size + 1, 1, none⟩ = some (.int .i64 3) ∧ W.cell? ⟨w.heap.size + 1, 2, none⟩ = some (.int .i64 1) ∧ W.cell? ⟨w.heap.size + 1, 3, none⟩ = some (.int .i64 0) ∧ W.cell? ⟨w.heap.size + 1, 4, none⟩ = some (.int .i64 0) ∧ W.cell? ⟨w.heap.size + 1, 5, none⟩ = some (.int .i64 0) ∧ W.cell? ⟨w.heap.size + 1, 6, none⟩ = some (.string ⟨#[]⟩) ∧ W.cell? ⟨w.heap.size + 1, 7, none⟩ = some (.int .i64 3) ∧ W.cell? ⟨w.heap.size + 1, 8, none⟩ = some (.int .i64 0) ∧ W.cell? ⟨w.heap.size + 1, 9, none⟩ = some (.int .i64 4) ∧ W.cell? ⟨w.heap.size + 1, 10, none⟩ = some (.int .i64 5) ∧ W.cell? ⟨w.heap.size + 1, 11, none⟩ = some (.string ⟨#[]⟩) ∧ W.cell? ⟨w.heap.size + 1, 12, none⟩ = some (.slice none 0 0) ∧ W.cell? ⟨w.heap.size + 1 + 1, 0, none⟩ = some (.int .i64 6) ∧ W.cell? ⟨w.heap.size + 1 + 1, 1, none⟩ = some (.int .i64 0) ∧ W.cell? ⟨w.heap.size + 1 + 1, 2, none⟩ = some (.int .i64 0) ∧ W.cell? ⟨w.heap.size + 1 + 1, 3, none⟩ = some (.int .i64 0) ∧ W.cell? ⟨w.heap.size + 1 + 1, 4, none⟩ = some (.int .i64 0) ∧ W.cell? ⟨w.heap.size + 1 + 1, 5, none⟩ = some (.int .i64 0) ∧ W.cell? ⟨w.heap.size + 1 + 1, 6, none⟩ = some (.string ⟨#[]⟩) ∧ W.cell? ⟨w.heap.size + 1 + 1, 7, none⟩ = some (.int .i64 0) ∧ W.cell? ⟨w.heap.size + 1 + 1, 8, none⟩ = some (.int .i64 0) ∧ W.cell? ⟨w.heap.size + 1 + 1, 9, none⟩ = some (.int .i64 0) ∧ W.cell? ⟨w.heap.size + 1 + 1, 10, none⟩ = some (.int .i64 0) ∧ W.cell? ⟨w.heap.size + 1 + 1, 11, none⟩ = some (.string ⟨#[]⟩) ∧ W.cell? ⟨w.heap.size + 1 + 1, 12, none⟩ = some (.slice (some ⟨w.heap.size + 1, 0, none⟩) 1 1) ∧ W.cell? ⟨w.heap.size + 1 + 1 + 1, 0, none⟩ = some (.int .i64 2) ∧ W.cell? ⟨w.heap.size + 1 + 1 + 1, 1, none⟩ = some (.int .i64 0) ∧ W.cell? ⟨w.heap.size + 1 + 1 + 1, 2, none⟩ = some (.string ⟨#[]⟩) ∧ W.cell? ⟨w.heap.size + 1 + 1 + 1 + 1, 0, none⟩ = some (.int .i64 4) ∧ W.cell? ⟨w.heap.size + 1 + 1 + 1 + 1, 1, none⟩ = some (.int .i64 3) ∧ W.cell? ⟨w.heap.size + 1 + 1 + 1 + 1, 2, none⟩ = some (.string ⟨#[]⟩) :=
  ⟨(hb.cell (p := ⟨w.heap.size, 0, none⟩) (show w.heap.size < _ by omega)).trans (by go_simp), (hb.cell (p := ⟨w.heap.size, 1, none⟩) (show w.heap.size < _ by omega)).trans (by go_simp), (hb.cell (p := ⟨w.heap.size, 2, none⟩) (show w.heap.size < _ by omega)).trans (by go_simp), (hb.cell (p := ⟨w.heap.size, 3, none⟩) (show w.heap.size < _ by omega)).trans (by go_simp), (hb.cell (p := ⟨w.heap.size, 4, none⟩) (show w.heap.size < _ by omega)).trans (by go_simp), (hb.cell (p := ⟨w.heap.size, 5, none⟩) (show w.heap.size < _ by omega)).trans (by go_simp), (hb.cell (p := ⟨w.heap.size, 6, none⟩) (show w.heap.size < _ by omega)).trans (by go_simp), (hb.cell (p := ⟨w.heap.size, 7, none⟩) (show w.heap.size < _ by omega)).trans (by go_simp), (hb.cell (p := ⟨w.heap.size, 8, none⟩) (show w.heap.size < _ by omega)).trans (by go_simp), (hb.cell (p := ⟨w.heap.size, 9, none⟩) (show w.heap.size < _ by omega)).trans (by go_simp), (hb.cell (p := ⟨w.heap.size, 10, none⟩) (show w.heap.size < _ by omega)).trans (by go_simp), (hb.cell (p := ⟨w.heap.size, 11, none⟩) (show w.heap.size < _ by omega)).trans (by go_simp), (hb.cell (p := ⟨w.heap.size, 12, none⟩) (show w.heap.size < _ by omega)).trans (by go_simp), (hb.cell (p := ⟨w.heap.size + 1, 0, none⟩) (show w.heap.size + 1 < _ by omega)).trans (by go_simp), (hb.cell (p := ⟨w.heap.size + 1, 1, none⟩) (show w.heap.size + 1 < _ by omega)).trans (by go_simp), (hb.cell (p := ⟨w.heap.size + 1, 2, none⟩) (show w.heap.size + 1 < _ by omega)).trans (by go_simp), (hb.cell (p := ⟨w.heap.size + 1, 3, none⟩) (show w.heap.size + 1 < _ by omega)).trans (by go_simp), (hb.cell (p := ⟨w.heap.size + 1, 4, none⟩) (show w.heap.size + 1 < _ by omega)).trans (by go_simp), (hb.cell (p := ⟨w.heap.size + 1, 5, none⟩) (show w.heap.size + 1 < _ by omega)).trans (by go_simp), (hb.cell (p := ⟨w.heap.size + 1, 6, none⟩) (show w.heap.size + 1 < _ by omega)).trans (by go_simp), (hb.cell (p := ⟨w.heap.size + 1, 7, none⟩) (show w.heap.size + 1 < _ by omega)).trans (by go_simp), (hb.cell (p := ⟨w.heap.size + 1, 8, none⟩) (show w.heap.size + 1 < _ by omega)).trans (by go_simp), (hb.cell (p := ⟨w.heap.size + 1, 9, none⟩) (show w.heap.size + 1 < _ by omega)).trans (by go_simp), (hb.cell (p := ⟨w.heap.size + 1, 10, none⟩) (show w.heap.size + 1 < _ by omega)).trans (by go_simp), (hb.cell (p := ⟨w.heap.size + 1, 11, none⟩) (show w.heap.size + 1 < _ by omega)).trans (by go_simp), (hb.cell (p := ⟨w.heap.size + 1, 12, none⟩) (show w.heap.size + 1 < _ by omega)).trans (by go_simp), (hb.cell (p := ⟨w.heap.size + 1 + 1, 0, none⟩) (show w.heap.size + 1 + 1 < _ by omega)).trans (by go_simp), (hb.cell (p := ⟨w.heap.size + 1 + 1, 1, none⟩) (show w.heap.size + 1 + 1 < _ by omega)).trans (by go_simp), (hb.cell (p := ⟨w.heap.size + 1 + 1, 2, none⟩) (show w.heap.size + 1 + 1 < _ by omega)).trans (by go_simp), (hb.cell (p := ⟨w.heap.size + 1 + 1, 3, none⟩) (show w.heap.size + 1 + 1 < _ by omega)).trans (by go_simp), (hb.cell (p := ⟨w.heap.size + 1 + 1, 4, none⟩) (show w.heap.size + 1 + 1 < _ by omega)).trans (by go_simp), (hb.cell (p := ⟨w.heap.size + 1 + 1, 5, none⟩) (show w.heap.size + 1 + 1 < _ by omega)).trans (by go_simp), (hb.cell (p := ⟨w.heap.size + 1 + 1, 6, none⟩) (show w.heap.size + 1 + 1 < _ by omega)).trans (by go_simp), (hb.cell (p := ⟨w.heap.size + 1 + 1, 7, none⟩) (show w.heap.size + 1 + 1 < _ by omega)).trans (by go_simp), (hb.cell (p := ⟨w.heap.size + 1 + 1, 8, none⟩) (show w.heap.size + 1 + 1 < _ by omega)).trans (by go_simp), (hb.cell (p := ⟨w.heap.size + 1 + 1, 9, none⟩) (show w.heap.size + 1 + 1 < _ by omega)).trans (by go_simp), (hb.cell (p := ⟨w.heap.size + 1 + 1, 10, none⟩) (show w.heap.size + 1 + 1 < _ by omega)).trans (by go_simp), (hb.cell (p := ⟨w.heap.size + 1 + 1, 11, none⟩) (show w.heap.size + 1 + 1 < _ by omega)).trans (by go_simp), (hb.cell (p := ⟨w.heap.size + 1 + 1, 12, none⟩) (show w.heap.size + 1 + 1 < _ by omega)).trans (by go_simp), (hb.cell (p := ⟨w.heap.size + 1 + 1 + 1, 0, none⟩) (show w.heap.size + 1 + 1 + 1 < _ by omega)).trans (by go_simp), (hb.cell (p := ⟨w.heap.size + 1 + 1 + 1, 1, none⟩) (show w.heap.size + 1 + 1 + 1 < _ by omega)).trans (by go_simp), (hb.cell (p := ⟨w.heap.size + 1 + 1 + 1, 2, none⟩) (show w.heap.size + 1 + 1 + 1 < _ by omega)).trans (by go_simp), (hb.cell (p := ⟨w.heap.size + 1 + 1 + 1 + 1, 0, none⟩) (show w.heap.size + 1 + 1 + 1 + 1 < _ by omega)).trans (by go_simp), (hb.cell (p := ⟨w.heap.size + 1 + 1 + 1 + 1, 1, none⟩) (show w.heap.size + 1 + 1 + 1 + 1 < _ by omega)).trans (by go_simp), (hb.cell (p := ⟨w.heap.size + 1 + 1 + 1 + 1, 2, none⟩) (show w.heap.size + 1 + 1 + 1 + 1 < _ by omega)).trans (by go_simp)⟩
set_option linter.unusedSimpArgs false in
theorem begun5_n (w W : World) (hb : Below (w.heap.size + 1 + 1 + 1 + 1 + 1) (((((w.alloc (.cells #[.int .i64 3, .int .i64 3, .int .i64 1, .int .i64 0, .int .i64 0, .int .i64 0, .string ⟨#[]⟩, .int .i64 3, .int .i64 0, .int .i64 4, .int .i64 5, .string ⟨#[]⟩, .slice none 0 0] 77)).alloc (.cells #[.int .i64 3, .int .i64 3, .int .i64 1, .int .i64 0, .int .i64 0, .int .i64 0, .string ⟨#[]⟩, .int .i64 3, .int .i64 0, .int .i64 4, .int .i64 5, .string ⟨#[]⟩, .slice none 0 0] 77)).alloc (.cells #[.int .i64 6, .int .i64 0, .int .i64 0, .int .i64 0, .int .i64 0, .int .i64 0, .string ⟨#[]⟩, .int .i64 0, .int .i64 0, .int .i64 0, .int .i64 0, .string ⟨#[]⟩, .slice (some ⟨w.heap.size + 1, 0, none⟩) 1 1] 77)).alloc (.cells #[.int .i64 2, .int .i64 0, .string ⟨#[]⟩] 57)).alloc (.cells #[.int .i64 4, .int .i64 3, .string ⟨#[]⟩] 57)) W) : Pd W (.agg #[.int .i64 6, .int .i64 0, .int .i64 0, .int .i64 0, .int .i64 0, .int .i64 0, .string ⟨#[]⟩, .int .i64 0, .int .i64 0, .int .i64 0, .int .i64 0, .string ⟨#[]⟩, .slice (some ⟨w.heap.size + 1, 0, none⟩) 1 1]) exN := by
  obtain ⟨c0x0, c0x1, c0x2, c0x3, c0x4, c0x5, c0x6, c0x7, c0x8, c0x9, c0x10, c0x11, c0x12, c1x0, c1x1, c1x2, c1x3, c1x4, c1x5, c1x6, c1x7, c1x8, c1x9, c1x10, c1x11, c1x12, c2x0, c2x1, c2x2, c2x3, c2x4, c2x5, c2x6, c2x7, c2x8, c2x9, c2x10, c2x11, c2x12, c3x0, c3x1, c3x2, c4x0, c4x1, c4x2⟩ := begun5_facts w W hb
  refine ⟨_, _, rfl, pdS_one trivial (by have := hb.size; simp at this; omega) (pdC_block (a := none) (c := 0) (fun j v hv => ?_) (PdS.nil _ _))⟩
  match j with
  | 0 => simp only [List.getElem?_cons_zero, List.getElem?_cons_succ, Option.some.injEq] at hv; rw [← hv]; exact c1x0
  | 1 => simp only [List.getElem?_cons_zero, List.getElem?_cons_succ, Option.some.injEq] at hv; rw [← hv]; exact c1x1
  | 2 => simp only [List.getElem?_cons_zero, List.getElem?_cons_succ, Option.some.injEq] at hv; rw [← hv]; exact c1x2
  | 3 => simp only [List.getElem?_cons_zero, List.getElem?_cons_succ, Option.some.injEq] at hv; rw [← hv]; exact c1x3
  | 4 => simp only [List.getElem?_cons_zero, List.getElem?_cons_succ, Option.some.injEq] at hv; rw [← hv]; exact c1x4
  | 5 => simp only [List.getElem?_cons_zero, List.getElem?_cons_succ, Option.some.injEq] at hv; rw [← hv]; exact c1x5
  | 6 => simp only [List.getElem?_cons_zero, List.getElem?_cons_succ, Option.some.injEq] at hv; rw [← hv]; exact c1x6
  | 7 => simp only [List.getElem?_cons_zero, List.getElem?_cons_succ, Option.some.injEq] at hv; rw [← hv]; exact c1x7
  | 8 => simp only [List.getElem?_cons_zero, List.getElem?_cons_succ, Option.some.injEq] at hv; rw [← hv]; exact c1x8
  | 9 => simp only [List.getElem?_cons_zero, List.getElem?_cons_succ, Option.some.injEq] at hv; rw [← hv]; exact c1x9
  | 10 => simp only [List.getElem?_cons_zero, List.getElem?_cons_succ, Option.some.injEq] at hv; rw [← hv]; exact c1x10
  | 11 => simp only [List.getElem?_cons_zero, List.getElem?_cons_succ, Option.some.injEq] at hv; rw [← hv]; exact c1x11
  | 12 => simp only [List.getElem?_cons_zero, List.getElem?_cons_succ, Option.some.injEq] at hv; rw [← hv]; exact c1x12
  | j + 13 => simp at hv

end Go.Proofs.Ytjcbmeannhafjaa
