/- Walk of begun: the examples of the chapter. -/
import Derived.Test.YtkhbephcmcnfjaaSame
import Derived.Test.YtkhbephcmcnfjaaPutRef
namespace Go.Proofs.Ytkhbephcmcnfjaa
open Go.RowKit Go.Deep

theorem reads_lit (w : World) (L : List UInt8) (hl : L.length ≤ 4398046511104) : Reads (w.alloc (.cells (bts L).toArray 5)) (.slice (some ⟨w.heap.size, 0, none⟩) L.length L.length) L := by
  refine ⟨some ⟨w.heap.size, 0, none⟩, L.length, rfl, Nat.le_refl _, by unfold maxLen; omega, fun h => by simp at h, fun p hp j u hj => ?_⟩
  simp only [Option.some.injEq] at hp
  subst hp
  have hadd : (⟨w.heap.size, 0, none⟩ : Addr).add j = ⟨w.heap.size, j, none⟩ := by unfold Addr.add; split <;> simp_all
  rw [hadd, World.cell?_alloc_mark w (bts L).toArray 5 (0, 0) j]
  simpa using hj

def exRow : List V := [⟨3, 1, ⟨#[]⟩⟩, ⟨5, 0, ⟨#[97]⟩⟩]
theorem ex_err : rowErr exRow = 0 := by decide
theorem ex_out : rowOut [] exRow = [2, 3, 1, 5, 1, 97] := by
  have h : vldL exRow = true := by decide
  have e1 : leb (ByteArray.mk #[97]).size = [1] := by rw [show (ByteArray.mk #[97]).size = 1 from rfl, leb_small (by decide)]; rfl
  have e2 : leb 2 = [2] := by rw [leb_small (by decide)]; rfl
  unfold rowOut
  rw [if_neg (by decide), if_pos h]
  simp [exRow, encL, encV, e1, e2, txt]
theorem ex_300 : leb 300 = [172, 2] := by rw [leb_more (by decide), leb_small (by decide)]; rfl
theorem ex_neg : leb (zz (-1)) = [1] := by
  have h : zz (-1) = 1 := by decide
  rw [h, leb_small (by decide)]; rfl
theorem ex_bad : readU [128, 0] 0 = (0, 0, 21) := by decide

set_option maxRecDepth 100000 in
set_option maxHeartbeats 4000000 in
theorem begun2_any (w : World) : Calls Try.prog 21 #[] w fun e w' => e = .returned (.bool true) ∧ Below w.heap.size w w' := by
  have hr0 : RowAt (w.alloc (.cells #[.int .i64 3, .int .i64 1, .string ⟨#[]⟩, .int .i64 5, .int .i64 0, .string ⟨#[97]⟩] 42)) (.slice (some ⟨w.heap.size, 0, none⟩) 2 2) exRow := by
    have hc : ∀ o, (w.alloc (.cells #[.int .i64 3, .int .i64 1, .string ⟨#[]⟩, .int .i64 5, .int .i64 0, .string ⟨#[97]⟩] 42)).cell? ⟨w.heap.size, o, none⟩ = (#[.int .i64 3, .int .i64 1, .string ⟨#[]⟩, .int .i64 5, .int .i64 0, .string ⟨#[97]⟩] : Array Value)[o]? := fun o => World.cell?_alloc_mark w _ _ _ o
    refine ⟨_, _, rfl, by decide, fun i hi => ⟨w.heap.size, 0, rfl, by simp, ?_⟩⟩
    have hi2 : i = 0 ∨ i = 1 := by simp [exRow] at hi; omega
    rcases hi2 with rfl | rfl
    · exact ⟨hc _, hc _, hc _⟩
    · exact ⟨hc _, hc _, hc _⟩
  have h1 := aRow_any (.slice none 0 0) _ [] exRow _ (reads_nil _) hr0 (by simp) (fun v hv => by simp [exRow] at hv; rcases hv with rfl | rfl <;> exact ⟨by decide, by decide⟩)
  rw [ex_out, ex_err] at h1
  have H1 := Lib.hid h1
  have hb0 : Below w.heap.size w (w.alloc (.cells #[.int .i64 3, .int .i64 1, .string ⟨#[]⟩, .int .i64 5, .int .i64 0, .string ⟨#[97]⟩] 42)) := (Below.refl _ _).alloc (Nat.le_refl _) _
  have HB0 := Lib.hid hb0
  clear h1 hr0 hb0
  go_enter Try.func21, Try.ntmps21
  go_wp2_with fail
  refine H1.out.mono ?_
  rintro e w1 ⟨v1, rfl, ho1, hb1, -⟩
  have HB1 : Hid (Below w.heap.size w w1) := HB0.out.trans (hb1.mono HB0.out.size)
  have HR1 : Hid (∀ W, Below w1.heap.size w1 W → Reads W v1 [2, 3, 1, 5, 1, 97]) := fun W hb => ho1.reads.below hb
  clear ho1 hb1 H1 HB0
  have h2 := eUint_any (.slice (some ⟨w1.heap.size, 0, none⟩) 2 2) [128, 0] 0 _ (reads_lit w1 [128, 0] (by decide))
  rw [ex_bad] at h2
  have H2 := Lib.hid h2
  clear h2
  go_wp2_with fail
  refine H2.out.mono ?_
  rintro e w2 ⟨rfl, hb2⟩
  have HB2 : Hid (Below w1.heap.size w1 w2) := Below.trans ((Below.refl _ _).alloc (Nat.le_refl _) _) (hb2.mono (by simp))
  clear hb2 H2
  go_wp2_with fail
  refine (same_any v1 _ [2, 3, 1, 5, 1, 97] [2, 3, 1, 5, 1, 97] _ (HR1.out _ (HB2.out.alloc HB2.out.size _)) (reads_lit w2 [2, 3, 1, 5, 1, 97] (by decide))).mono ?_
  rintro e w3 ⟨he, rfl⟩
  simp only [decide_true] at he
  subst he
  have HB3 : Hid (Below w.heap.size w (w2.alloc (.cells (bts [2, 3, 1, 5, 1, 97]).toArray 5))) := HB1.out.trans ((HB2.out.alloc HB2.out.size _).mono HB1.out.size)
  generalize (w2.alloc (.cells (bts [2, 3, 1, 5, 1, 97]).toArray 5)) = w3 at HB3 ⊢
  have h4 := aUint_any (.slice none 0 0) [] 300 w3 (reads_nil _) (by simp) (by omega)
  rw [List.nil_append, ex_300] at h4
  have H4 := Lib.hid h4
  clear h4 HR1 HB2 HB1
  go_wp2_with fail
  refine H4.out.mono ?_
  rintro e w4 ⟨v4, rfl, ho4, hb4, -⟩
  have HB4 : Hid (Below w.heap.size w w4) := HB3.out.trans (hb4.mono HB3.out.size)
  have HR4 : Hid (∀ W, Below w4.heap.size w4 W → Reads W v4 [172, 2]) := fun W hb => ho4.reads.below hb
  clear ho4 hb4 H4 HB3
  go_wp2_with fail
  refine (same_any v4 _ [172, 2] [172, 2] _ (HR4.out _ ((Below.refl _ _).alloc (Nat.le_refl _) _)) (reads_lit w4 [172, 2] (by decide))).mono ?_
  rintro e w0 ⟨he, rfl⟩
  simp only [decide_true] at he
  subst he
  have HB5 : Hid (Below w.heap.size w (w4.alloc (.cells (bts [172, 2]).toArray 5))) := HB4.out.alloc HB4.out.size _
  generalize (w4.alloc (.cells (bts [172, 2]).toArray 5)) = w5 at HB5 ⊢
  have h6 := aInt_any (.slice none 0 0) [] (-1) w5 (reads_nil _) (by simp) (by omega) (by omega)
  rw [List.nil_append, ex_neg] at h6
  have H6 := Lib.hid h6
  clear h6 HR4 HB4
  go_wp2_with fail
  refine H6.out.mono ?_
  rintro e w6 ⟨v6, rfl, ho6, hb6, -⟩
  have HB6 : Hid (Below w.heap.size w w6) := HB5.out.trans (hb6.mono HB5.out.size)
  have HR6 : Hid (∀ W, Below w6.heap.size w6 W → Reads W v6 [1]) := fun W hb => ho6.reads.below hb
  clear ho6 hb6 H6 HB5
  go_wp2_with fail
  refine (same_any v6 _ [1] [1] _ (HR6.out _ ((Below.refl _ _).alloc (Nat.le_refl _) _)) (reads_lit w6 [1] (by decide))).mono ?_
  rintro e w0 ⟨he, rfl⟩
  simp only [decide_true] at he
  subst he
  have HB7 : Hid (Below w.heap.size w (w6.alloc (.cells (bts [1]).toArray 5))) := HB6.out.alloc HB6.out.size _
  generalize (w6.alloc (.cells (bts [1]).toArray 5)) = w7 at HB7 ⊢
  go_wp2_with fail
  go_ret
  exact ⟨rfl, HB7.out⟩
end Go.Proofs.Ytkhbephcmcnfjaa
