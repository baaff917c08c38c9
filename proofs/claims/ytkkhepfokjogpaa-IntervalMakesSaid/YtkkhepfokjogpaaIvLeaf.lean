
/- The leaves of package interval: validInterval, apart, contains. -/
import Derived.Test.YtkkhepfokjogpaaIvMath

import Derived.Test.YtkkhepfokjogpaaRow

namespace Go.Proofs.Ytkkhepfokjogpaa

open Go.RowKit

/-- What stands in the block that the world has just laid stays there. -/
theorem kept_new {w w1 : World} {O : Obj} (hg : Gr (w.alloc O) w1) : ∀ o, w1.cell? ⟨w.heap.size, o, none⟩ = (w.alloc O).cell? ⟨w.heap.size, o, none⟩ := fun o =>
  hg.below.cell (p := ⟨w.heap.size, o, none⟩) (show w.heap.size < (w.alloc O).heap.size by simp)

set_option maxHeartbeats 1000000 in
theorem iValidInterval_any (fk fn : Int) (fs : ByteArray) (tk tn : Int) (ts : ByteArray) (o : Bool) (w : World) :
    Calls Try.prog 49 #[.agg #[.int .i64 fk, .int .i64 fn, .string fs, .int .i64 tk, .int .i64 tn, .string ts, .bool o]] w fun e w' => e = .returned (.bool (okI ⟨⟨fk, fn, fs⟩, ⟨tk, tn, ts⟩, o⟩)) ∧ Gr w w' := by
  have HF := Lib.hid (fun W => vValid_any fk fn fs W)
  have HT := Lib.hid (fun W => vValid_any tk tn ts W)
  have HC := Lib.hid (fun W => vCompare_any fk fn fs tk tn ts W)
  cases o with
  | true =>
    have hx : okI ⟨⟨fk, fn, fs⟩, ⟨tk, tn, ts⟩, true⟩ = (vldB fk fn fs && decide (V.mk tk tn ts = ⟨0, 0, ⟨#[]⟩⟩)) := rfl
    rw [hx]; clear hx
    have he := fun W => eqV_run tk tn ts 0 0 ⟨#[]⟩ W
    generalize vldB fk fn fs = x at HF ⊢
    cases x
    · simp only [Bool.false_and]
      clear he
      go_enter Try.func49, Try.ntmps49
      go_wp2_with fail
      refine (HF.out _).mono ?_
      rintro e w1 ⟨rfl, hg⟩
      have hc := kept_new hg
      go_wp2_with fail
      go_ret
      exact ⟨rfl, ((Gr.refl _).alloc _).trans hg⟩
    · simp only [Bool.true_and]
      generalize decide (V.mk tk tn ts = ⟨0, 0, ⟨#[]⟩⟩) = y at he ⊢
      go_enter Try.func49, Try.ntmps49
      go_wp2_with fail
      refine (HF.out _).mono ?_
      rintro e w1 ⟨rfl, hg⟩
      have hc := kept_new hg
      go_wp2_with fail
      go_ret
      exact ⟨rfl, ((Gr.refl _).alloc _).trans hg⟩
  | false =>
    have hx : okI ⟨⟨fk, fn, fs⟩, ⟨tk, tn, ts⟩, false⟩ = (vldB fk fn fs && (vldB tk tn ts && decide (cmpV ⟨fk, fn, fs⟩ ⟨tk, tn, ts⟩ < 0))) := rfl
    rw [hx]; clear hx
    generalize cmpV ⟨fk, fn, fs⟩ ⟨tk, tn, ts⟩ = c at HC ⊢
    generalize vldB fk fn fs = x at HF ⊢
    generalize vldB tk tn ts = y at HT ⊢
    cases x
    · simp only [Bool.false_and]
      go_enter Try.func49, Try.ntmps49
      go_wp2_with fail
      refine (HF.out _).mono ?_
      rintro e w1 ⟨rfl, hg⟩
      have hc := kept_new hg
      go_wp2_with fail
      go_ret
      exact ⟨rfl, ((Gr.refl _).alloc _).trans hg⟩
    · simp only [Bool.true_and]
      cases y
      · simp only [Bool.false_and]
        go_enter Try.func49, Try.ntmps49
        go_wp2_with fail
        refine (HF.out _).mono ?_
        rintro e w1 ⟨rfl, hg⟩
        have hc := kept_new hg
        go_wp2_with fail
        refine (HT.out _).mono ?_
        rintro e w2 ⟨rfl, hg2⟩
        go_wp2_with fail
        go_ret
        exact ⟨rfl, (((Gr.refl _).alloc _).trans hg).trans hg2⟩
      · simp only [Bool.true_and]
        go_enter Try.func49, Try.ntmps49
        go_wp2_with fail
        refine (HF.out _).mono ?_
        rintro e w1 ⟨rfl, hg⟩
        have hc := kept_new hg
        go_wp2_with fail
        refine (HT.out _).mono ?_
        rintro e w2 ⟨rfl, hg2⟩
        have hc2 := kept_new (hg.trans hg2)
        clear hc
        go_wp2_with fail
        refine (HC.out _).mono ?_
        rintro e w3 ⟨rfl, hg3⟩
        go_wp2_with fail
        go_ret
        exact ⟨rfl, ((((Gr.refl _).alloc _).trans hg).trans hg2).trans hg3⟩

def apartB (x y : IV) : Bool := !x.o && decide (cmpV x.t y.f < 0)

set_option maxHeartbeats 1000000 in
theorem iApart_any (fk fn : Int) (fs : ByteArray) (tk tn : Int) (ts : ByteArray) (o : Bool) (gk gn : Int) (gs : ByteArray) (uk un : Int) (us : ByteArray) (o2 : Bool) (w : World) :
    Calls Try.prog 50 #[.agg #[.int .i64 fk, .int .i64 fn, .string fs, .int .i64 tk, .int .i64 tn, .string ts, .bool o], .agg #[.int .i64 gk, .int .i64 gn, .string gs, .int .i64 uk, .int .i64 un, .string us, .bool o2]] w
      fun e w' => e = .returned (.bool (apartB ⟨⟨fk, fn, fs⟩, ⟨tk, tn, ts⟩, o⟩ ⟨⟨gk, gn, gs⟩, ⟨uk, un, us⟩, o2⟩)) ∧ Gr w w' := by
  have HC := Lib.hid (fun W => vCompare_any tk tn ts gk gn gs W)
  have hx : apartB ⟨⟨fk, fn, fs⟩, ⟨tk, tn, ts⟩, o⟩ ⟨⟨gk, gn, gs⟩, ⟨uk, un, us⟩, o2⟩ = (!o && decide (cmpV ⟨tk, tn, ts⟩ ⟨gk, gn, gs⟩ < 0)) := rfl
  rw [hx]; clear hx
  generalize cmpV ⟨tk, tn, ts⟩ ⟨gk, gn, gs⟩ = c at HC ⊢
  cases o
  · simp only [Bool.not_false, Bool.true_and]
    go_enter Try.func50, Try.ntmps50
    go_wp2_with fail
    refine (HC.out _).mono ?_
    rintro e w1 ⟨rfl, hg⟩
    go_wp2_with fail
    go_ret
    exact ⟨rfl, (((Gr.refl _).alloc _).alloc _).trans hg⟩
  · simp only [Bool.not_true, Bool.false_and]
    go_enter Try.func50, Try.ntmps50
    go_wp2_with fail
    go_ret
    exact ⟨rfl, ((Gr.refl _).alloc _).alloc _⟩

set_option maxHeartbeats 1000000 in
theorem iContains_any (fk fn : Int) (fs : ByteArray) (tk tn : Int) (ts : ByteArray) (o : Bool) (gk gn : Int) (gs : ByteArray) (w : World) :
    Calls Try.prog 54 #[.agg #[.int .i64 fk, .int .i64 fn, .string fs, .int .i64 tk, .int .i64 tn, .string ts, .bool o], .agg #[.int .i64 gk, .int .i64 gn, .string gs]] w
      fun e w' => e = .returned (.bool (inI ⟨⟨fk, fn, fs⟩, ⟨tk, tn, ts⟩, o⟩ ⟨gk, gn, gs⟩)) ∧ Gr w w' := by
  have HC := Lib.hid (fun W => vCompare_any fk fn fs gk gn gs W)
  have HD := Lib.hid (fun W => vCompare_any gk gn gs tk tn ts W)
  have hx : inI ⟨⟨fk, fn, fs⟩, ⟨tk, tn, ts⟩, o⟩ ⟨gk, gn, gs⟩ = (decide (cmpV ⟨fk, fn, fs⟩ ⟨gk, gn, gs⟩ ≤ 0) && (o || decide (cmpV ⟨gk, gn, gs⟩ ⟨tk, tn, ts⟩ < 0))) := rfl
  rw [hx]; clear hx
  generalize cmpV ⟨fk, fn, fs⟩ ⟨gk, gn, gs⟩ = c at HC ⊢
  generalize cmpV ⟨gk, gn, gs⟩ ⟨tk, tn, ts⟩ = d at HD ⊢
  by_cases hc0 : c ≤ 0
  · have hd : decide (c ≤ 0) = true := by simpa using hc0
    rw [hd, Bool.true_and]
    cases o
    · rw [Bool.false_or]
      go_enter Try.func54, Try.ntmps54
      go_wp2_with fail
      refine (HC.out _).mono ?_
      rintro e w1 ⟨rfl, hg⟩
      have hk0 : ∀ o, w1.cell? ⟨w.heap.size, o, none⟩ = _ := fun o => (hg.below.cell (p := ⟨w.heap.size, o, none⟩) (by simp; omega))
      have hk1 : ∀ o, w1.cell? ⟨w.heap.size + 1, o, none⟩ = _ := fun o => (hg.below.cell (p := ⟨w.heap.size + 1, o, none⟩) (by simp))
      go_wp2_with fail
      refine (HD.out _).mono ?_
      rintro e w2 ⟨rfl, hg2⟩
      go_wp2_with fail
      go_ret
      exact ⟨rfl, ((((Gr.refl _).alloc _).alloc _).trans hg).trans hg2⟩
    · rw [Bool.true_or]
      go_enter Try.func54, Try.ntmps54
      go_wp2_with fail
      refine (HC.out _).mono ?_
      rintro e w1 ⟨rfl, hg⟩
      have hk0 : ∀ o, w1.cell? ⟨w.heap.size, o, none⟩ = _ := fun o => (hg.below.cell (p := ⟨w.heap.size, o, none⟩) (by simp; omega))
      go_wp2_with fail
      go_ret
      exact ⟨rfl, (((Gr.refl _).alloc _).alloc _).trans hg⟩
  · have hd : decide (c ≤ 0) = false := by simpa using hc0
    rw [hd, Bool.false_and]
    go_enter Try.func54, Try.ntmps54
    go_wp2_with fail
    refine (HC.out _).mono ?_
    rintro e w1 ⟨rfl, hg⟩
    go_wp2_with fail
    go_ret
    exact ⟨rfl, (((Gr.refl _).alloc _).alloc _).trans hg⟩
end Go.Proofs.Ytkkhepfokjogpaa
