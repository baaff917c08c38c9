
/- Walk of the reference's Copy: what the row owns. -/
import Derived.Test.YtjcbmeannhafjaaCase5

import Derived.Test.YtjcbmeannhafjaaRow

import Derived.Test.YtjcbmeannhafjaaCopy

namespace Go.Proofs.Ytjcbmeannhafjaa

open Go.RowKit Go.Deep

/-- A row is returned that the call owns. -/
def RCopyOwn (w : World) (l : List V) (e : Ending) (w' : World) : Prop := ∃ v, e = .returned v ∧ w'.ownsRow w.heap.size 57 3 v l.length (cellsOf l) ∧ Below w.heap.size w w'
def RCopyPost (w : World) (l : List V) (e : Ending) (w' : World) : Prop := ∃ v, e = .returned v ∧ RowT w.heap.size w' v l ∧ Below w.heap.size w w'

set_option maxHeartbeats 400000 in
theorem rCopyOwn_any (rv : Value) (l : List V) (w : World) (h : RowAt w rv l) : Calls Try.prog 46 #[rv] w (RCopyOwn w l) := by
  obtain ⟨a, c, rfl, hn, hi⟩ := h
  have hinfo : (Try.prog.info? 57).map (fun i => (i.zero, i.size, i.bytes)) = some (some (.agg #[.int .i64 0, .int .i64 0, .string ⟨#[]⟩]), 3, 32) := by kernel_rfl
  obtain ⟨i0, hi0, hz0, hz1, hz2⟩ := info_parts hinfo
  cases a with
  | none =>
    have h0 : l.length = 0 := by
      by_cases h : 0 < l.length
      · obtain ⟨b, off, e, _⟩ := hi 0 h; simp at e
      · omega
    obtain rfl : l = [] := List.eq_nil_of_length_eq_zero h0
    go_enter Try.func46, Try.ntmps46
    go_wp2_with fail
    go_ret
    exact ⟨_, rfl, ⟨by simp [cellsOf], .inl ⟨rfl, rfl⟩⟩, Below.refl _ _⟩
  | some ad =>
    have HI := Lib.hid hi0
    have HZ0 := Lib.hid hz0
    have HZ1 := Lib.hid hz1
    have HZ2 := Lib.hid hz2
    have hnews : ∀ j u, (cellsOf l)[j]? = some u → w.cell? (ad.add j) = some u := by
      by_cases h0 : l.length = 0
      · obtain rfl : l = [] := List.eq_nil_of_length_eq_zero h0
        intro j u hj; simp [cellsOf] at hj
      · obtain ⟨b, o, e0, hb, _⟩ := hi 0 (by omega)
        simp only [Option.some.injEq] at e0
        subst e0
        refine cellsOf_src w b o l (fun i h => ?_)
        obtain ⟨b', o', e, _, hc⟩ := hi i h
        simp only [Option.some.injEq, Addr.mk.injEq] at e
        obtain ⟨rfl, rfl, _⟩ := e
        exact hc
    have HNW := Lib.hid hnews
    have HL1 := Lib.hid (length_cellsOf l)
    have HO1 := Lib.hid (cellsOf_one l)
    have HFIN : Hid (∀ (w' : World) v, w'.ownsRow w.heap.size 57 3 v l.length (cellsOf l) → w'.ownsRow w.heap.size 57 3 v l.length (cellsOf l)) := fun w' v h => h
    have A1 : Hid (0 + l.length ≤ maxLen) := by show _ ≤ _; unfold maxLen; omega
    have A2 : Hid ((0 + l.length) * 32 ≤ 140737488355328) := by show _ ≤ _; omega
    have HOW : Hid (w.ownsRow w.heap.size 57 3 (.slice none 0 0) 0 []) := ⟨by simp, .inl ⟨rfl, rfl⟩⟩
    clear hi hi0 hz0 hz1 hz2 hnews hinfo
    obtain ⟨cs, hcs⟩ : ∃ cs, cellsOf l = cs := ⟨_, rfl⟩
    rw [hcs] at HNW HL1 HO1 HFIN
    have HCS := Lib.hid hcs
    clear hcs
    go_enter Try.func46, Try.ntmps46
    go_wp2_with (at_builtin; refine wpList_append_own _ rfl _ _ 45 rfl w.heap.size 57 i0 (.agg #[.int .i64 0, .int .i64 0, .string ⟨#[]⟩]) 3 32 Try.underlying45 HI.out HZ0.out HZ1.out HZ2.out rfl (by decide) _ _ _ rfl HOW.out ad l.length c cs rfl HL1.out HNW.out HO1.out A1.out A2.out (Nat.le_refl _) ?_; intro v' w2 hown2 hgr _; have HOWN := Lib.hid hown2; have HGR := Lib.hid hgr; clear hown2 hgr)
    go_ret
    refine ⟨v', rfl, (by have hh := HFIN.out _ _ (by simpa using HOWN.out); rw [← HCS.out] at hh; exact hh), (Below.refl _ _).grown HGR.out (Nat.le_refl _) (fun k e => ?_)⟩
    have e' : Value.ownBlock (.slice none 0 0) = some k := e
    simp [Value.ownBlock] at e'

theorem rCopy_any (rv : Value) (l : List V) (w : World) (h : RowAt w rv l) : Calls Try.prog 46 #[rv] w (RCopyPost w l) :=
  (rCopyOwn_any rv l w h).mono fun _ _ ⟨v, he, ho, hb⟩ => ⟨v, he, rowT_own ho (by obtain ⟨_, _, _, hn, _⟩ := h; exact hn), hb⟩
theorem own_below {base : Nat} {e : TypeId} {size : Nat} {v : Value} {n : Nat} {xs : List Value} {w w' : World} (h : w.ownsRow base e size v n xs) (hm : Below w.heap.size w w') : w'.ownsRow base e size v n xs :=
  h.kept (row := none) ⟨hm.os, hm.tape, hm.output, hm.size, fun b hb' _ => hm.block b hb'⟩ (by
    cases hob : Value.ownBlock v with
    | none => exact .inl rfl
    | some kk => right; intro e; simp at e)
end Go.Proofs.Ytjcbmeannhafjaa
