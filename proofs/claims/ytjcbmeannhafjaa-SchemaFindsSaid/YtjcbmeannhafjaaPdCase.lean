
/- Bool; lists of kinds. -/
import Derived.Test.YtjcbmeannhafjaaPdNew

import Derived.Test.YtjcbmeannhafjaaPdInts

import Derived.Test.YtjcbmeannhafjaaPdEvery
import Derived.Test.YtjcbmeannhafjaaPdHolds
import Derived.Test.YtjcbmeannhafjaaCase5
import Derived.Maps.AppendAt
import Derived.Test.YtjcbmeannhafjaaPdIc
import Derived.Shelf.Sort.Plain
import Derived.Shelf.Slices.In.SortNone
import Derived.Shelf.Slices.CompactI
import Derived.Laws.EntriesVeiled

namespace Go.Proofs.Ytjcbmeannhafjaa

open Go.RowKit Go.Deep

set_option maxHeartbeats 400000 in
theorem cBool_5 (bc B : Nat) (w : World) (h : CaseOk bc B w) : Calls Try.prog 30 #[.pointer (some ⟨bc, 0, none⟩), .int .i64 5] w (BoolPost bc B w) := by
  have HI := Lib.hid (cInt_any bc B 5 w (by omega) (by omega) h)
  clear h
  go_enter Try.func30, Try.ntmps30
  go_wp2_with fail
  refine HI.out.mono ?_
  rintro e w1 ⟨r, rfl, hr0, hr1, hm, ho⟩
  clear HI
  go_wp2_with fail
  go_ret
  exact ⟨_, rfl, hm, ho⟩

set_option maxHeartbeats 400000 in
theorem cBool_6 (bc B : Nat) (w : World) (h : CaseOk bc B w) : Calls Try.prog 30 #[.pointer (some ⟨bc, 0, none⟩), .int .i64 6] w (BoolPost bc B w) := by
  have HI := Lib.hid (cInt_any bc B 6 w (by omega) (by omega) h)
  clear h
  go_enter Try.func30, Try.ntmps30
  go_wp2_with fail
  refine HI.out.mono ?_
  rintro e w1 ⟨r, rfl, hr0, hr1, hm, ho⟩
  clear HI
  go_wp2_with fail
  go_ret
  exact ⟨_, rfl, hm, ho⟩

/-- A slice value reads as a list of ints whose block is lo or later. -/
def IntsG (lo : Nat) (w : World) (v : Value) (l : List Int) : Prop :=
  ∃ a c, v = .slice a l.length c ∧ SlF a l.length c ∧ ∀ j (h : j < l.length), ∃ b off, a = some ⟨b, off, none⟩ ∧ lo ≤ b ∧ b < w.heap.size ∧ w.cell? ⟨b, off + j, none⟩ = some (.int .i64 l[j])
theorem IntsG.at {lo : Nat} {w : World} {v : Value} {l : List Int} (h : IntsG lo w v l) : IntsAt w v l := by
  obtain ⟨a, c, e, hf, hi⟩ := h
  exact ⟨a, c, e, hf, fun j hj => by obtain ⟨b, off, ea, _, hlt, hc⟩ := hi j hj; exact ⟨b, off, ea, hlt, hc⟩⟩
theorem IntsG.shape {lo : Nat} {w : World} {v : Value} {l : List Int} (h : IntsG lo w v l) : ∃ a c, v = .slice a l.length c := by
  obtain ⟨a, c, e, _⟩ := h; exact ⟨a, c, e⟩
theorem IntsG.nil (lo : Nat) (w : World) : IntsG lo w (.slice none 0 0) [] := ⟨none, 0, rfl, ⟨by simp, by simp, fun _ => ⟨rfl, rfl⟩, by simp⟩, fun j h => absurd h (by simp)⟩
theorem IntsG.mv {lo bc : Nat} {w w' : World} {v : Value} {l : List Int} (h : IntsG lo w v l) (hm : Mv bc w w') (hb : bc < lo) : IntsG lo w' v l := by
  obtain ⟨a, c, e, hf, hi⟩ := h
  refine ⟨a, c, e, hf, fun j hj => ?_⟩
  obtain ⟨b, off, ea, hlo, hlt, hc⟩ := hi j hj
  exact ⟨b, off, ea, hlo, Nat.lt_of_lt_of_le hlt hm.size, (hm.cell (p := ⟨b, off + j, none⟩) hlt (show b ≠ bc by omega)).trans hc⟩
theorem IntsG.below {lo : Nat} {w w' : World} {v : Value} {l : List Int} (h : IntsG lo w v l) (hb : Below w.heap.size w w') : IntsG lo w' v l := by
  obtain ⟨a, c, e, hf, hi⟩ := h
  refine ⟨a, c, e, hf, fun j hj => ?_⟩
  obtain ⟨b, off, ea, hlo, hlt, hc⟩ := hi j hj
  exact ⟨b, off, ea, hlo, Nat.lt_of_lt_of_le hlt hb.size, (hb.cell (p := ⟨b, off + j, none⟩) hlt).trans hc⟩
theorem IntsG.weak {lo lo' : Nat} {w : World} {v : Value} {l : List Int} (h : IntsG lo w v l) (hl : lo' ≤ lo) : IntsG lo' w v l := by
  obtain ⟨a, c, e, hf, hi⟩ := h
  refine ⟨a, c, e, hf, fun j hj => ?_⟩
  obtain ⟨b, off, ea, hlo, hlt, hc⟩ := hi j hj
  exact ⟨b, off, ea, by omega, hlt, hc⟩
theorem intsG_own {w : World} {base : Nat} {v : Value} {s : List Int} (ho : w.ownsRow base 3 1 v s.length (iC s)) (hs : s.length ≤ 17592186044416) : IntsG base w v s := by
  rcases ho.2 with ⟨rfl, hz⟩ | ⟨g, cap, cur, rfl, hg, -, -, -, -, -⟩
  · have : s = [] := List.eq_nil_of_length_eq_zero hz
    subst this
    exact IntsG.nil _ _
  · obtain ⟨hH, hgl, -, -, hcap, hmax⟩ := own_holds ho
    refine ⟨_, cap, rfl, ⟨hcap, hmax, fun e => (by cases e), hs⟩, fun j hj => ⟨g, 0, rfl, hg, hgl, ?_⟩⟩
    have := (hH j (by simpa using hj)).1
    rw [this]
    simp [hj]

def KindsPost (bc B most : Nat) (w : World) (e : Ending) (w' : World) : Prop := ∃ (v : Value) (l : List Int), e = .returned v ∧ l.length ≤ most ∧ okKs l = true ∧ IntsG w.heap.size w' v l ∧ Mv bc w w' ∧ CaseOk bc B w'

end Go.Proofs.Ytjcbmeannhafjaa
