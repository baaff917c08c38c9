
/- Bytes that came in; an own slice that is not empty. -/
import Derived.Test.YtkkhepfokjogpaaCase4

import Derived.OpenShut

import Derived.Deep.OwnRows

namespace Go.Proofs.Ytkkhepfokjogpaa

open Go.RowKit Go.Deep
theorem bytesAt_nil (w : World) : BytesAt w (.slice none 0 0) 0 := ⟨none, 0, rfl, Nat.le_refl _, by omega, fun _ => ⟨rfl, rfl⟩, [], rfl, fun p h => by simp at h, fun x h => by simp at h⟩
theorem BytesAt.below {w w' : World} {v : Value} {n : Nat} (h : BytesAt w v n) (hb : Below w.heap.size w w') : BytesAt w' v n := by
  obtain ⟨a, c, e, h1, h2, h3, xs, hl, hc, hx⟩ := h
  exact ⟨a, c, e, h1, h2, h3, xs, hl, fun p hp j hj => cell_later hb (hc p hp j hj), hx⟩
theorem bytesAt_some (w : World) (x : Addr) (n c : Nat) (zs : List Int) (hl : n ≤ c) (hm : c ≤ maxLen) (hz : n ≤ zs.length) (hc : ∀ i, i < zs.length → w.cell? (x.add i) = some (.int .u8 (zs.getD i 0))) (hw : ∀ z ∈ zs, (Lit.int .u8 z).wf = true) : BytesAt w (.slice (some x) n c) n := by
  unfold maxLen at hm
  refine ⟨some x, c, rfl, hl, hm, fun h => by simp at h, zs.take n, by simp; omega, fun p hp j hj => ?_, fun z hz' => bounds_u8 (hw z (List.mem_of_mem_take hz'))⟩
  simp only [Option.some.injEq] at hp
  subst hp
  have hj' : j < zs.length := by simp at hj; omega
  rw [hc j hj', List.getElem_take, List.getD_eq_getElem?_getD, List.getElem?_eq_getElem hj']
  rfl

theorem own_some {w : World} {base : Nat} {e : TypeId} {size : Nat} {v : Value} {n : Nat} {xs : List Value} (hn : 0 < n) (h : w.ownsRow base e size v n xs) : ∃ g cap, v = .slice (some ⟨g, 0, none⟩) n cap ∧ w.ownsRow base e size (.slice (some ⟨g, 0, none⟩) n cap) n xs := by
  rcases h.2 with ⟨_, h0⟩ | ⟨g, cap, cur, hv, _⟩
  · omega
  · exact ⟨g, cap, hv, by rw [← hv]; exact h⟩

end Go.Proofs.Ytkkhepfokjogpaa
