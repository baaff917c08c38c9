/- Arguments that are slices of rows, opened. -/
import Derived.Test.YtkhbephcmcnfjaaOpen
import Derived.Test.YtkhbephcmcnfjaaHead
namespace Go.Proofs.Ytkhbephcmcnfjaa
open Go.RowKit Go.ChangeShapes Go.WideShapes Go.Deep
section
variable {H : Type} {enc : TypeId × Value → H} {W : World}

theorem weightsAll_mem {P : Program} {t : TypeId} {n : Nat} {d : DataW H} : ∀ {l : List (DataW H)}, d ∈ l → n ∈ d.weights P t → n ∈ DataW.weightsAll P t l
  | [], h, _ => by simp at h
  | x :: r, h, hn => by
    rw [DataW.weightsAll, List.mem_append]
    rcases List.mem_cons.1 h with rfl | h
    · exact .inl hn
    · exact .inr (weightsAll_mem h hn)

theorem sized_inner {P : Program} {ts : List TypeId} {ds : List (DataW H)} (h : (DataW.weightsEach P ts ds).all (· ≤ reachBytes) = true) {j : Nat} {t e e2 : TypeId} {elems spare es sp : List (DataW H)} (ht : ts[j]? = some t) (hd : ds[j]? = some (.slice elems spare))
    (hu : P.underlying t = some (.slice e)) (hu2 : P.underlying e = some (.slice e2)) (hm : (.slice es sp : DataW H) ∈ elems) : (es.length + sp.length) * P.bytesOf e2 ≤ reachBytes := by
  have := List.all_eq_true.1 h _ (DataW.weights_mem_each ht hd ((es.length + sp.length) * P.bytesOf e2) (by
    simp only [DataW.weights, hu, List.mem_cons, List.mem_append]
    exact .inr (.inl (weightsAll_mem hm (by simp [DataW.weights, hu2])))))
  simpa using this

/-- A slice of rows reads as rows, at its first eight. -/
theorem open_head {fuel : Nat} {a : Option Addr} {n c : Nat} {x : DataW H × List MemPlace} (h : DataW.trod enc Try.prog W 0 (fun _ => true) true fuel 23 [.slice a n c] = some x)
    (hs : ∀ elems spare, x.1 = .slice elems spare → ∀ es sp, (.slice es sp : DataW H) ∈ elems → es.length + sp.length ≤ 4398046511104) : ∃ xs : List E, HeadAt W a n c xs := by
  rcases open_slice Try.underlying23 h with ⟨hcs, _⟩ | ⟨ad, len, cap, m, k, D, Pl, hcs, _, hl, hmx, hm, hx, hi⟩
  · simp at hcs
    obtain ⟨rfl, rfl, rfl⟩ := hcs
    exact ⟨[], by simp, Nat.le_refl _, by simp, fun _ => ⟨rfl, rfl⟩, fun x h => by simp at h, fun j h => absurd h (by simp)⟩
  · simp at hcs
    obtain ⟨rfl, rfl, rfl⟩ := hcs
    have hmc : m = c := by simpa using hm
    subst hmc
    have hC : Try.prog.cellsOf 25 = 1 := by kernel_rfl
    have hv : ∀ i, ∃ e : E, i < n → (W.cell? (ad.add i) = some e.1 ∧ RowAt W e.1 e.2) := by
      intro i
      by_cases hin : i < n
      · obtain ⟨cs', hc, ht⟩ := hi i (by omega)
        rw [hC, Nat.mul_one] at hc
        obtain ⟨_, hlen, hat⟩ := World.cells?_some hc
        obtain ⟨aa, nn, cc, rfl⟩ : ∃ aa nn cc, cs' = [.slice aa nn cc] := by
          rcases open_slice Try.underlying25 ht with ⟨e, _⟩ | ⟨a', l', c', _, _, _, _, e, _⟩
          · exact ⟨_, _, _, e⟩
          · exact ⟨_, _, _, e⟩
        have c0 := hat 0 (by omega)
        rw [add_zero] at c0
        obtain ⟨l, hl', hr⟩ := open_row ht (fun es sp he => hs _ _ (by rw [hx]) es sp (by
          rw [← he]
          exact List.mem_map.2 ⟨i, List.mem_range.2 hin, rfl⟩))
        exact ⟨(.slice aa nn cc, l), fun _ => ⟨c0, hr⟩⟩
      · exact ⟨(.slice none 0 0, []), fun h => absurd h hin⟩
    obtain ⟨f, hf⟩ := Classical.axiomOfChoice hv
    refine ⟨(List.range (min n 8)).map f, by simp, hl, hmx, fun e => by simp at e, fun x hx => ?_, fun j hj => ?_⟩
    · obtain ⟨i, hi', rfl⟩ := List.mem_map.1 hx
      have := List.mem_range.1 hi'
      exact (hf i (by omega)).2.b
    · simp only [List.length_map, List.length_range] at hj
      obtain ⟨hc, _⟩ := hf j (by omega)
      have h0 := (hf 0 (by omega)).1
      rw [add_zero] at h0
      obtain ⟨hsa, hbl⟩ := cell_spot h0
      rw [add_form ad hsa] at hc
      exact ⟨ad.block, ad.off, by obtain ⟨b, o, s⟩ := ad; simp only at hsa; subst hsa; rfl, hbl, by simpa using hc⟩
end
end Go.Proofs.Ytkhbephcmcnfjaa
