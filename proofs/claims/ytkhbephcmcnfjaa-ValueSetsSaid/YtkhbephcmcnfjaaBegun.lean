/- Walk of begun: the examples of the chapter. -/
import Derived.Test.YtkhbephcmcnfjaaSet
import Derived.Test.YtkhbephcmcnfjaaNext
import Derived.Deep.RegionHeld3
namespace Go.Proofs.Ytkhbephcmcnfjaa
open Go.RowKit Go.Deep

theorem begun_next : nextV 5 0 ⟨#[97]⟩ = (⟨5, 0, ⟨#[97, 0]⟩⟩, true) := by
  have h1 : vldB 5 0 ⟨#[97]⟩ = true := by decide
  have h2 : nextS ⟨#[97]⟩ = (⟨5, 0, ⟨#[97, 0]⟩⟩, true) := by
    unfold nextS
    rw [if_pos (by decide)]
    rfl
  unfold nextV
  rw [if_neg (by rw [h1]; decide), if_neg (by decide), if_neg (by decide), if_pos rfl]
  exact h2

/-- The three rows of the example. -/
def begunRows (n : Nat) : List E :=
  [(.slice (some ⟨n, 0, none⟩) 1 1, [⟨4, 2, ⟨#[]⟩⟩]), (.slice (some ⟨n + 1, 0, none⟩) 1 1, [⟨4, 1, ⟨#[]⟩⟩]), (.slice (some ⟨n + 1 + 1, 0, none⟩) 1 1, [⟨4, 2, ⟨#[]⟩⟩])]

def begunWorld (W : World) : World :=
  (((W.alloc (.cells #[.int .i64 4, .int .i64 2, .string ⟨#[]⟩] 42)).alloc (.cells #[.int .i64 4, .int .i64 1, .string ⟨#[]⟩] 42)).alloc (.cells #[.int .i64 4, .int .i64 2, .string ⟨#[]⟩] 42)).alloc
    (.cells #[.slice (some ⟨W.heap.size, 0, none⟩) 1 1, .slice (some ⟨W.heap.size + 1, 0, none⟩) 1 1, .slice (some ⟨W.heap.size + 1 + 1, 0, none⟩) 1 1] 25)

theorem begun_rows (W : World) : RowsB (begunWorld W).heap.size (begunWorld W) (.slice (some ⟨W.heap.size + 1 + 1 + 1, 0, none⟩) 3 3) (begunRows W.heap.size) := by
  have hr : ∀ x ∈ begunRows W.heap.size, RowB (begunWorld W).heap.size (begunWorld W) x.1 x.2 := by
    intro x hx
    simp only [begunRows, List.mem_cons, List.not_mem_nil, or_false] at hx
    rcases hx with rfl | rfl | rfl
    all_goals
      refine ⟨_, _, rfl, by simp, fun i h => ?_⟩
      simp only [List.length_singleton] at h
      obtain rfl : i = 0 := by omega
      refine ⟨_, _, rfl, by simp only [begunWorld, World.size_alloc]; omega, ?_⟩
      simp only [begunWorld, CellsV]
      refine ⟨?_, ?_, ?_⟩ <;> go_simp
  refine ⟨_, _, rfl, by simp [begunRows], hr, fun j h => ?_⟩
  have h3 : j < 3 := h
  have hj : j = 0 ∨ j = 1 ∨ j = 2 := by omega
  rcases hj with rfl | rfl | rfl
  all_goals
    refine ⟨_, _, rfl, by simp [begunWorld], ?_⟩
    simp only [begunWorld, begunRows]
    go_simp

theorem rowAt_block {w : World} {b : Nat} {l : List V} {t : TypeId} (h : w.heap[b]? = some (.cells (cellsOf l).toArray t (0, 0))) (hl : l.length ≤ 4398046511104) : RowAt w (.slice (some ⟨b, 0, none⟩) l.length l.length) l := by
  have hb : b < w.heap.size := (Array.getElem?_eq_some_iff.1 h).1
  have hc : ∀ o, w.cell? ⟨b, o, none⟩ = (cellsOf l)[o]? := by
    intro o
    unfold World.cell?
    rw [h]
    simp
  refine ⟨_, _, rfl, hl, fun i hi => ⟨b, 0, rfl, hb, ?_⟩⟩
  obtain ⟨h0, h1, h2⟩ := cellsOf_at l i hi
  unfold CellsV
  rw [Nat.zero_add]
  exact ⟨by rw [hc]; exact h0, by rw [hc]; exact h1, by rw [hc]; exact h2⟩

theorem begun_set (n : Nat) (zs : List E) (h1 : Rel (zs.map (·.2))) (h2 : ∀ r, r ∈ zs.map (·.2) ↔ r ∈ (begunRows n).map (·.2)) : ∃ a b, zs = [(a, [⟨4, 1, ⟨#[]⟩⟩]), (b, [⟨4, 2, ⟨#[]⟩⟩])] := by
  have e : zs.map (·.2) = [[⟨4, 1, ⟨#[]⟩⟩], [⟨4, 2, ⟨#[]⟩⟩]] := by
    refine rel_unique _ _ h1 ?_ (fun r => ?_)
    · unfold Rel
      simp [cmpRows, cmpV, cmpI]
    · rw [h2]
      simp only [begunRows, List.map_cons, List.map_nil, List.mem_cons, List.not_mem_nil, or_false]
      constructor
      · rintro (h | h | h)
        · exact .inr h
        · exact .inl h
        · exact .inr h
      · rintro (h | h)
        · exact .inr (.inl h)
        · exact .inl h
  match zs, e with
  | [], e => simp at e
  | [_], e => simp at e
  | _ :: _ :: _ :: _, e => simp at e
  | [x, y], e =>
    simp only [List.map_cons, List.map_nil, List.cons.injEq, and_true] at e
    obtain ⟨x1, x2⟩ := x
    obtain ⟨y1, y2⟩ := y
    obtain ⟨rfl, rfl⟩ := e
    exact ⟨x1, y1, rfl⟩

set_option maxHeartbeats 1000000 in
theorem begun_any (w : World) : Calls Try.prog 19 #[] w fun e w' => e = .returned (.bool true) ∧ Below w.heap.size w w' := by
  have hN := fun W => vNext_any 5 0 ⟨#[97]⟩ W (by omega)
  rw [begun_next] at hN
  simp only [retV] at hN
  have HN := Lib.hid hN
  clear hN
  go_enter Try.func19, Try.ntmps19
  go_wp2_with fail
  refine (HN.out _).mono ?_
  rintro e w1 ⟨rfl, hb1⟩
  have hz1 := hb1.size
  clear HN
  go_wp2_with fail
  have hS := vSet_any _ _ _ (begun_rows (w1.alloc (.cells #[.int .i64 5, .int .i64 0, .string ⟨#[97, 0]⟩] 42)))
  simp only [begunWorld, World.size_alloc] at hS
  refine hS.mono ?_
  rintro e w2 ⟨zs, bs, rfl, hzl, hrel, hmem, hI⟩
  obtain ⟨za, zb, rfl⟩ := begun_set _ zs hrel hmem
  simp only [World.size_alloc] at hI
  have hb12 : Below w1.heap.size w1 w2 := by
    refine Below.trans ?_ (hI.below.mono (B' := w1.heap.size) (by omega))
    (repeat (first | exact Below.refl _ _ | assumption | refine Below.drew ?_ | refine Below.setCell ?_ (by simp; try omega) _ | refine Below.alloc ?_ (by simp; try omega) _))
  have hBw : Below w.heap.size w w2 := hb1.trans (hb12.mono hz1)
  have hz2 : w1.heap.size + 1 + 1 + 1 + 1 + 1 < w2.heap.size := by have := hI.hb; simpa using this
  have hz1' : w1.heap.size < w2.heap.size := by omega
  obtain ⟨d1, _, _, d4⟩ := hI.done 0 (by simp) (by simp)
  obtain ⟨g1, _, _, g4⟩ := hI.done 1 (by simp) (by simp)
  have x0 : w2.cell? ⟨w1.heap.size, 0, none⟩ = some (.int .i64 5) := by
    rw [hI.below.cell (p := ⟨w1.heap.size, 0, none⟩) (show w1.heap.size < w1.heap.size + 1 + 1 + 1 + 1 + 1 by omega)]; go_simp
  have x1 : w2.cell? ⟨w1.heap.size, 1, none⟩ = some (.int .i64 0) := by
    rw [hI.below.cell (p := ⟨w1.heap.size, 1, none⟩) (show w1.heap.size < w1.heap.size + 1 + 1 + 1 + 1 + 1 by omega)]; go_simp
  have x2 : w2.cell? ⟨w1.heap.size, 2, none⟩ = some (.string ⟨#[97, 0]⟩) := by
    rw [hI.below.cell (p := ⟨w1.heap.size, 2, none⟩) (show w1.heap.size < w1.heap.size + 1 + 1 + 1 + 1 + 1 by omega)]; go_simp
  have y0 : w2.cell? ⟨w1.heap.size + 1 + 1 + 1 + 1 + 1, 0, none⟩ = some (.slice (some ⟨bs 0, 0, none⟩) 1 1) := d1
  have y1 : w2.cell? ⟨w1.heap.size + 1 + 1 + 1 + 1 + 1, 1, none⟩ = some (.slice (some ⟨bs 1, 0, none⟩) 1 1) := g1
  have r0 : RowAt w2 (.slice (some ⟨bs 0, 0, none⟩) 1 1) [⟨4, 1, ⟨#[]⟩⟩] := rowAt_block d4 (by simp)
  have r1 : RowAt w2 (.slice (some ⟨bs 1, 0, none⟩) 1 1) [⟨4, 2, ⟨#[]⟩⟩] := rowAt_block g4 (by simp)
  have HV : Hid (∀ W, Calls Try.prog 61 #[.agg #[.int .i64 5, .int .i64 0, .string ⟨#[97, 0]⟩]] W fun e w' => e = .returned (.bool true) ∧ Gr W w') := by
    intro W
    have h := vValid_any 5 0 ⟨#[97, 0]⟩ W
    rw [show vldB 5 0 ⟨#[97, 0]⟩ = true by decide] at h
    exact h
  have HR : Hid (∀ W, Calls Try.prog 62 #[.agg #[.int .i64 5, .int .i64 0, .string ⟨#[97, 0]⟩]] W fun e w' => e = .returned (.bool true) ∧ Gr W w') := by
    intro W
    have h := vReal_any 5 0 ⟨#[97, 0]⟩ W
    rw [show realB 5 0 ⟨#[97, 0]⟩ = true by decide] at h
    exact h
  have HC : Hid (∀ W, Below w2.heap.size w2 W → Calls Try.prog 54 #[.slice (some ⟨bs 0, 0, none⟩) 1 1, .slice (some ⟨bs 1, 0, none⟩) 1 1] W fun e w' => e = .returned (.int .i64 (-1)) ∧ Gr W w') := by
    intro W hb
    have h := vCompareRows_any _ _ _ _ W ((r0.b.below hb (Nat.le_refl _)).at hb.size) ((r1.b.below hb (Nat.le_refl _)).at hb.size)
    rw [show cmpRows [⟨4, 1, ⟨#[]⟩⟩] [⟨4, 2, ⟨#[]⟩⟩] = -1 by simp [cmpRows, cmpV, cmpI]] at h
    exact h
  have HK : Hid (∀ W, Below w2.heap.size w2 W → W.cell? ⟨w1.heap.size, 0, none⟩ = some (.int .i64 5) ∧ W.cell? ⟨w1.heap.size, 1, none⟩ = some (.int .i64 0) ∧ W.cell? ⟨w1.heap.size, 2, none⟩ = some (.string ⟨#[97, 0]⟩) ∧
      W.cell? ⟨w1.heap.size + 1 + 1 + 1 + 1 + 1, 0, none⟩ = some (.slice (some ⟨bs 0, 0, none⟩) 1 1) ∧ W.cell? ⟨w1.heap.size + 1 + 1 + 1 + 1 + 1, 1, none⟩ = some (.slice (some ⟨bs 1, 0, none⟩) 1 1)) := by
    intro W hb
    exact ⟨(hb.cell (p := ⟨w1.heap.size, 0, none⟩) hz1').trans x0, (hb.cell (p := ⟨w1.heap.size, 1, none⟩) hz1').trans x1, (hb.cell (p := ⟨w1.heap.size, 2, none⟩) hz1').trans x2,
      (hb.cell (p := ⟨w1.heap.size + 1 + 1 + 1 + 1 + 1, 0, none⟩) hz2).trans y0, (hb.cell (p := ⟨w1.heap.size + 1 + 1 + 1 + 1 + 1, 1, none⟩) hz2).trans y1⟩
  have HBW : Hid (Below w.heap.size w w2) := hBw
  have hq : Hid (w.heap.size ≤ w2.heap.size) := hBw.size
  clear d1 d4 g1 g4 r0 r1 hI hS hrel hmem hzl hb1 hb12 hBw hz1 hz1' hz2
  simp only [World.size_alloc, List.length_cons, List.length_nil, Nat.zero_add, Nat.reduceAdd]
  go_wp2_with fail
  go_region_held3 (fun W => W.cell? ⟨w1.heap.size, 0, none⟩ = some (.int .i64 5) ∧ W.cell? ⟨w1.heap.size, 1, none⟩ = some (.int .i64 0) ∧ W.cell? ⟨w1.heap.size, 2, none⟩ = some (.string ⟨#[97, 0]⟩) ∧ W.cell? ⟨w1.heap.size + 1 + 1 + 1 + 1 + 1, 0, none⟩ = some (.slice (some ⟨bs 0, 0, none⟩) 1 1) ∧ W.cell? ⟨w1.heap.size + 1 + 1 + 1 + 1 + 1, 1, none⟩ = some (.slice (some ⟨bs 1, 0, none⟩) 1 1))
    (first | exact ⟨x0c, x1c, x2c, y0c, y1c⟩ | exact ⟨x0r, x1r, x2r, y0r, y1r⟩ | exact ⟨x0v, x1v, x2v, y0v, y1v⟩ | exact ⟨x0, x1, x2, y0, y1⟩)
    (first | (go_at_call 61; refine (HV.out _).mono ?_; rintro e wv ⟨rfl, hgwv⟩; have hbwv : Below w2.heap.size w2 wv := Below.trans (by (repeat (first | exact Below.refl _ _ | assumption | refine Below.drew ?_ | refine Below.setCell ?_ (by simp; try omega) _ | refine Below.alloc ?_ (by simp; try omega) _))) (hgwv.below.mono (by first | (simp; done) | ((try simp); exact Below.size (by assumption)))); obtain ⟨x0v, x1v, x2v, y0v, y1v⟩ := HK.out wv hbwv; clear hgwv) | (go_at_call 62; refine (HR.out _).mono ?_; rintro e wr ⟨rfl, hgwr⟩; have hbwr : Below w2.heap.size w2 wr := Below.trans (by (repeat (first | exact Below.refl _ _ | assumption | refine Below.drew ?_ | refine Below.setCell ?_ (by simp; try omega) _ | refine Below.alloc ?_ (by simp; try omega) _))) (hgwr.below.mono (by first | (simp; done) | ((try simp); exact Below.size (by assumption)))); obtain ⟨x0r, x1r, x2r, y0r, y1r⟩ := HK.out wr hbwr; clear hgwr) | (go_at_call 54; refine (HC.out _ (by (repeat (first | exact Below.refl _ _ | assumption | refine Below.drew ?_ | refine Below.setCell ?_ (by simp; try omega) _ | refine Below.alloc ?_ (by simp; try omega) _)))).mono ?_; rintro e wc ⟨rfl, hgwc⟩; have hbwc : Below w2.heap.size w2 wc := Below.trans (by (repeat (first | exact Below.refl _ _ | assumption | refine Below.drew ?_ | refine Below.setCell ?_ (by simp; try omega) _ | refine Below.alloc ?_ (by simp; try omega) _))) (hgwc.below.mono (by first | (simp; done) | ((try simp); exact Below.size (by assumption)))); obtain ⟨x0c, x1c, x2c, y0c, y1c⟩ := HK.out wc hbwc; clear hgwc))
  go_wp2_with fail
  go_ret
  exact ⟨rfl, HBW.out.trans (hbwc.mono hq.out)⟩
end Go.Proofs.Ytkhbephcmcnfjaa
