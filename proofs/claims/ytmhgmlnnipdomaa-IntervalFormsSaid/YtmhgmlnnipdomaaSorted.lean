
/- Walk of the reference's sorted. -/
import Derived.Test.YtmhgmlnnipdomaaHead

import Derived.Test.YtmhgmlnnipdomaaHas

import Derived.Deep.AppendLies

namespace Go.Proofs.Ytmhgmlnnipdomaa

open Go.RowKit Go.Deep

/-- RowsB, with what slicing wants. -/
def RowsC (B : Nat) (w : World) (v : Value) (xs : List E) : Prop :=
  ∃ (a : Option Addr) (c : Nat), v = .slice a xs.length c ∧ xs.length ≤ c ∧ c ≤ maxLen ∧ (a = none → xs.length = 0 ∧ c = 0) ∧ xs.length ≤ 4398046511104 ∧ (∀ x ∈ xs, RowB B w x.1 x.2) ∧
    ∀ j (h : j < xs.length), ∃ b off, a = some ⟨b, off, none⟩ ∧ b < B ∧ w.cell? ⟨b, off + j, none⟩ = some xs[j].1
theorem RowsC.below {B B' : Nat} {w w' : World} {v : Value} {xs : List E} (hr : RowsC B w v xs) (h : Below B' w w') (hB : B ≤ B') : RowsC B w' v xs := by
  obtain ⟨a, c, e, h1, h2, h3, hn, hx, hi⟩ := hr
  refine ⟨a, c, e, h1, h2, h3, hn, fun x m => (hx x m).below h hB, fun j hj => ?_⟩
  obtain ⟨b, off, ea, hb, hc⟩ := hi j hj
  exact ⟨b, off, ea, hb, (h.cell (p := ⟨b, off + j, none⟩) (show b < B' by omega)).trans hc⟩
theorem RowsC.mono {B B' : Nat} {w : World} {v : Value} {xs : List E} (hr : RowsC B w v xs) (hB : B ≤ B') : RowsC B' w v xs := by
  obtain ⟨a, c, e, h1, h2, h3, hn, hx, hi⟩ := hr
  refine ⟨a, c, e, h1, h2, h3, hn, fun x m => (hx x m).mono hB, fun j hj => ?_⟩
  obtain ⟨b, off, ea, hb, hc⟩ := hi j hj
  exact ⟨b, off, ea, by omega, hc⟩
theorem RowsC.b {B : Nat} {w : World} {v : Value} {xs : List E} (hr : RowsC B w v xs) : RowsB B w v xs := by
  obtain ⟨a, c, e, h1, h2, h3, hn, hx, hi⟩ := hr
  exact ⟨a, c, e, hn, hx, hi⟩
theorem rowsC_own {base : Nat} {v : Value} {L : List E} {w : World} (ho : w.ownsRow base 83 1 v L.length (L.map (·.1))) (hr : ∀ x ∈ L, RowB w.heap.size w x.1 x.2) (hn : L.length ≤ 4398046511104) : RowsC w.heap.size w v L := by
  have hlt := ho.lt
  rcases ho.2 with ⟨rfl, h0⟩ | ⟨g, cap, cur, rfl, hg, hgg, hnc, hcm, hcs, htake⟩
  · obtain rfl : L = [] := List.eq_nil_of_length_eq_zero h0
    exact ⟨none, 0, rfl, by simp, by simp, fun _ => ⟨rfl, rfl⟩, by simp, hr, fun j h => absurd h (by simp)⟩
  · refine ⟨some ⟨g, 0, none⟩, cap, rfl, hnc, hcm, fun h => by simp at h, hn, hr, fun j hj => ⟨g, 0, rfl, (hlt g rfl).2, ?_⟩⟩
    rw [Nat.zero_add, ho.cellAt j (by omega)]
    simp [List.getElem?_eq_getElem hj]
theorem RowsC.take {B : Nat} {w : World} {b o c : Nat} {xs : List E} (hr : RowsC B w (.slice (some ⟨b, o, none⟩) xs.length c) xs) (k : Nat) (hk : k ≤ xs.length) : RowsC B w (.slice (some ⟨b, o, none⟩) k c) (xs.take k) := by
  obtain ⟨a, c', e, h1, h2, h3, hn, hx, hi⟩ := hr
  simp only [Value.slice.injEq] at e
  obtain ⟨rfl, _, rfl⟩ := e
  refine ⟨some ⟨b, o, none⟩, c, by simp; omega, by simp; omega, h2, fun h => by simp at h, by simp; omega, fun x hm => hx x (List.mem_of_mem_take hm), fun j hj => ?_⟩
  simp only [List.length_take] at hj
  obtain ⟨b', off, e, hb, hc⟩ := hi j (by omega)
  exact ⟨b', off, e, hb, by simpa using hc⟩
theorem RowsC.drop {B : Nat} {w : World} {b o c : Nat} {xs : List E} (hr : RowsC B w (.slice (some ⟨b, o, none⟩) xs.length c) xs) (k : Nat) (hk : k ≤ xs.length) : RowsC B w (.slice (some ⟨b, o + k, none⟩) (xs.length - k) (c - k)) (xs.drop k) := by
  obtain ⟨a, c', e, h1, h2, h3, hn, hx, hi⟩ := hr
  simp only [Value.slice.injEq] at e
  obtain ⟨rfl, _, rfl⟩ := e
  refine ⟨some ⟨b, o + k, none⟩, c - k, by simp, by simp; omega, by omega, fun h => by simp at h, by simp; omega, fun x hm => hx x (List.mem_of_mem_drop hm), fun j hj => ?_⟩
  simp only [List.length_drop] at hj
  obtain ⟨b', off, e, hb, hc⟩ := hi (k + j) (by omega)
  simp only [Option.some.injEq, Addr.mk.injEq] at e
  obtain ⟨rfl, rfl, _⟩ := e
  exact ⟨b, o + k, rfl, hb, by simpa [Nat.add_assoc] using hc⟩

/-- What the merge knows: what is left of both halves, and what is out. -/
structure SInv (base : Nat) (w0 : World) (xs A B O : List E) (va vb vo : Value) (wr : World) : Prop where
  ra : RowsC base w0 va A
  rb : RowsC base w0 vb B
  below : Below base w0 wr
  size : base ≤ wr.heap.size
  own : wr.ownsRow base 83 1 vo O.length (O.map (·.1))
  perm : (O ++ (A ++ B)).Perm xs
  sa : A.Pairwise (fun a b => cmpRows a.2 b.2 ≤ 0)
  sb : B.Pairwise (fun a b => cmpRows a.2 b.2 ≤ 0)
  so : O.Pairwise (fun a b => cmpRows a.2 b.2 ≤ 0)
  le : ∀ o ∈ O, ∀ x ∈ A ++ B, cmpRows o.2 x.2 ≤ 0
theorem SInv.takeA {base : Nat} {w0 : World} {xs A B O : List E} {x : E} {va va' vb vo vo' : Value} {wr w' : World} (h : SInv base w0 xs (x :: A) B O va vb vo wr) (hx : ∀ y ∈ B, cmpRows x.2 y.2 ≤ 0)
    (hr : RowsC base w0 va' A) (hb : Below base w0 w') (hs : base ≤ w'.heap.size) (ho : w'.ownsRow base 83 1 vo' (O.length + 1) (O.map (·.1) ++ [x.1])) : SInv base w0 xs A B (O ++ [x]) va' vb vo' w' := by
  obtain ⟨h1, h2, h3, h4, h5, h6, h7, h8, h9, h10⟩ := h
  have h7' := List.pairwise_cons.1 h7
  refine ⟨hr, h2, hb, hs, by simpa using ho, by simpa using h6, h7'.2, h8, ?_, ?_⟩
  · rw [List.pairwise_append]
    exact ⟨h9, by simp, fun a ha b hb => by simp only [List.mem_singleton] at hb; subst hb; exact h10 a ha b (by simp)⟩
  · intro o ho x' hx'
    rw [List.mem_append] at ho hx'
    rcases ho with ho | ho
    · exact h10 o ho x' (by rcases hx' with h | h <;> simp [h])
    · simp only [List.mem_singleton] at ho; subst ho
      rcases hx' with h | h
      · exact h7'.1 x' h
      · exact hx x' h
theorem SInv.takeB {base : Nat} {w0 : World} {xs A B O : List E} {y : E} {va vb vb' vo vo' : Value} {wr w' : World} (h : SInv base w0 xs A (y :: B) O va vb vo wr) (hx : ∀ x ∈ A, cmpRows y.2 x.2 ≤ 0)
    (hr : RowsC base w0 vb' B) (hb : Below base w0 w') (hs : base ≤ w'.heap.size) (ho : w'.ownsRow base 83 1 vo' (O.length + 1) (O.map (·.1) ++ [y.1])) : SInv base w0 xs A B (O ++ [y]) va vb' vo' w' := by
  obtain ⟨h1, h2, h3, h4, h5, h6, h7, h8, h9, h10⟩ := h
  have h8' := List.pairwise_cons.1 h8
  refine ⟨h1, hr, hb, hs, by simpa using ho, ?_, h7, h8'.2, ?_, ?_⟩
  · refine List.Perm.trans ?_ h6
    rw [List.append_assoc]
    exact List.Perm.append_left O ((List.perm_middle (a := y) (l₁ := A) (l₂ := B)).symm)
  · rw [List.pairwise_append]
    exact ⟨h9, by simp, fun a ha b hb => by simp only [List.mem_singleton] at hb; subst hb; exact h10 a ha b (by simp)⟩
  · intro o ho x' hx'
    rw [List.mem_append] at ho hx'
    rcases ho with ho | ho
    · exact h10 o ho x' (by rcases hx' with h | h <;> simp [h])
    · simp only [List.mem_singleton] at ho; subst ho
      rcases hx' with h | h
      · exact hx x' h
      · exact h8'.1 x' h
theorem RowsC.empty (B : Nat) (w : World) (b o c : Nat) (h : c ≤ maxLen) : RowsC B w (.slice (some ⟨b, o, none⟩) 0 c) [] := ⟨some ⟨b, o, none⟩, c, rfl, by simp, h, fun h => by simp at h, by simp, fun x h => by simp at h, fun j h => absurd h (by simp)⟩

def SortedPost (w : World) (xs : List E) (e : Ending) (w' : World) : Prop :=
  ∃ (v : Value) (ys : List E), e = .returned v ∧ ys.Perm xs ∧ ys.Pairwise (fun a b => cmpRows a.2 b.2 ≤ 0) ∧ w'.ownsRow w.heap.size 83 1 v ys.length (ys.map (·.1)) ∧ Below w.heap.size w w'

set_option maxRecDepth 100000 in
theorem rSorted_small (xs : List E) (va : Value) (w : World) (h2 : xs.length < 2) (ha : RowsC w.heap.size w va xs) : Calls Try.prog 75 #[va] w (SortedPost w xs) := by
  have hinfo : (Try.prog.info? 83).map (fun i => (i.zero, i.size, i.bytes)) = some (some (.slice none 0 0), 1, 24) := by kernel_rfl
  obtain ⟨i0, hi, hz0, hz1, hz2⟩ := info_parts hinfo
  obtain ⟨la, lc, rfl, g1, g2, g3, n1, hx1, hi1⟩ := ha
  have hd : decide ((xs.length : Int) < 2) = true := decide_eq_true (by omega)
  have hps : xs.Pairwise (fun a b => cmpRows a.2 b.2 ≤ 0) := by
    match xs, h2 with
    | [], _ => simp
    | [x], _ => simp
  have L3 : (xs.map (·.1)).length = xs.length * 1 := by simp
  have L4 : ∀ p, la = some p → ∀ j u, (xs.map (·.1))[j]? = some u → w.cell? (p.add j) = some u := by
    rintro p rfl j u hj
    have hjl : j < xs.length := by simpa using (List.getElem?_eq_some_iff.1 hj).1
    obtain ⟨b, off, e, hb, hc⟩ := hi1 j hjl
    simp only [Option.some.injEq] at e
    subst e
    rw [add_form _ rfl, hc, ← hj]
    simp [List.getElem?_eq_getElem hjl]
  have L5 : ∀ u ∈ xs.map (·.1), u.oneCell' = true := fun u hu => by
    obtain ⟨x, hx, rfl⟩ := List.mem_map.1 hu
    obtain ⟨_, _, e, _⟩ := hx1 x hx
    rw [e]; rfl
  have L6 : xs.length ≤ maxLen := by unfold maxLen; omega
  have L7 : xs.length * 24 ≤ 140737488355328 := by omega
  have H : Hid ((Try.prog.info? 83 = some i0 ∧ i0.zero = some (.slice none 0 0) ∧ i0.size = 1 ∧ i0.bytes = 24) ∧ (la = none → xs.length = 0 ∧ lc = 0) ∧ (xs.map (·.1)).length = xs.length * 1 ∧ (∀ p, la = some p → ∀ j u, (xs.map (·.1))[j]? = some u → w.cell? (p.add j) = some u) ∧ (∀ u ∈ xs.map (·.1), u.oneCell' = true) ∧ xs.length ≤ maxLen ∧ xs.length * 24 ≤ 140737488355328) := ⟨⟨hi, hz0, hz1, hz2⟩, g3, L3, L4, L5, L6, L7⟩
  have HPS := Lib.hid hps
  clear hi hz0 hz1 hz2 hinfo hx1 hi1 L3 L4 L5 L6 L7 hps g3
  go_enter Try.func75, Try.ntmps75
  go_wp2_with (at_builtin; refine wpList_append_nil rfl _ _ 82 rfl 83 i0 (.slice none 0 0) 1 24 Try.underlying82 H.out.1.1 H.out.1.2.1 H.out.1.2.2.1 H.out.1.2.2.2 rfl (by decide) rfl la xs.length lc (xs.map (·.1)) rfl H.out.2.1 H.out.2.2.1 H.out.2.2.2.1 H.out.2.2.2.2.1 H.out.2.2.2.2.2.1 H.out.2.2.2.2.2.2 ?_; intro v1 wa hown1 hba; have HOW1 := Lib.hid hown1; have HBA := Lib.hid hba; clear hown1 hba)
  go_ret
  exact ⟨_, xs, rfl, List.Perm.refl _, HPS.out, HOW1.out, HBA.out⟩

set_option maxRecDepth 100000 in
theorem slice_one (g o n c : Nat) (hn : 1 ≤ n) (hc : ¬ c = 1) (W : World) : (Instr.slice 82 (.slice (some ⟨g, o, none⟩) n c) (some (.int .i64 1)) none none).run Try.prog W = .ok (.slice (some ⟨g, o + 1, none⟩) (n - 1) (c - 1)) W := by
  rw [run_slice_l W 82 (some ⟨g, o, none⟩) n c (by kernel_rfl) .i64 1 (by omega) (by omega)]
  have hs : (sizeOf (Try.prog.elem 82)).run Try.prog W = .ok 1 W := by rfl
  rw [hs]
  simp [Result.andThen, sliced, hc, Addr.add]
set_option maxRecDepth 100000 in
theorem slice_last (g o n : Nat) (hn : n = 1) (W : World) : (Instr.slice 82 (.slice (some ⟨g, o, none⟩) n 1) (some (.int .i64 1)) none none).run Try.prog W = .ok (.slice (some ⟨g, o, none⟩) 0 0) W := by
  rw [run_slice_l W 82 (some ⟨g, o, none⟩) n 1 (by kernel_rfl) .i64 1 (by omega) (by omega)]
  have hs : (sizeOf (Try.prog.elem 82)).run Try.prog W = .ok 1 W := by rfl
  rw [hs]
  simp [Result.andThen, sliced, hn]

-- UNDER WAY, not clean: goes behind what stands in wip/tpl/XSorted.lean (same namespace, same opens)
end Go.Proofs.Ytmhgmlnnipdomaa

/- The reference's sorted: the merge. -/
namespace Go.Proofs.Ytmhgmlnnipdomaa

open Go.RowKit Go.Deep

theorem RowsC.news {B : Nat} {w W : World} {ad : Addr} {n c : Nat} {xs : List E} (h : RowsC B w (.slice (some ad) n c) xs) (hb : Below B w W) : ∀ j u, (xs.map (·.1))[j]? = some u → W.cell? (ad.add j) = some u := by
  obtain ⟨a, c', e, -, -, -, -, -, hi⟩ := h
  simp only [Value.slice.injEq] at e
  obtain ⟨rfl, -, -⟩ := e
  intro j u hj
  have hjl : j < xs.length := by simpa using (List.getElem?_eq_some_iff.1 hj).1
  obtain ⟨b, off, e, hb', hc⟩ := hi j hjl
  simp only [Option.some.injEq] at e
  subst e
  rw [add_form _ rfl, (hb.cell (p := ⟨b, off + j, none⟩) hb').trans hc, ← hj]
  simp [List.getElem?_eq_getElem hjl]
theorem RowsC.one {B : Nat} {w : World} {v : Value} {xs : List E} (h : RowsC B w v xs) : ∀ u ∈ xs.map (·.1), u.oneCell' = true := fun u hu => by
  obtain ⟨a, c', _, -, -, -, -, hx, -⟩ := h
  obtain ⟨x, hm, rfl⟩ := List.mem_map.1 hu
  obtain ⟨_, _, e, _⟩ := hx x hm
  rw [e]; rfl
theorem rows_lo {B B' : Nat} {w : World} {v : Value} {n : Nat} {xs : List Value} (h : w.ownsRow B 83 1 v n xs) (hb : B' ≤ B) : w.ownsRow B' 83 1 v n xs := by
  refine ⟨h.1, ?_⟩
  rcases h.2 with h | ⟨g, cap, cur, e, hg, r⟩
  · exact .inl h
  · exact .inr ⟨g, cap, cur, e, by omega, r⟩


set_option maxRecDepth 100000 in
set_option maxHeartbeats 4000000 in
theorem rSorted_any (N : Nat) : ∀ (xs : List E) (va : Value) (w : World), xs.length ≤ N → RowsC w.heap.size w va xs → Calls Try.prog 75 #[va] w (SortedPost w xs) := by
  induction N with
  | zero => exact fun xs va w h ha => rSorted_small xs va w (by omega) ha
  | succ N ih =>
    intro xs va w hN ha
    by_cases h2 : xs.length < 2
    · exact rSorted_small xs va w h2 ha
    have hinfo : (Try.prog.info? 83).map (fun i => (i.zero, i.size, i.bytes)) = some (some (.slice none 0 0), 1, 24) := by kernel_rfl
    obtain ⟨i0, hi, hz0, hz1, hz2⟩ := info_parts hinfo
    have HI := Lib.hid hi
    have HZ0 := Lib.hid hz0
    have HZ1 := Lib.hid hz1
    have HZ2 := Lib.hid hz2
    have hac := ha
    obtain ⟨la, lc, rfl, g1, g2, g3, n1, hx1, hi1⟩ := ha
    obtain ⟨b, o, rfl, _⟩ := hi1 0 (by omega)
    have HRW := Lib.hid hx1
    obtain ⟨n, hn⟩ : ∃ n, xs.length = n := ⟨_, rfl⟩
    obtain ⟨m2, hh⟩ : ∃ h, h = n / 2 := ⟨_, rfl⟩
    have HA : Hid (∀ W, Below w.heap.size w W → Calls Try.prog 75 #[.slice (some ⟨b, o, none⟩) m2 lc] W (SortedPost W (xs.take m2))) := fun W hb =>
      ih _ _ W (by simp; omega) (((hac.take m2 (by omega)).below hb (Nat.le_refl _)).mono hb.size)
    have HB : Hid (∀ W, Below w.heap.size w W → Calls Try.prog 75 #[.slice (some ⟨b, o + m2, none⟩) (n - m2) (lc - m2)] W (SortedPost W (xs.drop m2))) := fun W hb => by
      rw [← hn]
      exact ih _ _ W (by simp; omega) (((hac.drop m2 (by omega)).below hb (Nat.le_refl _)).mono hb.size)
    clear hac g3 hx1 hi1 ih hi hz0 hz1 hz2 hinfo
    rw [hn] at h2 hN g1 n1
    rw [hn]
    have hd : decide ((n : Int) < 2) = false := decide_eq_false (by omega)
    have hq : Int.tdiv (n : Int) 2 = (m2 : Int) := by rw [Int.tdiv_eq_ediv_of_nonneg (by omega)]; omega
    have hw : IntKind.i64.wrap (m2 : Int) = m2 := by rw [IntKind.wrap_i64]; omega
    have hq1 : IntKind.i64.wrap (Int.tdiv (n : Int) 2) = m2 := by rw [hq]; exact hw
    have hq3 : (n : Int) / 2 = m2 := by omega
    have hq2 : IntKind.i64.wrap ((n : Int) / 2) = m2 := by rw [hq3]; exact hw
    have hhn : (m2 : Int) ≤ n := by omega
    have hhc : (m2 : Int) ≤ lc := by omega
    have h0 : (0 : Int) ≤ m2 := by omega
    have hh1 : 0 < m2 := by omega
    have hh2 : m2 < n := by omega
    have hcm : lc ≤ maxLen := g2
    clear hh
    go_enter Try.func75, Try.ntmps75
    go_wp2_with fail
    go_region_held3 (fun W => True) (first | trivial)
      (first | (go_at_call 75; (with_reducible refine (HA.out _ (by (repeat (first | exact Below.refl _ _ | assumption | refine Below.drew ?_ | refine Below.setCell ?_ (by simp; try omega) _ | refine Below.alloc ?_ (by simp; try omega) _)))).mono ?_); rintro e wza ⟨va, ya, rfl, hpa, hsa, hoa, hba0⟩; have hba : Below w.heap.size w wza := Below.trans (by (repeat (first | exact Below.refl _ _ | assumption | refine Below.drew ?_ | refine Below.setCell ?_ (by simp; try omega) _ | refine Below.alloc ?_ (by simp; try omega) _))) (hba0.mono (by first | (simp; done) | ((try simp); exact Below.size (by assumption)))); have HOA : Hid (wza.ownsRow w.heap.size 83 1 va ya.length (ya.map (·.1))) := (by first | exact hoa | (simpa using hoa)); have HPA := Lib.hid hpa; have HSA := Lib.hid hsa; clear hoa hba0 hpa hsa) | (go_at_call 75; (with_reducible refine (HB.out _ (by (repeat (first | exact Below.refl _ _ | assumption | refine Below.drew ?_ | refine Below.setCell ?_ (by simp; try omega) _ | refine Below.alloc ?_ (by simp; try omega) _)))).mono ?_); rintro e wzb ⟨vb, yb, rfl, hpb, hsb, hob, hbb0⟩; have hbb : Below w.heap.size w wzb := Below.trans (by (repeat (first | exact Below.refl _ _ | assumption | refine Below.drew ?_ | refine Below.setCell ?_ (by simp; try omega) _ | refine Below.alloc ?_ (by simp; try omega) _))) (hbb0.mono (by first | (simp; done) | ((try simp); exact Below.size (by assumption)))); have HOB0 := Lib.hid hob; have HBB0 := Lib.hid hbb0; have HPB := Lib.hid hpb; have HSB := Lib.hid hsb; clear hob hbb0 hpb hsb))
    have hza : w.heap.size ≤ wza.heap.size := hba.size
    have hzb : wza.heap.size ≤ wzb.heap.size := HBB0.out.size
    have hla : ya.length = m2 := by have := HPA.out.length_eq; simp at this; omega
    have hlb : yb.length = n - m2 := by have := HPB.out.length_eq; simp at this; omega
    have HOA2 := own_below HOA.out HBB0.out
    obtain ⟨ga, ca, eva, _⟩ := own_some (by omega) HOA2
    obtain ⟨gb, cb, evb, _⟩ := own_some (by omega) HOB0.out
    have HMA : Hid (∀ x ∈ ya, RowB wzb.heap.size wzb x.1 x.2) := fun x hx => ((HRW.out x (List.mem_of_mem_take (HPA.out.subset hx))).below hbb (Nat.le_refl _)).mono hbb.size
    have HMB : Hid (∀ x ∈ yb, RowB wzb.heap.size wzb x.1 x.2) := fun x hx => ((HRW.out x (List.mem_of_mem_drop (HPB.out.subset hx))).below hbb (Nat.le_refl _)).mono hbb.size
    have HRA := Lib.hid (rowsC_own HOA2 HMA.out (by omega))
    have HRB := Lib.hid (rowsC_own HOB0.out HMB.out (by omega))
    rw [hla] at eva
    rw [hlb] at evb
    subst eva evb
    have HPX : Hid ((ya ++ yb).Perm xs) := by
      have h1 := HPA.out.append HPB.out
      rwa [List.take_append_drop] at h1
    have HBW : Hid (Below w.heap.size w wzb) := hbb
    obtain ⟨M, hM, hmk⟩ : ∃ M : Array Value, M.size = n * 1 ∧ (Instr.makeSlice 82 (.int .i64 0) (.int .i64 (n : Int))).run Try.prog wzb = .ok (.slice (some ⟨wzb.heap.size, 0, none⟩) 0 n) (wzb.alloc (.cells M 83 (0, 0))) := by
      have h := run_make (P := Try.prog) wzb 82 83 i0 _ Try.underlying82 HI.out HZ0.out .i64 .i64 0 n (by omega) (by omega) (by rw [HZ2.out]; omega) (by omega)
      simp only [Int.toNat_natCast, HZ1.out] at h
      exact ⟨_, size_madeCells _ _, h⟩
    have HOUT : Hid ((wzb.alloc (.cells M 83 (0, 0))).ownsRow wzb.heap.size 83 1 (.slice (some ⟨wzb.heap.size, 0, none⟩) 0 n) 0 []) := World.ownsRow_made wzb M n (Nat.le_refl _) (by unfold maxLen; omega) hM
    have HBX : Hid (Below wzb.heap.size wzb (wzb.alloc (.cells M 83 (0, 0)))) := (Below.refl _ _).alloc (Nat.le_refl _) _
    clear HA HB HOA HOA2 HOB0 HBB0 HPA HPB hbb hba hM hq hq1 hq2 hq3 hhc hhn hw
    obtain ⟨wn, hwn⟩ : ∃ wn, wn = wzb.alloc (.cells M 83 (0, 0)) := ⟨_, rfl⟩
    rw [← hwn] at HOUT HBX
    have HS0 : Hid (SInv wzb.heap.size wzb xs ya yb [] (.slice (some ⟨ga, 0, none⟩) m2 ca) (.slice (some ⟨gb, 0, none⟩) (n - m2) cb) (.slice (some ⟨wzb.heap.size, 0, none⟩) 0 n) wn) :=
      ⟨HRA.out, HRB.out, HBX.out, HBX.out.size, HOUT.out, by simpa using HPX.out, HSA.out, HSB.out, by simp, by simp⟩
    rw [hwn] at HS0
    clear HOUT HBX HRA HRB HPX HSA HSB hwn
    go_wp2_with fail
    go_loopg [3, 4, 5] n (fun g a b o wr => ∃ (A B O : List E) (na nb ga oa ca gb ob cb : Nat), na = A.length ∧ nb = B.length ∧ na + nb ≤ n ∧ na + nb ≤ g ∧ a = .slice (some ⟨ga, oa, none⟩) na ca ∧ b = .slice (some ⟨gb, ob, none⟩) nb cb ∧ Hid (SInv wzb.heap.size wzb xs A B O a b o wr))
    case atStart => exact ⟨ya, yb, [], m2, n - m2, ga, 0, ca, gb, 0, cb, hla.symm, hlb.symm, by omega, by omega, rfl, rfl, HS0⟩
    case round =>
      clear HS0
      obtain ⟨A, B, O, na, nb, ga, oa, ca, gb, ob, cb, hna, hnb, hnn, hng, rfl, rfl, hI⟩ := hrel
      have hna7 : na ≤ 4398046511104 := by omega
      by_cases hA : na = 0
      · subst hA
        have hA0 : A = [] := List.eq_nil_of_length_eq_zero hna.symm
        have hsrt : (A ++ B).Pairwise (fun a b => cmpRows a.2 b.2 ≤ 0) := by rw [hA0]; exact hI.out.sb
        clear hA0
        have hOl : O.length + A.length + B.length = n := by have := hI.out.perm.length_eq; simp at this; omega
        have HN1 := Lib.hid (RowsC.news hI.out.ra hI.out.below)
        have HN2 : Hid (∀ W, Below wzb.heap.size wzb W → ∀ j u, (B.map (·.1))[j]? = some u → W.cell? ((⟨gb, ob, none⟩ : Addr).add j) = some u) := fun W hb => RowsC.news hI.out.rb hb
        have H1 := Lib.hid (RowsC.one hI.out.ra)
        have H2 := Lib.hid (RowsC.one hI.out.rb)
        have HLN : Hid (A.length = 0 ∧ B.length = nb ∧ O.length + 0 + nb ≤ 4398046511104) := ⟨hna.symm, hnb.symm, by omega⟩
        have HM1 : Hid (O.length + 0 ≤ maxLen ∧ (O.length + 0) * 24 ≤ 140737488355328) := ⟨by unfold maxLen; omega, by omega⟩
        have HM2 : Hid (O.length + 0 + nb ≤ maxLen ∧ (O.length + 0 + nb) * 24 ≤ 140737488355328) := ⟨by unfold maxLen; omega, by omega⟩
        have HPS : Hid ((O ++ (A ++ B)).Pairwise (fun a b => cmpRows a.2 b.2 ≤ 0)) := by
          show _
          rw [List.pairwise_append]
          exact ⟨hI.out.so, hsrt, fun a ha b hb => hI.out.le a ha b hb⟩
        have HPM := Lib.hid hI.out.perm
        have HOW := Lib.hid hI.out.own
        have HBR := Lib.hid hI.out.below
        have HSR := Lib.hid hI.out.size
        clear hI hOl hna hnb hsrt
        go_wp2_with (first | (at_builtin; refine wpList_append_own _ (by rfl) _ _ 82 (by rfl) wzb.heap.size 83 i0 (.slice none 0 0) 1 24 Try.underlying82 HI.out HZ0.out HZ1.out HZ2.out rfl (by decide) v1 (O.length + 0) (O.map (·.1) ++ A.map (·.1)) (by rfl) HOWN1.out ⟨gb, ob, none⟩ nb cb (B.map (·.1)) (by rfl) (by have := HLN.out; simp only [List.length_map]; omega) (HN2.out _ HBR1.out) H2.out HM2.out.1 HM2.out.2 HBR1.out.size ?_; intro v2 w2 hown2 hgr2 _; have HOWN2 := Lib.hid hown2; have HBR2 : Hid (Below wzb.heap.size wzb w2) := Below.grown HBR1.out hgr2 HBR1.out.size (fun k e => (HOWN1.out.lt k e).1); clear hown2 hgr2) | (at_builtin; refine wpList_append_own _ (by rfl) _ _ 82 (by rfl) wzb.heap.size 83 i0 (.slice none 0 0) 1 24 Try.underlying82 HI.out HZ0.out HZ1.out HZ2.out rfl (by decide) u5 O.length (O.map (·.1)) (by rfl) HOW.out ⟨ga, oa, none⟩ 0 ca (A.map (·.1)) (by rfl) (by have := HLN.out; simp only [List.length_map]; omega) HN1.out H1.out HM1.out.1 HM1.out.2 HSR.out ?_; intro v1 w1 hown1 hgr1 _; have HOWN1 := Lib.hid hown1; have HBR1 : Hid (Below wzb.heap.size wzb w1) := Below.grown HBR.out hgr1 HSR.out (fun k e => (HOW.out.lt k e).1); clear hown1 hgr1))
        go_ret
        refine ⟨v2, O ++ (A ++ B), rfl, HPM.out, HPS.out, ?_, HBW.out.trans (HBR2.out.mono HBW.out.size)⟩
        have h := rows_lo HOWN2.out HBW.out.size
        rw [show (O ++ (A ++ B)).length = O.length + 0 + nb by rw [List.length_append, List.length_append, HLN.out.1, HLN.out.2.1]; omega, show (O ++ (A ++ B)).map (·.1) = O.map (·.1) ++ A.map (·.1) ++ B.map (·.1) by simp]
        exact h
      have d1 : decide ((0 : Int) < na) = true := decide_eq_true (by omega)
      have d1' : decide (0 < na) = true := decide_eq_true (by omega)
      have e1 : (0 : Int) < na := by omega
      by_cases hB : nb = 0
      · subst hB
        have hB0 : B = [] := List.eq_nil_of_length_eq_zero hnb.symm
        have hsrt : (A ++ B).Pairwise (fun a b => cmpRows a.2 b.2 ≤ 0) := by rw [hB0, List.append_nil]; exact hI.out.sa
        clear hB0
        have hOl : O.length + A.length + B.length = n := by have := hI.out.perm.length_eq; simp at this; omega
        have HN1 := Lib.hid (RowsC.news hI.out.ra hI.out.below)
        have HN2 : Hid (∀ W, Below wzb.heap.size wzb W → ∀ j u, (B.map (·.1))[j]? = some u → W.cell? ((⟨gb, ob, none⟩ : Addr).add j) = some u) := fun W hb => RowsC.news hI.out.rb hb
        have H1 := Lib.hid (RowsC.one hI.out.ra)
        have H2 := Lib.hid (RowsC.one hI.out.rb)
        have HLN : Hid (A.length = na ∧ B.length = 0 ∧ O.length + na + 0 ≤ 4398046511104) := ⟨hna.symm, hnb.symm, by omega⟩
        have HM1 : Hid (O.length + na ≤ maxLen ∧ (O.length + na) * 24 ≤ 140737488355328) := ⟨by unfold maxLen; omega, by omega⟩
        have HM2 : Hid (O.length + na + 0 ≤ maxLen ∧ (O.length + na + 0) * 24 ≤ 140737488355328) := ⟨by unfold maxLen; omega, by omega⟩
        have HPS : Hid ((O ++ (A ++ B)).Pairwise (fun a b => cmpRows a.2 b.2 ≤ 0)) := by
          show _
          rw [List.pairwise_append]
          exact ⟨hI.out.so, hsrt, fun a ha b hb => hI.out.le a ha b hb⟩
        have HPM := Lib.hid hI.out.perm
        have HOW := Lib.hid hI.out.own
        have HBR := Lib.hid hI.out.below
        have HSR := Lib.hid hI.out.size
        clear hI hOl hna hnb hsrt
        go_wp2_with (first | (at_builtin; refine wpList_append_own _ (by rfl) _ _ 82 (by rfl) wzb.heap.size 83 i0 (.slice none 0 0) 1 24 Try.underlying82 HI.out HZ0.out HZ1.out HZ2.out rfl (by decide) v1 (O.length + na) (O.map (·.1) ++ A.map (·.1)) (by rfl) HOWN1.out ⟨gb, ob, none⟩ 0 cb (B.map (·.1)) (by rfl) (by have := HLN.out; simp only [List.length_map]; omega) (HN2.out _ HBR1.out) H2.out HM2.out.1 HM2.out.2 HBR1.out.size ?_; intro v2 w2 hown2 hgr2 _; have HOWN2 := Lib.hid hown2; have HBR2 : Hid (Below wzb.heap.size wzb w2) := Below.grown HBR1.out hgr2 HBR1.out.size (fun k e => (HOWN1.out.lt k e).1); clear hown2 hgr2) | (at_builtin; refine wpList_append_own _ (by rfl) _ _ 82 (by rfl) wzb.heap.size 83 i0 (.slice none 0 0) 1 24 Try.underlying82 HI.out HZ0.out HZ1.out HZ2.out rfl (by decide) u5 O.length (O.map (·.1)) (by rfl) HOW.out ⟨ga, oa, none⟩ na ca (A.map (·.1)) (by rfl) (by have := HLN.out; simp only [List.length_map]; omega) HN1.out H1.out HM1.out.1 HM1.out.2 HSR.out ?_; intro v1 w1 hown1 hgr1 _; have HOWN1 := Lib.hid hown1; have HBR1 : Hid (Below wzb.heap.size wzb w1) := Below.grown HBR.out hgr1 HSR.out (fun k e => (HOW.out.lt k e).1); clear hown1 hgr1))
        go_ret
        refine ⟨v2, O ++ (A ++ B), rfl, HPM.out, HPS.out, ?_, HBW.out.trans (HBR2.out.mono HBW.out.size)⟩
        have h := rows_lo HOWN2.out HBW.out.size
        rw [show (O ++ (A ++ B)).length = O.length + na + 0 by rw [List.length_append, List.length_append, HLN.out.1, HLN.out.2.1]; omega, show (O ++ (A ++ B)).map (·.1) = O.map (·.1) ++ A.map (·.1) ++ B.map (·.1) by simp]
        exact h
      have d2 : decide ((0 : Int) < nb) = true := decide_eq_true (by omega)
      have d2' : decide (0 < nb) = true := decide_eq_true (by omega)
      have e2 : (0 : Int) < nb := by omega
      obtain ⟨⟨pv, pl⟩, A', eA⟩ : ∃ x A', A = x :: A' := by cases A with | nil => simp at hna; omega | cons x A' => exact ⟨x, A', rfl⟩
      obtain ⟨⟨qv, ql⟩, B', eB⟩ : ∃ x A', B = x :: A' := by cases B with | nil => simp at hnb; omega | cons x A' => exact ⟨x, A', rfl⟩
      subst eA eB
      simp only [List.length_cons] at hna hnb
      -- the two heads
      obtain ⟨_, _, ex, ga1, ga2, -, -, gr, gi⟩ := hI.out.ra
      simp only [Value.slice.injEq] at ex
      obtain ⟨rfl, -, rfl⟩ := ex
      obtain ⟨_, _, e', zga, hca⟩ := gi 0 (by simp)
      simp only [Option.some.injEq, Addr.mk.injEq] at e'
      obtain ⟨rfl, rfl, -⟩ := e'
      have hrp := gr _ (List.mem_cons_self ..)
      obtain ⟨_, _, ex, gb1, gb2, -, -, gr', gi'⟩ := hI.out.rb
      simp only [Value.slice.injEq] at ex
      obtain ⟨rfl, -, rfl⟩ := ex
      obtain ⟨_, _, e', zgb, hcb⟩ := gi' 0 (by simp)
      simp only [Option.some.injEq, Addr.mk.injEq] at e'
      obtain ⟨rfl, rfl, -⟩ := e'
      have hrq := gr' _ (List.mem_cons_self ..)
      simp only [List.getElem_cons_zero, Nat.add_zero] at hca hcb
      simp only at hrp hrq
      obtain ⟨pa, pc, hpv⟩ : ∃ a c, pv = .slice a pl.length c := by obtain ⟨a, c, e, _⟩ := hrp; exact ⟨a, c, e⟩
      obtain ⟨qa, qc, hqv⟩ : ∃ a c, qv = .slice a ql.length c := by obtain ⟨a, c, e, _⟩ := hrq; exact ⟨a, c, e⟩
      subst hpv hqv
      have HK : Hid (∀ W, Below wzb.heap.size wzb W → W.cell? ⟨ga, oa, none⟩ = some (.slice pa pl.length pc) ∧ W.cell? ⟨gb, ob, none⟩ = some (.slice qa ql.length qc)) := fun W hb =>
        ⟨(hb.cell (p := ⟨ga, oa, none⟩) zga).trans hca, (hb.cell (p := ⟨gb, ob, none⟩) zgb).trans hcb⟩
      have HP : Hid (∀ W, Below wzb.heap.size wzb W → Calls Try.prog 76 #[.slice pa pl.length pc, .slice qa ql.length qc] W fun e w' => e = .returned (.int .i64 (cmpRows pl ql)) ∧ Gr W w') := fun W hb =>
        rCompareRows_any _ _ _ _ W ((hrp.below hb (Nat.le_refl _)).at hb.size) ((hrq.below hb (Nat.le_refl _)).at hb.size)
      have HRA : Hid (RowsC wzb.heap.size wzb (.slice (some ⟨ga, oa + 1, none⟩) (na - 1) (ca - 1)) A') := by
        have := (show RowsC wzb.heap.size wzb (.slice (some ⟨ga, oa, none⟩) (((.slice pa pl.length pc, pl) : E) :: A').length ca) (((.slice pa pl.length pc, pl) : E) :: A') by rw [List.length_cons, ← hna]; exact hI.out.ra).drop 1 (by simp)
        show RowsC _ _ _ _
        simpa [hna] using this
      have HRB : Hid (RowsC wzb.heap.size wzb (.slice (some ⟨gb, ob + 1, none⟩) (nb - 1) (cb - 1)) B') := by
        have := (show RowsC wzb.heap.size wzb (.slice (some ⟨gb, ob, none⟩) (((.slice qa ql.length qc, ql) : E) :: B').length cb) (((.slice qa ql.length qc, ql) : E) :: B') by rw [List.length_cons, ← hnb]; exact hI.out.rb).drop 1 (by simp)
        show RowsC _ _ _ _
        simpa [hnb] using this
      have H1p : Hid (∀ u ∈ ([(.slice pa pl.length pc)] : List Value), u.oneCell' = true) := by intro u hu; simp only [List.mem_singleton] at hu; subst hu; rfl
      have H1q : Hid (∀ u ∈ ([(.slice qa ql.length qc)] : List Value), u.oneCell' = true) := by intro u hu; simp only [List.mem_singleton] at hu; subst hu; rfl
      have hOl : O.length + na + nb = n := by have := hI.out.perm.length_eq; simp at this; omega
      have H63 : Hid (O.length + 1 ≤ maxLen) := by show _ ≤ _; unfold maxLen; omega
      have HBY : Hid ((O.length + 1) * 24 ≤ 140737488355328) := by show _ ≤ _; omega
      have hbr : Below wzb.heap.size wzb wr := hI.out.below
      have hsr : wzb.heap.size ≤ wr.heap.size := hI.out.size
      obtain ⟨p1, q1⟩ := HK.out wr hbr
      clear hrp hrq hca hcb gr gr' gi gi'
      simp only [List.length_cons] at ga1 gb1
      have k1a : (1 : Int) ≤ na := by omega
      have k1b : (1 : Int) ≤ nb := by omega
      have k2a : (na : Int) ≤ ca := by omega
      have k2b : (nb : Int) ≤ cb := by omega
      have k3a : 1 ≤ na := by omega
      have k3b : 1 ≤ nb := by omega
      have k4a : na ≤ ca := by omega
      have k4b : nb ≤ cb := by omega
      have k5a : (1 : Int) ≤ ca := by omega
      have k5b : (1 : Int) ≤ cb := by omega
      have k6a : 0 < na := by omega
      have k6b : 0 < nb := by omega
      have HNA := Lib.hid hna
      have HNB := Lib.hid hnb
      have HOL := Lib.hid hOl
      clear hna hnb hOl
      obtain ⟨c, hc⟩ : ∃ c, cmpRows pl ql = c := ⟨_, rfl⟩
      rw [hc] at HP
      have HC := Lib.hid hc
      clear hc
      go_wp2_with fail
      go_region_held3 (fun W => W.cell? ⟨ga, oa, none⟩ = some (.slice pa pl.length pc) ∧ W.cell? ⟨gb, ob, none⟩ = some (.slice qa ql.length qc))
        (first | exact ⟨p8, q8⟩ | exact ⟨p1, q1⟩)
        (first | (go_at_call 76; (with_reducible refine (HP.out _ (by (repeat (first | exact Below.refl _ _ | assumption | refine Below.drew ?_ | refine Below.setCell ?_ (by simp; try omega) _ | refine Below.alloc ?_ (by simp; try omega) _)))).mono ?_); rintro e wz ⟨rfl, hg⟩; have hbz : Below wzb.heap.size wzb wz := Below.trans (by (repeat (first | exact Below.refl _ _ | assumption | refine Below.drew ?_ | refine Below.setCell ?_ (by simp; try omega) _ | refine Below.alloc ?_ (by simp; try omega) _))) (hg.below.mono (by first | (simp; omega) | omega)); have HOWr : Hid (wz.ownsRow wzb.heap.size 83 1 u5 O.length (O.map (·.1))) := own_below (by first | exact hI.out.own | exact hI.out.own.drew) hg.below; obtain ⟨p8, q8⟩ := HK.out wz hbz; clear hg))
      have hsz : wzb.heap.size ≤ wz.heap.size := hbz.size
      have hgz : ga < wz.heap.size := Nat.lt_of_lt_of_le zga hsz
      have hgz' : gb < wz.heap.size := Nat.lt_of_lt_of_le zgb hsz
      clear p1 q1
      by_cases hc0 : c ≤ 0
      · have d3 : decide (c ≤ 0) = true := decide_eq_true hc0
        obtain ⟨oa', ca', hsl, hra'⟩ : ∃ oa' ca', (∀ W, (Instr.slice 82 (.slice (some ⟨ga, oa, none⟩) na ca) (some (.int .i64 1)) none none).run Try.prog W = .ok (.slice (some ⟨ga, oa', none⟩) (na - 1) ca') W) ∧ RowsC wzb.heap.size wzb (.slice (some ⟨ga, oa', none⟩) (na - 1) ca') A' := by
          by_cases hca : ca = 1
          · have hn1 : na = 1 := by omega
            have hA0 : A' = [] := List.eq_nil_of_length_eq_zero (by have := HNA.out; omega)
            subst hca hn1 hA0
            exact ⟨oa, 0, fun W => slice_last ga oa 1 rfl W, RowsC.empty _ _ _ _ _ (by unfold maxLen; omega)⟩
          · exact ⟨oa + 1, ca - 1, slice_one ga oa na ca k3a hca, HRA.out⟩
        have HRAX := Lib.hid hra'
        clear hra'
        have hsl2 : ∀ W, (Instr.sliceAt 82 (.slice (some ⟨ga, oa, none⟩) na ca) (some (.int .i64 1)) none none).run Try.prog W = .ok (.slice (some ⟨ga, oa', none⟩) (na - 1) ca') W := fun W => (run_sliceAt_slice W _ _ _ _ _ (by kernel_rfl)).trans (hsl W)
        go_wp2_with fail
        go_region_held3 (fun W => W.cell? ⟨ga, oa, none⟩ = some (.slice pa pl.length pc))
          (first | exact p9 | exact p8 | ((refine (HK.out _ ?_).1); (repeat (first | exact Below.refl _ _ | assumption | refine Below.drew ?_ | refine Below.setCell ?_ (by simp; try omega) _ | refine Below.alloc ?_ (by simp; try omega) _)); done) | go_keep)
          (first | (refine step_append_lies _ (by rfl) _ _ _ (by rfl) wzb.heap.size 83 i0 _ 1 24 Try.underlying82 HI.out HZ0.out HZ1.out HZ2.out rfl (by decide) u5 O.length (O.map (·.1)) (by rfl) (by first | exact (HOWr.out.alloc _).drew | exact HOWr.out.alloc _ | exact (HOWr.out.drew.alloc _).drew | exact HOWr.out.drew.alloc _) ⟨wz.heap.size, 0, none⟩ 1 1 [(.slice pa pl.length pc)] (by rfl) (by rfl) (World.news_of_block (cs := #[(.slice pa pl.length pc)]) (t := 83) (fr := (0, 0)) (heap_alloc_new wz _)) H1p.out (by omega) H63.out HBY.out (by first | (simp; done) | (simp; omega)) (wz.heap.size + 1) (by first | (simp; done) | rfl) ?_; intro gg cap w1 hown1 hgrow hat hlt; have HOWN := Lib.hid hown1; have hb1 : Below wzb.heap.size wzb w1 := Below.grown (by first | exact hbz.alloc hsz _ | exact (hbz.alloc hsz _).drew | exact hbz.drew.alloc hsz _ | exact (hbz.drew.alloc hsz _).drew) hgrow (by first | (simp; done) | (simp; omega)) (fun k e => (HOWr.out.lt k e).1); have p9 := (HK.out w1 hb1).1; have hs9 := hb1.size; clear hown1 hgrow hat))
        go_wp2_with fail
        go_roundg (na - 1 + nb)
        case measure => omega
        case rel =>
          have hqs : ∀ y ∈ ((.slice qa ql.length qc, ql) : E) :: B', cmpRows pl y.2 ≤ 0 := by
            intro y hy
            have h0 : cmpRows pl ql ≤ 0 := by rw [HC.out]; exact hc0
            rcases List.mem_cons.1 hy with rfl | hy
            · exact h0
            · exact cmpRows_trans _ _ _ h0 ((List.pairwise_cons.1 hI.out.sb).1 y hy)
          exact ⟨A', ((.slice qa ql.length qc, ql) : E) :: B', O ++ [((.slice pa pl.length pc, pl) : E)], na - 1, nb, ga, oa', ca', gb, ob, cb, by have := HNA.out; omega, by have := HNB.out; simpa using this, by omega, by omega, rfl, rfl, Lib.hid (hI.out.takeA hqs HRAX.out hb1 hs9 HOWN.out)⟩
      · have d3 : decide (c ≤ 0) = false := decide_eq_false hc0
        obtain ⟨ob', cb', hsl, hrb'⟩ : ∃ ob' cb', (∀ W, (Instr.slice 82 (.slice (some ⟨gb, ob, none⟩) nb cb) (some (.int .i64 1)) none none).run Try.prog W = .ok (.slice (some ⟨gb, ob', none⟩) (nb - 1) cb') W) ∧ RowsC wzb.heap.size wzb (.slice (some ⟨gb, ob', none⟩) (nb - 1) cb') B' := by
          by_cases hcb : cb = 1
          · have hn1 : nb = 1 := by omega
            have hB0 : B' = [] := List.eq_nil_of_length_eq_zero (by have := HNB.out; omega)
            subst hcb hn1 hB0
            exact ⟨ob, 0, fun W => slice_last gb ob 1 rfl W, RowsC.empty _ _ _ _ _ (by unfold maxLen; omega)⟩
          · exact ⟨ob + 1, cb - 1, slice_one gb ob nb cb k3b hcb, HRB.out⟩
        have HRBX := Lib.hid hrb'
        clear hrb'
        have hsl2 : ∀ W, (Instr.sliceAt 82 (.slice (some ⟨gb, ob, none⟩) nb cb) (some (.int .i64 1)) none none).run Try.prog W = .ok (.slice (some ⟨gb, ob', none⟩) (nb - 1) cb') W := fun W => (run_sliceAt_slice W _ _ _ _ _ (by kernel_rfl)).trans (hsl W)
        go_wp2_with fail
        go_region_held3 (fun W => W.cell? ⟨gb, ob, none⟩ = some (.slice qa ql.length qc))
          (first | exact q9 | exact q8 | ((refine (HK.out _ ?_).2); (repeat (first | exact Below.refl _ _ | assumption | refine Below.drew ?_ | refine Below.setCell ?_ (by simp; try omega) _ | refine Below.alloc ?_ (by simp; try omega) _)); done) | go_keep)
          (first | (refine step_append_lies _ (by rfl) _ _ _ (by rfl) wzb.heap.size 83 i0 _ 1 24 Try.underlying82 HI.out HZ0.out HZ1.out HZ2.out rfl (by decide) u5 O.length (O.map (·.1)) (by rfl) (by first | exact (HOWr.out.alloc _).drew | exact HOWr.out.alloc _ | exact (HOWr.out.drew.alloc _).drew | exact HOWr.out.drew.alloc _) ⟨wz.heap.size, 0, none⟩ 1 1 [(.slice qa ql.length qc)] (by rfl) (by rfl) (World.news_of_block (cs := #[(.slice qa ql.length qc)]) (t := 83) (fr := (0, 0)) (heap_alloc_new wz _)) H1q.out (by omega) H63.out HBY.out (by first | (simp; done) | (simp; omega)) (wz.heap.size + 1) (by first | (simp; done) | rfl) ?_; intro gg cap w1 hown1 hgrow hat hlt; have HOWN := Lib.hid hown1; have hb1 : Below wzb.heap.size wzb w1 := Below.grown (by first | exact hbz.alloc hsz _ | exact (hbz.alloc hsz _).drew | exact hbz.drew.alloc hsz _ | exact (hbz.drew.alloc hsz _).drew) hgrow (by first | (simp; done) | (simp; omega)) (fun k e => (HOWr.out.lt k e).1); have q9 := (HK.out w1 hb1).2; have hs9 := hb1.size; clear hown1 hgrow hat))
        go_wp2_with fail
        go_roundg (na + (nb - 1))
        case measure => omega
        case rel =>
          have hqs : ∀ y ∈ ((.slice pa pl.length pc, pl) : E) :: A', cmpRows ql y.2 ≤ 0 := by
            intro y hy
            have h0 : cmpRows ql pl ≤ 0 := by have := cmpRows_flip pl ql; rw [HC.out] at this; omega
            rcases List.mem_cons.1 hy with rfl | hy
            · exact h0
            · exact cmpRows_trans _ _ _ h0 ((List.pairwise_cons.1 hI.out.sa).1 y hy)
          exact ⟨((.slice pa pl.length pc, pl) : E) :: A', B', O ++ [((.slice qa ql.length qc, ql) : E)], na, nb - 1, ga, oa, ca, gb, ob', cb', by have := HNA.out; simpa using this, by have := HNB.out; omega, by omega, by omega, rfl, rfl, Lib.hid (hI.out.takeB hqs HRBX.out hb1 hs9 HOWN.out)⟩
end Go.Proofs.Ytmhgmlnnipdomaa
