/- Walk of the reference's sorted. -/
import Derived.Test.YtkhbephcmcnfjaaHead
import Derived.Test.YtkhbephcmcnfjaaHas
import Derived.Deep.AppendLies
namespace Go.Proofs.Ytkhbephcmcnfjaa
open Go.RowKit Go.Deep

/-- RowsB, with what slicing wants. -/
def RowsC (B : Nat) (w : World) (v : Value) (xs : List E) : Prop :=
  ∃ (a : Option Addr) (c : Nat), v = .slice a xs.length c ∧ xs.length ≤ c ∧ c ≤ maxLen ∧ (a = none → xs.length = 0 ∧ c = 0) ∧ xs.length ≤ 4398046511104 ∧ (∀ x ∈ xs, RowB B w x.1 x.2) ∧
    ∀ j (h : j < xs.length), ∃ b off, a = some ⟨b, off, none⟩ ∧ b < B ∧ w.cell? ⟨b, off + j, none⟩ = some xs[j].1
theorem RowsC.below {B B' : Nat} {w w' : World} {v : Value} {xs : List E} (hr : RowsC B w v xs) (h : Below B' w w') (hB : B ≤ B') : RowsC B w' v xs := by
  obtain ⟨a, c, e, h1, h2, h3, hn, hx, hi⟩ := hr
  refine ⟨a, c, e, h1, h2, h3, hn, fun x m => (hx x m).below h hB, fun j hj => ?_⟩
  obtain ⟨b, off, ea, hb, hc⟩ := hi j hj
  exact ⟨b, off, ea, hb, (h.cell (p := ⟨b, off + j, none⟩) (show b < B' by omega)).trans hc⟩
theorem RowsC.mono {B B' : Nat} {w : World} {v : Value} {xs : List E} (hr : RowsC B w v xs) (hB : B ≤ B') : RowsC B' w v xs := by
  obtain ⟨a, c, e, h1, h2, h3, hn, hx, hi⟩ := hr
  refine ⟨a, c, e, h1, h2, h3, hn, fun x m => (hx x m).mono hB, fun j hj => ?_⟩
  obtain ⟨b, off, ea, hb, hc⟩ := hi j hj
  exact ⟨b, off, ea, by omega, hc⟩
theorem RowsC.b {B : Nat} {w : World} {v : Value} {xs : List E} (hr : RowsC B w v xs) : RowsB B w v xs := by
  obtain ⟨a, c, e, h1, h2, h3, hn, hx, hi⟩ := hr
  exact ⟨a, c, e, hn, hx, hi⟩
theorem rowsC_own {base : Nat} {v : Value} {L : List E} {w : World} (ho : w.ownsRow base 25 1 v L.length (L.map (·.1))) (hr : ∀ x ∈ L, RowB w.heap.size w x.1 x.2) (hn : L.length ≤ 4398046511104) : RowsC w.heap.size w v L := by
  have hlt := ho.lt
  rcases ho.2 with ⟨rfl, h0⟩ | ⟨g, cap, cur, rfl, hg, hgg, hnc, hcm, hcs, htake⟩
  · obtain rfl : L = [] := List.eq_nil_of_length_eq_zero h0
    exact ⟨none, 0, rfl, by simp, by simp, fun _ => ⟨rfl, rfl⟩, by simp, hr, fun j h => absurd h (by simp)⟩
  · refine ⟨some ⟨g, 0, none⟩, cap, rfl, hnc, hcm, fun h => by simp at h, hn, hr, fun j hj => ⟨g, 0, rfl, (hlt g rfl).2, ?_⟩⟩
    rw [Nat.zero_add, ho.cellAt j (by omega)]
    simp [List.getElem?_eq_getElem hj]
theorem RowsC.take {B : Nat} {w : World} {b o c : Nat} {xs : List E} (hr : RowsC B w (.slice (some ⟨b, o, none⟩) xs.length c) xs) (k : Nat) (hk : k ≤ xs.length) : RowsC B w (.slice (some ⟨b, o, none⟩) k c) (xs.take k) := by
  obtain ⟨a, c', e, h1, h2, h3, hn, hx, hi⟩ := hr
  simp only [Value.slice.injEq] at e
  obtain ⟨rfl, _, rfl⟩ := e
  refine ⟨some ⟨b, o, none⟩, c, by simp; omega, by simp; omega, h2, fun h => by simp at h, by simp; omega, fun x hm => hx x (List.mem_of_mem_take hm), fun j hj => ?_⟩
  simp only [List.length_take] at hj
  obtain ⟨b', off, e, hb, hc⟩ := hi j (by omega)
  exact ⟨b', off, e, hb, by simpa using hc⟩
theorem RowsC.drop {B : Nat} {w : World} {b o c : Nat} {xs : List E} (hr : RowsC B w (.slice (some ⟨b, o, none⟩) xs.length c) xs) (k : Nat) (hk : k ≤ xs.length) : RowsC B w (.slice (some ⟨b, o + k, none⟩) (xs.length - k) (c - k)) (xs.drop k) := by
  obtain ⟨a, c', e, h1, h2, h3, hn, hx, hi⟩ := hr
  simp only [Value.slice.injEq] at e
  obtain ⟨rfl, _, rfl⟩ := e
  refine ⟨some ⟨b, o + k, none⟩, c - k, by simp, by simp; omega, by omega, fun h => by simp at h, by simp; omega, fun x hm => hx x (List.mem_of_mem_drop hm), fun j hj => ?_⟩
  simp only [List.length_drop] at hj
  obtain ⟨b', off, e, hb, hc⟩ := hi (k + j) (by omega)
  simp only [Option.some.injEq, Addr.mk.injEq] at e
  obtain ⟨rfl, rfl, _⟩ := e
  exact ⟨b, o + k, rfl, hb, by simpa [Nat.add_assoc] using hc⟩

/-- What the merge knows: what is left of both halves, and what is out. -/
structure SInv (base : Nat) (w0 : World) (xs A B O : List E) (va vb vo : Value) (wr : World) : Prop where
  ra : RowsC base w0 va A
  rb : RowsC base w0 vb B
  below : Below base w0 wr
  size : base ≤ wr.heap.size
  own : wr.ownsRow base 25 1 vo O.length (O.map (·.1))
  perm : (O ++ (A ++ B)).Perm xs
  sa : A.Pairwise (fun a b => cmpRows a.2 b.2 ≤ 0)
  sb : B.Pairwise (fun a b => cmpRows a.2 b.2 ≤ 0)
  so : O.Pairwise (fun a b => cmpRows a.2 b.2 ≤ 0)
  le : ∀ o ∈ O, ∀ x ∈ A ++ B, cmpRows o.2 x.2 ≤ 0
theorem SInv.takeA {base : Nat} {w0 : World} {xs A B O : List E} {x : E} {va va' vb vo vo' : Value} {wr w' : World} (h : SInv base w0 xs (x :: A) B O va vb vo wr) (hx : ∀ y ∈ B, cmpRows x.2 y.2 ≤ 0)
    (hr : RowsC base w0 va' A) (hb : Below base w0 w') (hs : base ≤ w'.heap.size) (ho : w'.ownsRow base 25 1 vo' (O.length + 1) (O.map (·.1) ++ [x.1])) : SInv base w0 xs A B (O ++ [x]) va' vb vo' w' := by
  obtain ⟨h1, h2, h3, h4, h5, h6, h7, h8, h9, h10⟩ := h
  have h7' := List.pairwise_cons.1 h7
  refine ⟨hr, h2, hb, hs, by simpa using ho, by simpa using h6, h7'.2, h8, ?_, ?_⟩
  · rw [List.pairwise_append]
    exact ⟨h9, by simp, fun a ha b hb => by simp only [List.mem_singleton] at hb; subst hb; exact h10 a ha b (by simp)⟩
  · intro o ho x' hx'
    rw [List.mem_append] at ho hx'
    rcases ho with ho | ho
    · exact h10 o ho x' (by rcases hx' with h | h <;> simp [h])
    · simp only [List.mem_singleton] at ho; subst ho
      rcases hx' with h | h
      · exact h7'.1 x' h
      · exact hx x' h
theorem SInv.takeB {base : Nat} {w0 : World} {xs A B O : List E} {y : E} {va vb vb' vo vo' : Value} {wr w' : World} (h : SInv base w0 xs A (y :: B) O va vb vo wr) (hx : ∀ x ∈ A, cmpRows y.2 x.2 ≤ 0)
    (hr : RowsC base w0 vb' B) (hb : Below base w0 w') (hs : base ≤ w'.heap.size) (ho : w'.ownsRow base 25 1 vo' (O.length + 1) (O.map (·.1) ++ [y.1])) : SInv base w0 xs A B (O ++ [y]) va vb' vo' w' := by
  obtain ⟨h1, h2, h3, h4, h5, h6, h7, h8, h9, h10⟩ := h
  have h8' := List.pairwise_cons.1 h8
  refine ⟨h1, hr, hb, hs, by simpa using ho, ?_, h7, h8'.2, ?_, ?_⟩
  · refine List.Perm.trans ?_ h6
    rw [List.append_assoc]
    exact List.Perm.append_left O ((List.perm_middle (a := y) (l₁ := A) (l₂ := B)).symm)
  · rw [List.pairwise_append]
    exact ⟨h9, by simp, fun a ha b hb => by simp only [List.mem_singleton] at hb; subst hb; exact h10 a ha b (by simp)⟩
  · intro o ho x' hx'
    rw [List.mem_append] at ho hx'
    rcases ho with ho | ho
    · exact h10 o ho x' (by rcases hx' with h | h <;> simp [h])
    · simp only [List.mem_singleton] at ho; subst ho
      rcases hx' with h | h
      · exact hx x' h
      · exact h8'.1 x' h
theorem RowsC.empty (B : Nat) (w : World) (b o c : Nat) (h : c ≤ maxLen) : RowsC B w (.slice (some ⟨b, o, none⟩) 0 c) [] := ⟨some ⟨b, o, none⟩, c, rfl, by simp, h, fun h => by simp at h, by simp, fun x h => by simp at h, fun j h => absurd h (by simp)⟩

def SortedPost (w : World) (xs : List E) (e : Ending) (w' : World) : Prop :=
  ∃ (v : Value) (ys : List E), e = .returned v ∧ ys.Perm xs ∧ ys.Pairwise (fun a b => cmpRows a.2 b.2 ≤ 0) ∧ w'.ownsRow w.heap.size 25 1 v ys.length (ys.map (·.1)) ∧ Below w.heap.size w w'

set_option maxRecDepth 100000 in
theorem rSorted_small (xs : List E) (va : Value) (w : World) (h2 : xs.length < 2) (ha : RowsC w.heap.size w va xs) : Calls Try.prog 58 #[va] w (SortedPost w xs) := by
  have hinfo : (Try.prog.info? 25).map (fun i => (i.zero, i.size, i.bytes)) = some (some (.slice none 0 0), 1, 24) := by kernel_rfl
  obtain ⟨i0, hi, hz0, hz1, hz2⟩ := info_parts hinfo
  obtain ⟨la, lc, rfl, g1, g2, g3, n1, hx1, hi1⟩ := ha
  have hd : decide ((xs.length : Int) < 2) = true := decide_eq_true (by omega)
  have hps : xs.Pairwise (fun a b => cmpRows a.2 b.2 ≤ 0) := by
    match xs, h2 with
    | [], _ => simp
    | [x], _ => simp
  have L3 : (xs.map (·.1)).length = xs.length * 1 := by simp
  have L4 : ∀ p, la = some p → ∀ j u, (xs.map (·.1))[j]? = some u → w.cell? (p.add j) = some u := by
    rintro p rfl j u hj
    have hjl : j < xs.length := by simpa using (List.getElem?_eq_some_iff.1 hj).1
    obtain ⟨b, off, e, hb, hc⟩ := hi1 j hjl
    simp only [Option.some.injEq] at e
    subst e
    rw [add_form _ rfl, hc, ← hj]
    simp [List.getElem?_eq_getElem hjl]
  have L5 : ∀ u ∈ xs.map (·.1), u.oneCell' = true := fun u hu => by
    obtain ⟨x, hx, rfl⟩ := List.mem_map.1 hu
    obtain ⟨_, _, e, _⟩ := hx1 x hx
    rw [e]; rfl
  have L6 : xs.length ≤ maxLen := by unfold maxLen; omega
  have L7 : xs.length * 24 ≤ 140737488355328 := by omega
  have H : Hid ((Try.prog.info? 25 = some i0 ∧ i0.zero = some (.slice none 0 0) ∧ i0.size = 1 ∧ i0.bytes = 24) ∧ (la = none → xs.length = 0 ∧ lc = 0) ∧ (xs.map (·.1)).length = xs.length * 1 ∧ (∀ p, la = some p → ∀ j u, (xs.map (·.1))[j]? = some u → w.cell? (p.add j) = some u) ∧ (∀ u ∈ xs.map (·.1), u.oneCell' = true) ∧ xs.length ≤ maxLen ∧ xs.length * 24 ≤ 140737488355328) := ⟨⟨hi, hz0, hz1, hz2⟩, g3, L3, L4, L5, L6, L7⟩
  have HPS := Lib.hid hps
  clear hi hz0 hz1 hz2 hinfo hx1 hi1 L3 L4 L5 L6 L7 hps g3
  go_enter Try.func58, Try.ntmps58
  go_wp2_with (at_builtin; refine wpList_append_nil rfl _ _ 23 rfl 25 i0 (.slice none 0 0) 1 24 Try.underlying23 H.out.1.1 H.out.1.2.1 H.out.1.2.2.1 H.out.1.2.2.2 rfl (by decide) rfl la xs.length lc (xs.map (·.1)) rfl H.out.2.1 H.out.2.2.1 H.out.2.2.2.1 H.out.2.2.2.2.1 H.out.2.2.2.2.2.1 H.out.2.2.2.2.2.2 ?_; intro v1 wa hown1 hba; have HOW1 := Lib.hid hown1; have HBA := Lib.hid hba; clear hown1 hba)
  go_ret
  exact ⟨_, xs, rfl, List.Perm.refl _, HPS.out, HOW1.out, HBA.out⟩

set_option maxRecDepth 100000 in
theorem slice_one (g o n c : Nat) (hn : 1 ≤ n) (hc : ¬ c = 1) (W : World) : (Instr.slice 23 (.slice (some ⟨g, o, none⟩) n c) (some (.int .i64 1)) none none).run Try.prog W = .ok (.slice (some ⟨g, o + 1, none⟩) (n - 1) (c - 1)) W := by
  rw [run_slice_l W 23 (some ⟨g, o, none⟩) n c (by kernel_rfl) .i64 1 (by omega) (by omega)]
  have hs : (sizeOf (Try.prog.elem 23)).run Try.prog W = .ok 1 W := by rfl
  rw [hs]
  simp [Result.andThen, sliced, hc, Addr.add]
set_option maxRecDepth 100000 in
theorem slice_last (g o n : Nat) (hn : n = 1) (W : World) : (Instr.slice 23 (.slice (some ⟨g, o, none⟩) n 1) (some (.int .i64 1)) none none).run Try.prog W = .ok (.slice (some ⟨g, o, none⟩) 0 0) W := by
  rw [run_slice_l W 23 (some ⟨g, o, none⟩) n 1 (by kernel_rfl) .i64 1 (by omega) (by omega)]
  have hs : (sizeOf (Try.prog.elem 23)).run Try.prog W = .ok 1 W := by rfl
  rw [hs]
  simp [Result.andThen, sliced, hn]

-- UNDER WAY, not clean: goes behind what stands in wip/tpl/XSorted.lean (same namespace, same opens)
end Go.Proofs.Ytkhbephcmcnfjaa
