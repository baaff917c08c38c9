/- Walk of value.Set. -/
import Derived.Test.YtkhbephcmcnfjaaSetMath
import Derived.Test.YtkhbephcmcnfjaaSortRow
import Derived.Test.YtkhbephcmcnfjaaCopy
namespace Go.Proofs.Ytkhbephcmcnfjaa
open Go.RowKit Go.Deep

/-- A slice value reads as a list of rows, in blocks below B. -/
def RowsB (B : Nat) (w : World) (v : Value) (xs : List E) : Prop :=
  ∃ (a : Option Addr) (c : Nat), v = .slice a xs.length c ∧ xs.length ≤ 4398046511104 ∧ (∀ x ∈ xs, RowB B w x.1 x.2) ∧
    ∀ j (h : j < xs.length), ∃ b off, a = some ⟨b, off, none⟩ ∧ b < B ∧ w.cell? ⟨b, off + j, none⟩ = some xs[j].1
theorem RowsB.below {B B' : Nat} {w w' : World} {v : Value} {xs : List E} (hr : RowsB B w v xs) (h : Below B' w w') (hB : B ≤ B') : RowsB B w' v xs := by
  obtain ⟨a, c, e, hn, hx, hi⟩ := hr
  refine ⟨a, c, e, hn, fun x m => (hx x m).below h hB, fun j hj => ?_⟩
  obtain ⟨b, off, ea, hb, hc⟩ := hi j hj
  exact ⟨b, off, ea, hb, (h.cell (p := ⟨b, off + j, none⟩) (show b < B' by omega)).trans hc⟩
theorem RowsB.mono {B B' : Nat} {w : World} {v : Value} {xs : List E} (hr : RowsB B w v xs) (hB : B ≤ B') : RowsB B' w v xs := by
  obtain ⟨a, c, e, hn, hx, hi⟩ := hr
  refine ⟨a, c, e, hn, fun x m => (hx x m).mono hB, fun j hj => ?_⟩
  obtain ⟨b, off, ea, hb, hc⟩ := hi j hj
  exact ⟨b, off, ea, by omega, hc⟩

/-- What the last loop of Set knows. -/
structure LInv (w : World) (B : Nat) (zs : List E) (k : Nat) (bs : Nat → Nat) (wr : World) : Prop where
  below : Below B w wr
  hb : B < wr.heap.size
  done : ∀ j (h : j < zs.length), j < k → wr.cell? ⟨B, j, none⟩ = some (.slice (some ⟨bs j, 0, none⟩) zs[j].2.length zs[j].2.length) ∧ B < bs j ∧ bs j < wr.heap.size ∧ wr.heap[bs j]? = some (.cells (cellsOf zs[j].2).toArray 42 (0, 0))
  todo : ∀ j (h : j < zs.length), k ≤ j → wr.cell? ⟨B, j, none⟩ = some zs[j].1
  fz : ∀ j, j < zs.length → wr.frozen? ⟨B, j, none⟩ = false
  asc : ∀ i j, i < j → j < k → bs i < bs j

theorem LInv.step {w : World} {B : Nat} {zs : List E} {k : Nat} {bs : Nat → Nat} {wr w' : World} {b : Nat} (hI : LInv w B zs k bs wr) (hk : k < zs.length) (hg : Gr wr w') (hb : wr.heap.size ≤ b)
    (hh : w'.heap[b]? = some (.cells (cellsOf zs[k].2).toArray 42 (0, 0))) :
    LInv w B zs (k + 1) (fun j => if j = k then b else bs j) (w'.setCell ⟨B, k, none⟩ (.slice (some ⟨b, 0, none⟩) zs[k].2.length zs[k].2.length)) := by
  have hbl := hg.below
  have hB := hI.hb
  have hsz : b < w'.heap.size := (Array.getElem?_eq_some_iff.1 hh).1
  have hc : ∀ o, w'.cell? ⟨B, o, none⟩ = wr.cell? ⟨B, o, none⟩ := fun o => hbl.cell (p := ⟨B, o, none⟩) hB
  have hf : ∀ o, w'.frozen? ⟨B, o, none⟩ = wr.frozen? ⟨B, o, none⟩ := fun o => hbl.frozen (p := ⟨B, o, none⟩) hB
  have hother : ∀ (v : Value) j, j ≠ k → (w'.setCell ⟨B, k, none⟩ v).cell? ⟨B, j, none⟩ = w'.cell? ⟨B, j, none⟩ := fun v j hj => World.cell?_setCell_other _ _ _ _ (by simp <;> omega)
  have hsame : ∀ v, (w'.setCell ⟨B, k, none⟩ v).cell? ⟨B, k, none⟩ = some v := fun v => World.cell?_setCell_same w' _ v ((hc k).trans (hI.todo k hk (Nat.le_refl _)))
  have hheap : ∀ (v : Value) i, i ≠ B → (w'.setCell ⟨B, k, none⟩ v).heap[i]? = w'.heap[i]? := fun v i hi => Below.heap_setCell _ _ _ _ hi
  refine ⟨(hI.below.trans (hbl.mono (by omega))).setCell (Nat.le_refl _) _, by simp; exact Nat.lt_of_lt_of_le hB hbl.size, fun j hj hjk => ?_, fun j hj hjk => ?_, fun j hj => ?_, fun i j hij hjk => ?_⟩
  · by_cases e : j = k
    · subst e
      simp only [if_true]
      exact ⟨hsame _, by omega, by simpa using hsz, by rw [hheap _ _ (by omega)]; exact hh⟩
    · simp only [if_neg e]
      obtain ⟨d1, d2, d3, d4⟩ := hI.done j hj (by omega)
      refine ⟨by rw [hother _ _ e, hc]; exact d1, d2, by simp; exact Nat.lt_of_lt_of_le d3 hbl.size, ?_⟩
      rw [hheap _ _ (by omega), hbl.block _ d3]; exact d4
  · rw [hother _ _ (by omega), hc]; exact hI.todo j hj (by omega)
  · rw [World.frozen?_setCell, hf]; exact hI.fz j hj
  · by_cases e : j = k
    · subst e
      simp only [if_true, if_neg (show i ≠ j by omega)]
      have := (hI.done i (by omega) (by omega)).2.2.1
      omega
    · simp only [if_neg e, if_neg (show i ≠ k by omega)]
      exact hI.asc i j hij (by omega)

/-- What Set returns: a relation of new rows in new blocks. -/
def SetPost (w : World) (xs : List E) (e : Ending) (w' : World) : Prop :=
  ∃ (zs : List E) (bs : Nat → Nat), e = .returned (.slice (some ⟨w.heap.size, 0, none⟩) zs.length xs.length) ∧ zs.length ≤ xs.length ∧ Rel (zs.map (·.2)) ∧ (∀ r, r ∈ zs.map (·.2) ↔ r ∈ xs.map (·.2)) ∧
    LInv w w.heap.size zs zs.length bs w'

set_option maxHeartbeats 1000000 in
theorem vSet_any (v : Value) (xs : List E) (w : World) (h : RowsB w.heap.size w v xs) : Calls Try.prog 14 #[v] w (SetPost w xs) := by
  obtain ⟨a, c, rfl, hn, hx, hi⟩ := h
  have hn' := hn
  -- the new slice
  have hinfo : (Try.prog.info? 25).map (fun i => (i.zero, i.size, i.bytes)) = some (some (.slice none 0 0), 1, 24) := by kernel_rfl
  have hmk := run_make_row' (P := Try.prog) 23 25 (.slice none 0 0) 24 Try.underlying23 hinfo rfl .i64 .i64 xs.length (by omega) (by omega) w
  have hM : (madeCells #[Value.slice none 0 0] xs.length).size = xs.length * 1 := by simp [size_madeCells]
  generalize madeCells #[Value.slice none 0 0] xs.length = M at hmk hM
  have hcp : ∀ ty, (Builtin.copy_ #[23, 23] ty #[.slice (some ⟨w.heap.size, 0, none⟩) xs.length xs.length, .slice a xs.length c]).run Try.prog (w.alloc (.cells M 25 (0, 0))) = .ok (goInt xs.length) (w.alloc (.cells (xs.map (·.1)).toArray 25 (0, 0))) := by
    intro ty
    by_cases h0 : xs.length = 0
    · obtain rfl : xs = [] := List.eq_nil_of_length_eq_zero h0
      have hM0 : M = #[] := by apply Array.eq_empty_of_size_eq_zero; simpa using hM
      subst hM0
      exact run_copy_zero _ _ _ ty 25 1 _ _ _ _ Try.underlying23 info_row
    · obtain ⟨b, o, rfl, hb, _⟩ := hi 0 (by omega)
      refine run_copy_k w _ _ ty 25 25 1 xs.length _ _ ⟨b, o, none⟩ M (xs.map (·.1)) Try.underlying23 info_row (by simp) hM (fun j u hj => ?_) hb (fun u hu => ?_)
      · have ha : (⟨b, o, none⟩ : Addr).add j = ⟨b, o + j, none⟩ := by unfold Addr.add; split <;> simp_all
        rw [ha]
        have hjl : j < xs.length := by have := (List.getElem?_eq_some_iff.1 hj).1; simpa using this
        obtain ⟨b', o', e, _, hc⟩ := hi j hjl
        simp only [Option.some.injEq, Addr.mk.injEq] at e
        obtain ⟨rfl, rfl, _⟩ := e
        rw [hc, ← hj]
        simp [List.getElem?_eq_getElem hjl]
      · rw [List.mem_map] at hu
        obtain ⟨x, hxm, rfl⟩ := hu
        obtain ⟨a', c', e, _⟩ := hx x hxm
        rw [e]; rfl
  -- the world behind the copy
  obtain ⟨W1, hW1⟩ : ∃ W1, W1 = w.alloc (.cells (xs.map (·.1)).toArray 25 (0, 0)) := ⟨_, rfl⟩
  have b1 : Below w.heap.size w W1 := by rw [hW1]; exact (Below.refl _ _).alloc (Nat.le_refl _) _
  have s1 : w.heap.size < W1.heap.size := by rw [hW1]; simp
  have c1 : ∀ j (h : j < xs.length), W1.cell? ⟨w.heap.size, 0 + j, none⟩ = some xs[j].1 ∧ W1.frozen? ⟨w.heap.size, 0 + j, none⟩ = false := by
    intro j hj
    have hcell := World.cell?_alloc_mark w (xs.map (·.1)).toArray 25 (0, 0) (0 + j)
    have hfz := World.frozen?_alloc_mark w (xs.map (·.1)).toArray 25 0 0 (0 + j)
    rw [← hW1] at hcell hfz
    refine ⟨?_, by rw [hfz]; simp⟩
    rw [hcell]
    simp [List.getElem?_eq_getElem hj]
  rw [← hW1] at hcp
  have HS := Lib.hid (sort_any w.heap.size 0 xs.length xs W1 s1 hn (fun x hm => (hx x hm).below b1 (Nat.le_refl _)) c1)
  have HX := Lib.hid hx
  clear hx hi hM hW1 c1 hinfo
  go_enter Try.func14, Try.ntmps14
  go_wp2_with fail
  refine (HS.out).mono ?_
  rintro e w2 ⟨rfl, ys, hperm, hsorted, hb2, hs2, hc2⟩
  have hyl : ys.length = xs.length := hperm.length_eq
  have HC := Lib.hid (compact_any w.heap.size 0 xs.length xs.length (fun j => ys.getD j (.slice none 0 0, [])) w2 hs2 hn (Nat.le_refl _) (by omega)
    (fun j hj => by
      have hj' : j < ys.length := by omega
      simp only [List.getD_eq_getElem?_getD, List.getElem?_eq_getElem hj', Option.getD_some]
      exact (HX.out _ (hperm.mem_iff.1 (List.getElem_mem hj'))).below (b1.trans hb2) (Nat.le_refl _))
    (fun j hj => by
      have hj' : j < ys.length := by omega
      simp only [List.getD_eq_getElem?_getD, List.getElem?_eq_getElem hj', Option.getD_some]
      exact hc2 j hj'))
  have HP : Hid (ys.Perm xs ∧ (∀ i j (hi : i < ys.length) (hj : j < ys.length), i < j → cmpRows ys[i].2 ys[j].2 ≤ 0) ∧ Below w.heap.size w w2) := ⟨hperm, hsorted, b1.trans hb2⟩
  clear hperm hsorted hb2 hc2 hs2 s1 b1 HS hmk hcp
  go_wp2_with fail
  refine (HC.out).mono ?_
  rintro e w3 ⟨rfl, hb3, hs3, hc3, hf3⟩
  have hF : ∀ j, j < xs.length → ∃ y ∈ ys, ys.getD j (.slice none 0 0, []) = y := by
    intro j hj
    have hj' : j < ys.length := by omega
    refine ⟨ys[j], List.getElem_mem hj', ?_⟩
    simp only [List.getD_eq_getElem?_getD, List.getElem?_eq_getElem hj', Option.getD_some]
  have hZ : Hid (Rel ((compN (fun j => ys.getD j (.slice none 0 0, [])) xs.length).map (·.2)) ∧ (∀ r, r ∈ (compN (fun j => ys.getD j (.slice none 0 0, [])) xs.length).map (·.2) ↔ r ∈ xs.map (·.2)) ∧
      (compN (fun j => ys.getD j (.slice none 0 0, [])) xs.length).length ≤ xs.length ∧ ∀ z ∈ compN (fun j => ys.getD j (.slice none 0 0, [])) xs.length, RowB w.heap.size w z.1 z.2) := by
    obtain ⟨hperm, hsorted, _⟩ := HP.out
    refine ⟨rel_compN _ _ (fun i j hij hj => ?_), fun r => ?_, compN_len _ _, fun z hz => ?_⟩
    · have hi' : i < ys.length := by omega
      have hj' : j < ys.length := by omega
      simp only [List.getD_eq_getElem?_getD, List.getElem?_eq_getElem hi', List.getElem?_eq_getElem hj', Option.getD_some]
      exact hsorted i j hi' hj' hij
    · rw [rows_compN]
      have hm : ∀ r, r ∈ ys.map (·.2) ↔ r ∈ xs.map (·.2) := fun r => (hperm.map (·.2)).mem_iff
      rw [← hm]
      constructor
      · rintro ⟨j, hj, e⟩
        obtain ⟨y, hy, e2⟩ := hF j hj
        rw [e2] at e
        exact List.mem_map.2 ⟨y, hy, e⟩
      · intro h
        obtain ⟨y, hy, e⟩ := List.mem_map.1 h
        obtain ⟨j, hj, ej⟩ := List.getElem_of_mem hy
        refine ⟨j, by omega, ?_⟩
        simp only [List.getD_eq_getElem?_getD, List.getElem?_eq_getElem hj, Option.getD_some, ej]
        exact e
    · obtain ⟨j, hj, e⟩ := mem_compN _ _ z hz
      obtain ⟨y, hy, e2⟩ := hF j hj
      rw [e, e2]
      exact HX.out y (hperm.mem_iff.1 hy)
  generalize compN (fun j => ys.getD j (.slice none 0 0, [])) xs.length = zs at hc3 hZ ⊢
  have hzl : zs.length ≤ xs.length := hZ.out.2.2.1
  have HI0 : Hid (LInv w w.heap.size zs 0 (fun _ => 0) w3) :=
    ⟨HP.out.2.2.trans hb3, hs3, fun j _ hj => absurd hj (by omega), fun j hj _ => by have := hc3 j hj; rwa [Nat.zero_add] at this, fun j hj => by have := hf3 j (by omega); rwa [Nat.zero_add] at this, fun i j _ hj => absurd hj (by omega)⟩
  clear hc3 hf3 hb3 hs3 hF HP HC hyl hn'
  go_wp2_with fail
  go_loopw [18] (fun i wr => ∃ (k : Nat) (bs : Nat → Nat), k ≤ zs.length ∧ i = .int .i64 k ∧ Hid (LInv w w.heap.size zs k bs wr)) (fun i _ => zs.length - (intOf i).toNat)
  case atStart => exact ⟨0, _, by omega, rfl, HI0⟩
  case round =>
    clear HI0
    obtain ⟨k, bs, hk, rfl, HI⟩ := hrel
    by_cases hlt : k < zs.length
    · have d1 := HI.out.todo k hlt (Nat.le_refl _)
      have f1 := HI.out.fz k hlt
      have hB := HI.out.hb
      have hr := ((hZ.out.2.2.2 zs[k] (List.getElem_mem hlt)).below HI.out.below (Nat.le_refl _)).at (w := wr) (by omega)
      have hcall := fun W (g : Gr wr W) => vCopyRow_any _ _ W (((hr.b).below g.below (Nat.le_refl _)).at g.below.size)
      have hsl : ∃ a l c, zs[k].1 = .slice a l c := by obtain ⟨a, c, e, _⟩ := hr; exact ⟨a, _, c, e⟩
      have U : Hid (zs[k] = zs[k]) := rfl
      have hstep := fun w' b (hg : Gr wr w') hb hh => HI.out.step (w' := w') (b := b) hlt hg hb hh
      generalize zs[k] = u at d1 hcall hsl hstep
      obtain ⟨u1, u2⟩ := u
      simp only at d1 hcall hsl hstep
      obtain ⟨ua, ul, uc, rfl⟩ := hsl
      have HCALL := Lib.hid (hcall wr (Gr.refl _))
      have HSTEP := Lib.hid hstep
      clear hcall hstep hr U
      go_wp2_with fail
      refine HCALL.out.mono ?_
      rintro e w4 ⟨b, rfl, hb4, hg4, hh4⟩
      obtain ⟨hcl, hfz⟩ := bcell hg4.below
      have hs4 : w.heap.size < w4.heap.size := Nat.lt_of_lt_of_le hB hg4.below.size
      have d4 : w4.cell? ⟨w.heap.size, k, none⟩ = some (.slice ua ul uc) := (hcl _ _ hB).trans d1
      have f4 : w4.frozen? ⟨w.heap.size, k, none⟩ = false := (hfz _ _ hB).trans f1
      have HN := Lib.hid (HSTEP.out w4 b hg4 hb4 hh4)
      clear hcl hfz d1 f1 HSTEP HCALL hh4 hg4 hb4
      go_wp2_with fail
      go_roundw
      case rel => exact ⟨k + 1, _, by omega, by go_num, HN⟩
      case measure => simp [intOf]; omega
    · have hkz : k = zs.length := by omega
      subst hkz
      go_wp2_with fail
      go_ret
      exact ⟨zs, bs, rfl, hzl, hZ.out.1, hZ.out.2.1, HI⟩
end Go.Proofs.Ytkhbephcmcnfjaa
