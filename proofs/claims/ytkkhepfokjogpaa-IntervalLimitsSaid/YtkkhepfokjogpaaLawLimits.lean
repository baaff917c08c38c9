/- Law IntervalLimits. -/
import Derived.Test.YtkkhepfokjogpaaIvBegun
import Derived.Deep.LoopGhost
namespace Go.Proofs.Ytkkhepfokjogpaa
open Go.RowKit Go.Deep

/-- j intervals [m i + d, m i + d + 1). -/
def stepL (m d : Int) (j : Nat) : List IV := (List.range j).map fun (i : Nat) => ⟨nV (m * (i : Int) + d), nV (m * (i : Int) + d + 1), false⟩
theorem length_stepL (m d : Int) (j : Nat) : (stepL m d j).length = j := by simp [stepL]
theorem stepL_succ (m d : Int) (j : Nat) : stepL m d (j + 1) = stepL m d j ++ [⟨nV (m * (j : Int) + d), nV (m * (j : Int) + d + 1), false⟩] := by simp [stepL, List.range_succ]
theorem stepL_ord {m d : Int} (hm : 2 ≤ m) (j : Nat) : Ord (stepL m d j) := by
  refine ⟨fun x hx => ?_, ?_⟩
  · obtain ⟨i, _, rfl⟩ := List.mem_map.1 hx
    exact okI_nV (by omega)
  · unfold stepL
    rw [List.pairwise_map]
    refine (List.pairwise_lt_range (n := j)).imp fun {a b} h => ⟨rfl, cmp_nV_lt.2 ?_⟩
    have h1 : (a : Int) + 1 ≤ b := by omega
    have h2 : m * ((a : Int) + 1) ≤ m * b := Int.mul_le_mul_of_nonneg_left h1 (by omega)
    rw [Int.mul_add, Int.mul_one] at h2
    omega
theorem stepL_mem (j : Nat) (v : V) : inL (stepL 2 0 (2 * j)) v = (inL (stepL 4 0 j) v || inL (stepL 4 2 j) v) := by
  induction j with
  | zero => rfl
  | succ j ih =>
    rw [show 2 * (j + 1) = 2 * j + 1 + 1 by omega, stepL_succ, stepL_succ, stepL_succ, stepL_succ, inL_snoc, inL_snoc, inL_snoc, inL_snoc, ih]
    have e1 : (2 : Int) * ((2 * j : Nat) : Int) + 0 = 4 * (j : Int) + 0 := by push_cast; omega
    have e2 : (2 : Int) * ((2 * j + 1 : Nat) : Int) + 0 = 4 * (j : Int) + 2 := by push_cast; omega
    rw [e1, e2]
    cases inL (stepL 4 0 j) v <;> cases inL (stepL 4 2 j) v <;> simp
theorem stepL_op (j : Nat) : IsOp kOr (stepL 4 0 j) (stepL 4 2 j) (stepL 2 0 (2 * j)) := ⟨stepL_ord (by omega) _, fun v _ => stepL_mem j v⟩
theorem limits_res {j : Nat} (hj : j ≤ 64) {L : List IV} {er : Int} (h : Res kOr (stepL 4 0 j) (stepL 4 2 j) L er) : (2 * j ≤ 64 → L.length = 2 * j ∧ er = 0) ∧ (64 < 2 * j → L.length = 0 ∧ er = 2) := by
  have hv : (vldL (stepL 4 0 j) && vldL (stepL 4 2 j)) = true := by
    rw [vldL_iff.2 ⟨by rw [length_stepL]; exact hj, stepL_ord (by omega) _⟩, vldL_iff.2 ⟨by rw [length_stepL]; exact hj, stepL_ord (by omega) _⟩]; rfl
  rcases h with ⟨h1, _⟩ | ⟨_, M, h2, _, h3⟩
  · rw [hv] at h1; simp at h1
  · obtain rfl := h2.uniq (stepL_op j)
    rw [length_stepL] at h3
    rcases h3 with ⟨a, rfl, rfl⟩ | ⟨a, rfl, rfl⟩
    · exact ⟨fun _ => ⟨length_stepL _ _ _, rfl⟩, fun _ => by omega⟩
    · exact ⟨fun _ => by omega, fun _ => ⟨rfl, rfl⟩⟩
/-- The two rows are not one: their second cells differ. -/
theorem rows_apart {w : World} {base : Nat} {va vb : Value} {i j : Nat} (ha : w.ownsRow base 55 7 va i (ivCells (stepL 4 0 i))) (hb : w.ownsRow base 55 7 vb j (ivCells (stepL 4 2 j))) (hi : 0 < i) (hj : 0 < j) : va.ownBlock ≠ vb.ownBlock := by
  obtain ⟨ga, ca, rfl, ha⟩ := own_some hi ha
  obtain ⟨gb, cb, rfl, hb⟩ := own_some hj hb
  intro e
  simp only [Value.ownBlock, Option.some.injEq] at e
  subst e
  have h1 := ha.cellAt 1 (by omega)
  have h2 := hb.cellAt 1 (by omega)
  rw [h1] at h2
  have k1 : (ivCells (stepL 4 0 i))[1]? = some (.int .i64 0) := by
    have := ivCells_at (stepL 4 0 i) 0 (by rw [length_stepL]; exact hi) 1 (by omega)
    simpa [stepL, IV.cells, nV] using this
  have k2 : (ivCells (stepL 4 2 j))[1]? = some (.int .i64 2) := by
    have := ivCells_at (stepL 4 2 j) 0 (by rw [length_stepL]; exact hj) 1 (by omega)
    simpa [stepL, IV.cells, nV] using this
  rw [k1, k2] at h2
  simp at h2

/-- What the loop of the law holds. -/
structure KL (w : World) (va vb : Value) (j : Nat) (wr : World) : Prop where
  a : wr.ownsRow w.heap.size 55 7 va j (ivCells (stepL 4 0 j))
  b : wr.ownsRow w.heap.size 55 7 vb j (ivCells (stepL 4 2 j))
  below : Below w.heap.size w wr
  nil : j = 0 → va = .slice none 0 0 ∧ vb = .slice none 0 0
theorem KL.keepB {w : World} {va vb : Value} {j : Nat} {wr : World} (h : KL w va vb j wr) : vb.ownBlock = none ∨ vb.ownBlock ≠ va.ownBlock := by
  rcases Nat.eq_zero_or_pos j with h0 | h0
  · exact .inl (by rw [(h.nil h0).2]; rfl)
  · exact .inr (fun e => rows_apart h.a h.b h0 h0 e.symm)

theorem KL.step {w wr wa wb : World} {va vb va' vb' : Value} {j : Nat} {O1 O2 : Obj} (h : KL w va vb j wr)
    (hoa : wa.ownsRow w.heap.size 55 7 va' (j + 1) (ivCells (stepL 4 0 j) ++ [.int .i64 4, .int .i64 (4 * (j : Int)), .string ⟨#[]⟩, .int .i64 4, .int .i64 (4 * (j : Int) + 1), .string ⟨#[]⟩, .bool false])) (hga : (wr.alloc O1).grownBy wa va.ownBlock)
    (hob : wb.ownsRow w.heap.size 55 7 vb' (j + 1) (ivCells (stepL 4 2 j) ++ [.int .i64 4, .int .i64 (4 * (j : Int) + 2), .string ⟨#[]⟩, .int .i64 4, .int .i64 (4 * (j : Int) + 3), .string ⟨#[]⟩, .bool false])) (hgb : (wa.alloc O2).grownBy wb vb.ownBlock) : KL w va' vb' (j + 1) wb := by
  have ea : ivCells (stepL 4 0 (j + 1)) = ivCells (stepL 4 0 j) ++ [.int .i64 4, .int .i64 (4 * (j : Int)), .string ⟨#[]⟩, .int .i64 4, .int .i64 (4 * (j : Int) + 1), .string ⟨#[]⟩, .bool false] := by
    rw [stepL_succ, ivCells_snoc]; simp [IV.cells, nV]
  have eb : ivCells (stepL 4 2 (j + 1)) = ivCells (stepL 4 2 j) ++ [.int .i64 4, .int .i64 (4 * (j : Int) + 2), .string ⟨#[]⟩, .int .i64 4, .int .i64 (4 * (j : Int) + 3), .string ⟨#[]⟩, .bool false] := by
    rw [stepL_succ, ivCells_snoc]; simp [IV.cells, nV]; omega
  rw [← ea] at hoa
  rw [← eb] at hob
  have hka := h.a.lt
  have hkb := h.b.lt
  have hbw := (h.b.alloc O1).kept hga h.keepB
  have hba : Below w.heap.size w wa := (h.below.alloc h.below.size O1).grown hga (by have := h.below.size; simp only [World.size_alloc]; omega) (fun k e => (hka k e).1)
  have hne : va'.ownBlock = none ∨ va'.ownBlock ≠ vb.ownBlock := by
    rcases Nat.eq_zero_or_pos j with h0 | h0
    · have hn : vb.ownBlock = none := by rw [(h.nil h0).2]; rfl
      by_cases hv : va'.ownBlock = none
      · exact .inl hv
      · exact .inr (by rw [hn]; exact hv)
    · exact .inr (rows_apart hoa hbw (by omega) h0)
  exact ⟨(hoa.alloc O2).kept hgb hne, hob, (hba.alloc hba.size O2).grown hgb (by have := hba.size; simp only [World.size_alloc]; omega) (fun k e => (hkb k e).1), fun e => by omega⟩

set_option maxRecDepth 100000 in
set_option maxHeartbeats 4000000 in
theorem limits_walk (n : Nat) (w : World) (hn : n ≤ 255) : Calls Try.prog 9 #[.int .u8 n] w fun e w' => e = .returned (.bool true) ∧ Below w.heap.size w w' := by
  have hinfo : (Try.prog.info? 55).map (fun i => (i.zero, i.size, i.bytes)) = some (some (.agg #[.int .i64 0, .int .i64 0, .string ⟨#[]⟩, .int .i64 0, .int .i64 0, .string ⟨#[]⟩, .bool false]), 7, 72) := by kernel_rfl
  obtain ⟨i0, hi, hz0, hz1, hz2⟩ := info_parts hinfo
  have HI := Lib.hid hi
  have HZ0 := Lib.hid hz0
  have HZ1 := Lib.hid hz1
  have HZ2 := Lib.hid hz2
  clear hi hz0 hz1 hz2 hinfo
  obtain ⟨kk, hkk⟩ : ∃ kk : Nat, kk = 28 + n % 10 := ⟨_, rfl⟩
  have q0 : IntKind.i64.wrap (n : Int) = n := by rw [IntKind.wrap_i64]; omega
  have q1 : Int.tmod (n : Int) 10 = ((n % 10 : Nat) : Int) := by rw [Int.tmod_eq_emod_of_nonneg (by omega)]; omega
  obtain ⟨r, hr⟩ : ∃ r, n % 10 = r := ⟨_, rfl⟩
  rw [hr] at q1 hkk
  have q2 : IntKind.i64.wrap (r : Int) = r := by rw [IntKind.wrap_i64]; omega
  have q3 : (28 : Int) + r = kk := by omega
  have q4 : IntKind.i64.wrap ((28 : Int) + r) = kk := by rw [q3, IntKind.wrap_i64]; omega
  have q5 : (n : Int) % 10 = r := by omega
  have hk37 : kk ≤ 37 := by omega
  have hk28 : 28 ≤ kk := by omega
  clear hkk
  have HU : Hid (∀ va vb W, Ivs W va (stepL 4 0 kk) → Ivs W vb (stepL 4 2 kk) → Calls Try.prog 34 #[va, vb] W (OpOut kOr (stepL 4 0 kk) (stepL 4 2 kk) W)) := fun va vb W h1 h2 => iUnion_any va vb _ _ W h1 h2
  have HB : Hid (∀ W, Calls Try.prog 20 #[] W fun e w' => e = .returned (.bool true) ∧ Below W.heap.size W w') := begun3_any
  go_enter Try.func9, Try.ntmps9
  go_wp2_with fail
  clear q0 q1 q2 q3 q4 q5 hr
  go_loopw [3, 4, 6] (fun va vb i wr => ∃ j : Nat, j ≤ kk ∧ i = .int .i64 j ∧ Hid (KL w va vb j wr)) (fun _ _ i _ => kk - (intOf i).toNat)
  case atStart => exact ⟨0, by omega, rfl, ⟨⟨by simp [ivCells, stepL], .inl ⟨rfl, rfl⟩⟩, ⟨by simp [ivCells, stepL], .inl ⟨rfl, rfl⟩⟩, Below.refl _ _, fun _ => ⟨rfl, rfl⟩⟩⟩
  case round =>
    obtain ⟨j, hj, rfl, HK⟩ := hrel
    obtain ⟨a0, c0, rfl⟩ := own_slice HK.out.a
    obtain ⟨b0, d0, rfl⟩ := own_slice HK.out.b
    by_cases hlt : j < kk
    · have w1 : IntKind.i64.wrap (4 * (j : Int)) = 4 * j := by rw [IntKind.wrap_i64]; omega
      have w2 : IntKind.i64.wrap (4 * (j : Int) + 1) = 4 * j + 1 := by rw [IntKind.wrap_i64]; omega
      have w3 : IntKind.i64.wrap (4 * (j : Int) + 2) = 4 * j + 2 := by rw [IntKind.wrap_i64]; omega
      have w4 : IntKind.i64.wrap (4 * (j : Int) + 3) = 4 * j + 3 := by rw [IntKind.wrap_i64]; omega
      have w5 : IntKind.i64.wrap ((j : Int) + 1) = j + 1 := by rw [IntKind.wrap_i64]; omega
      have A1 : Hid (j + 1 ≤ maxLen) := by show _ ≤ _; unfold maxLen; omega
      have A2 : Hid ((j + 1) * 72 ≤ 140737488355328) := by show _ ≤ _; omega
      have A4 : Hid (∀ (W : World) (x y : Int) t (i : Nat) (u : Value), ([.int .i64 4, .int .i64 x, .string ⟨#[]⟩, .int .i64 4, .int .i64 y, .string ⟨#[]⟩, .bool false] : List Value)[i]? = some u → (W.alloc (.cells #[.int .i64 4, .int .i64 x, .string ⟨#[]⟩, .int .i64 4, .int .i64 y, .string ⟨#[]⟩, .bool false] t)).cell? ((⟨W.heap.size, 0, none⟩ : Addr).add i) = some u) := by
        intro W x y t i u hj
        have ha : (⟨W.heap.size, 0, none⟩ : Addr).add i = ⟨W.heap.size, i, none⟩ := by unfold Addr.add; split <;> simp_all
        rw [ha]
        refine (World.cell?_alloc_mark W #[.int .i64 4, .int .i64 x, .string ⟨#[]⟩, .int .i64 4, .int .i64 y, .string ⟨#[]⟩, .bool false] t (0, 0) i).trans ?_
        rw [← hj]; simp
      have A5 : Hid (∀ (x y : Int), ∀ u ∈ ([.int .i64 4, .int .i64 x, .string ⟨#[]⟩, .int .i64 4, .int .i64 y, .string ⟨#[]⟩, .bool false] : List Value), u.oneCell' = true) := by
        intro x y u hu
        simp only [List.mem_cons, List.not_mem_nil, or_false] at hu
        rcases hu with rfl | rfl | rfl | rfl | rfl | rfl | rfl <;> rfl
      have hws : w.heap.size ≤ wr.heap.size := HK.out.below.size
      have HOA : Hid (∀ O, (wr.alloc O).ownsRow w.heap.size 55 7 (.slice a0 j c0) j (ivCells (stepL 4 0 j))) := fun O => HK.out.a.alloc O
      go_wp2_with (first | (at_builtin; refine wpList_append_own _ (by rfl) _ _ 23 (by rfl) w.heap.size 55 i0 (.agg #[.int .i64 0, .int .i64 0, .string ⟨#[]⟩, .int .i64 0, .int .i64 0, .string ⟨#[]⟩, .bool false]) 7 72 Try.underlying23 HI.out HZ0.out HZ1.out HZ2.out rfl (by decide) (.slice b0 j d0) j (ivCells (stepL 4 2 j)) (by rfl) (HOB.out _) ⟨wa.heap.size, 0, none⟩ 1 1 [.int .i64 4, .int .i64 (4 * (j : Int) + 2), .string ⟨#[]⟩, .int .i64 4, .int .i64 (4 * (j : Int) + 3), .string ⟨#[]⟩, .bool false] (by rfl) (by rfl) (A4.out _ _ _ _) (A5.out _ _) A1.out A2.out (HSB.out _) ?_; intro vb' wb hownb hgrb _; have HOWB := Lib.hid hownb; have HGRB := Lib.hid hgrb; clear hownb hgrb) | (at_builtin; refine wpList_append_own _ (by rfl) _ _ 23 (by rfl) w.heap.size 55 i0 (.agg #[.int .i64 0, .int .i64 0, .string ⟨#[]⟩, .int .i64 0, .int .i64 0, .string ⟨#[]⟩, .bool false]) 7 72 Try.underlying23 HI.out HZ0.out HZ1.out HZ2.out rfl (by decide) (.slice a0 j c0) j (ivCells (stepL 4 0 j)) (by rfl) (HOA.out _) ⟨wr.heap.size, 0, none⟩ 1 1 [.int .i64 4, .int .i64 (4 * (j : Int)), .string ⟨#[]⟩, .int .i64 4, .int .i64 (4 * (j : Int) + 1), .string ⟨#[]⟩, .bool false] (by rfl) (by rfl) (A4.out _ _ _ _) (A5.out _ _) A1.out A2.out (by simp only [World.size_alloc]; omega) ?_; intro va' wa howna hgra _; have HOWA := Lib.hid howna; have HGRA := Lib.hid hgra; have HSB : Hid (∀ O : Obj, w.heap.size ≤ (wa.alloc O).heap.size) := (fun O => by have := hgra.size; simp only [World.size_alloc] at this ⊢; omega); have HOB : Hid (∀ O, (wa.alloc O).ownsRow w.heap.size 55 7 (.slice b0 j d0) j (ivCells (stepL 4 2 j))) := (fun O => ((HK.out.b.alloc _).kept hgra HK.out.keepB).alloc O); clear howna hgra))
      go_roundw
      case measure => simp [intOf]; omega
      case rel => exact ⟨j + 1, by omega, by go_num, HK.out.step HOWA.out HGRA.out HOWB.out HGRB.out⟩
    · obtain rfl : j = kk := by omega
      clear hlt
      go_wp2_with fail
      have hA : wr.ownsRow w.heap.size 55 7 (.slice a0 j c0) (stepL 4 0 j).length (ivCells (stepL 4 0 j)) := by rw [length_stepL]; exact HK.out.a
      have hB : wr.ownsRow w.heap.size 55 7 (.slice b0 j d0) (stepL 4 2 j).length (ivCells (stepL 4 2 j)) := by rw [length_stepL]; exact HK.out.b
      refine (HU.out _ _ wr (ivs_own hA (by rw [length_stepL]; omega)).all (ivs_own hB (by rw [length_stepL]; omega)).all).mono ?_
      rintro e w2 ⟨v, L, er, rfl, hv, hr, hb2⟩
      obtain ⟨a, c, rfl⟩ := hv.shape
      have hl := limits_res (by omega) hr
      have hbw : Below w.heap.size w w2 := HK.out.below.trans (hb2.mono HK.out.below.size)
      have m1 : IntKind.i64.wrap (2 * (j : Int)) = 2 * j := by rw [IntKind.wrap_i64]; omega
      clear hA hB hv hr hb2 HU
      obtain ⟨nl, hnl⟩ : ∃ n, L.length = n := ⟨_, rfl⟩
      rw [hnl] at hl ⊢
      clear hnl
      by_cases h64 : 64 < 2 * j
      · obtain ⟨rfl, rfl⟩ := hl.2 h64
        have hd : decide ((64 : Int) < 2 * (j : Int)) = true := by simp; omega
        clear hl
        go_wp2_with fail
        refine (HB.out _).mono ?_
        rintro e w3 ⟨rfl, hb3⟩
        go_wp2_with fail
        go_ret
        exact ⟨rfl, hbw.trans (hb3.mono hbw.size)⟩
      · obtain ⟨rfl, rfl⟩ := hl.1 (by omega)
        have hd : decide ((64 : Int) < 2 * (j : Int)) = false := by simp; omega
        have he : (((2 * j : Nat) : Int) == 2 * (j : Int)) = true := by rw [beq_iff_eq]; push_cast; rfl
        clear hl
        go_wp2_with fail
        refine (HB.out _).mono ?_
        rintro e w3 ⟨rfl, hb3⟩
        go_wp2_with fail
        go_ret
        exact ⟨rfl, hbw.trans (hb3.mono hbw.size)⟩
end Go.Proofs.Ytkkhepfokjogpaa
