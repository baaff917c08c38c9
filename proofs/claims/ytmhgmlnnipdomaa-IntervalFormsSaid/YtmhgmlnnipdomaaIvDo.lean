
/- The reference's limited, Do, Union, Intersect, Minus, Complement, Covers. -/
import Derived.Test.YtmhgmlnnipdomaaIvCombine

import Derived.Test.YtmhgmlnnipdomaaIvOps

import Derived.Test.YtmhgmlnnipdomaaIvRefMake

namespace Go.Proofs.Ytmhgmlnnipdomaa

open Go.RowKit Go.Deep

theorem kOf_1 : kOf 1 = kOr := by unfold kOf; rw [if_pos rfl]
theorem kOf_2 : kOf 2 = kAnd := by unfold kOf; rw [if_neg (by decide), if_pos rfl]
theorem kOf_3 : kOf 3 = kNot := by unfold kOf; rw [if_neg (by decide), if_neg (by decide)]

/-- The result of an operation of the reference, and its error. -/
def ResR (k : Bool → Bool → Bool) (A B L : List IV) (er : Int) : Prop :=
  ((vldL A && vldL B) = false ∧ L = [] ∧ er = 30) ∨
  ((vldL A && vldL B) = true ∧ ∃ M, IsOp k A B M ∧ ((M.length ≤ 64 ∧ L = M ∧ er = 0) ∨ (64 < M.length ∧ L = [] ∧ er = 2)))
theorem Res.toR {k : Bool → Bool → Bool} {A B L : List IV} {er : Int} (h : Res k A B L er) : ResR k A B L er := by
  rcases h with h | ⟨h1, M, h2, _, h3⟩
  · exact .inl h
  · exact .inr ⟨h1, M, h2, h3⟩
/-- The program's result and the reference's are the same. -/
theorem Res.same {k : Bool → Bool → Bool} {A B L L' : List IV} {er er' : Int} (h : Res k A B L er) (h' : ResR k A B L' er') : L = L' ∧ er = er' := by
  rcases h with ⟨h1, h2, h3⟩ | ⟨h1, M, h2, _, h3⟩ <;> rcases h' with ⟨g1, g2, g3⟩ | ⟨g1, M', g2, g3⟩
  · exact ⟨by rw [h2, g2], by rw [h3, g3]⟩
  · rw [h1] at g1; simp at g1
  · rw [h1] at g1; simp at g1
  · obtain rfl := h2.uniq g2
    rcases h3 with ⟨a, b, c⟩ | ⟨a, b, c⟩ <;> rcases g3 with ⟨a', b', c'⟩ | ⟨a', b', c'⟩
    · exact ⟨by rw [b, b'], by rw [c, c']⟩
    · omega
    · omega
    · exact ⟨by rw [b, b'], by rw [c, c']⟩
def OpOutR (k : Bool → Bool → Bool) (A B : List IV) (w : World) (e : Ending) (w' : World) : Prop :=
  ∃ v L er, e = .returned (.tuple #[v, .int .i64 er]) ∧ IvsAt (fun b => w.heap.size ≤ b) w' v L ∧ ResR k A B L er ∧ Below w.heap.size w w'

theorem rLimited_any (a : Option Addr) (n c : Nat) (w : World) : Calls Try.prog 67 #[.slice a n c] w fun e w' => w' = w ∧ ((n ≤ 64 ∧ e = .returned (.tuple #[.slice a n c, .int .i64 0])) ∨ (64 < n ∧ e = .returned (.tuple #[.slice none 0 0, .int .i64 2]))) := by
  by_cases h64 : 64 < n
  · have hd : decide ((64 : Int) < n) = true := by simp; omega
    go_enter Try.func67, Try.ntmps67
    go_wp2_with fail
    go_ret2
    exact ⟨rfl, .inr ⟨h64, rfl⟩⟩
  · have hd : decide ((64 : Int) < n) = false := by simp; omega
    go_enter Try.func67, Try.ntmps67
    go_wp2_with fail
    go_ret2
    exact ⟨rfl, .inl ⟨by omega, rfl⟩⟩

set_option maxHeartbeats 1000000 in
theorem rDo_any (op : Int) (ho : op = 1 ∨ op = 2 ∨ op = 3) (va vb : Value) (A B : List IV) (w : World) (ha : Ivs w va A) (hb : Ivs w vb B) :
    Calls Try.prog 52 #[.int .i64 op, va, vb] w (OpOutR (kOf op) A B w) := by
  have HA : Hid (∀ W, Below w.heap.size w W → Calls Try.prog 12 #[va] W fun e w' => e = .returned (.bool (vldL A)) ∧ Below W.heap.size W w') := fun W hb => rValidL_any va A W (ha.below hb)
  have HB : Hid (∀ W, Below w.heap.size w W → Calls Try.prog 12 #[vb] W fun e w' => e = .returned (.bool (vldL B)) ∧ Below W.heap.size W w') := fun W h => rValidL_any vb B W (hb.below h)
  have HM : Hid (∀ W, Below w.heap.size w W → Ord A → Ord B → A.length ≤ 64 → B.length ≤ 64 → Calls Try.prog 39 #[.int .i64 op, va, vb] W (CombPost op A B W)) := fun W h oa ob la lb => rCombine_any op ho va vb A B W (ha.below h) (hb.below h) oa ob (by omega) (by omega)
  obtain ⟨aa, ac, rfl⟩ := ha.shape
  obtain ⟨ba, bc, rfl⟩ := hb.shape
  obtain ⟨na, hna⟩ : ∃ n, A.length = n := ⟨_, rfl⟩
  obtain ⟨nb, hnb⟩ : ∃ n, B.length = n := ⟨_, rfl⟩
  rw [hna] at HA HM ⊢
  rw [hnb] at HB HM ⊢
  clear ha hb
  obtain ⟨x, hx⟩ : ∃ x, vldL A = x := ⟨_, rfl⟩
  obtain ⟨y, hy⟩ : ∃ y, vldL B = y := ⟨_, rfl⟩
  rw [hx] at HA
  rw [hy] at HB
  obtain ⟨kk, hkk⟩ : ∃ kk, kOf op = kk := ⟨_, rfl⟩
  rw [hkk]
  cases x
  · have HR : Hid (ResR kk A B [] 30) := .inl ⟨by rw [hx]; rfl, rfl, rfl⟩
    clear hx hy hna hnb hkk ho
    go_enter Try.func52, Try.ntmps52
    go_wp2_with fail
    refine (HA.out _ (Below.refl _ _)).mono ?_
    rintro e w1 ⟨rfl, hb1⟩
    go_wp2_with fail
    go_ret2
    exact ⟨_, _, _, rfl, IvsAt.nil _ _, HR.out, hb1⟩
  cases y
  · have HR : Hid (ResR kk A B [] 30) := .inl ⟨by rw [hx, hy]; rfl, rfl, rfl⟩
    clear hx hy hna hnb hkk ho
    go_enter Try.func52, Try.ntmps52
    go_wp2_with fail
    refine (HA.out _ (Below.refl _ _)).mono ?_
    rintro e w1 ⟨rfl, hb1⟩
    go_wp2_with fail
    refine (HB.out _ hb1).mono ?_
    rintro e w2 ⟨rfl, hb2⟩
    go_wp2_with fail
    go_ret2
    exact ⟨_, _, _, rfl, IvsAt.nil _ _, HR.out, hb1.trans (hb2.mono hb1.size)⟩
  have hoa := vldL_iff.1 hx
  have hob := vldL_iff.1 hy
  have HV : Hid ((vldL A && vldL B) = true) := by show _ = _; rw [hx, hy]; rfl
  have HKK := Lib.hid hkk
  have HM2 : Hid (∀ W, Below w.heap.size w W → Calls Try.prog 39 #[.int .i64 op, .slice aa na ac, .slice ba nb bc] W (CombPost op A B W)) := fun W h => HM.out W h hoa.2 hob.2 (by omega) (by omega)
  clear hx hy HM hoa hob hna hnb hkk ho
  go_enter Try.func52, Try.ntmps52
  go_wp2_with fail
  refine (HA.out _ (Below.refl _ _)).mono ?_
  rintro e w1 ⟨rfl, hb1⟩
  go_wp2_with fail
  refine (HB.out _ hb1).mono ?_
  rintro e w2 ⟨rfl, hb2⟩
  have hbw2 := hb1.trans (hb2.mono hb1.size)
  go_wp2_with fail
  refine (HM2.out _ hbw2).mono ?_
  rintro e w3 ⟨v, M, rfl, hv, hop, hlen, hb3⟩
  rw [HKK.out] at hop
  obtain ⟨a, c, rfl⟩ := hv.shape
  obtain ⟨n, hn⟩ : ∃ n, M.length = n := ⟨_, rfl⟩
  have HVV := Lib.hid hv
  have HOP := Lib.hid hop
  have HBW : Hid (Below w.heap.size w w3) := hbw2.trans (hb3.mono hbw2.size)
  have HSZ : Hid (w.heap.size ≤ w2.heap.size) := hbw2.size
  have HN := Lib.hid hn
  rw [hn] at HVV ⊢
  clear hv hop hlen hb3 hb2 hbw2 hn hb1
  go_wp2_with fail
  refine (rLimited_any a n c _).mono ?_
  rintro e w4 ⟨rfl, ⟨h64, rfl⟩ | ⟨h64, rfl⟩⟩
  · go_wp2_with fail
    go_ret2
    exact ⟨_, M, _, rfl, HVV.out.lo HSZ.out, .inr ⟨HV.out, M, HOP.out, .inl ⟨by rw [HN.out]; omega, rfl, rfl⟩⟩, HBW.out⟩
  · go_wp2_with fail
    go_ret2
    exact ⟨_, _, _, rfl, IvsAt.nil _ _, .inr ⟨HV.out, M, HOP.out, .inr ⟨by rw [HN.out]; exact h64, rfl, rfl⟩⟩, HBW.out⟩

set_option maxHeartbeats 400000 in
theorem rUnion_any (va vb : Value) (A B : List IV) (w : World) (ha : Ivs w va A) (hb : Ivs w vb B) : Calls Try.prog 23 #[va, vb] w (OpOutR kOr A B w) := by
  have h0 := rDo_any 1 (by decide) va vb A B w ha hb
  rw [kOf_1] at h0
  have H := Lib.hid h0
  obtain ⟨aa, ac, rfl⟩ := ha.shape
  obtain ⟨ba, bc, rfl⟩ := hb.shape
  clear ha hb h0
  go_enter Try.func23, Try.ntmps23
  go_wp2_with fail
  refine H.out.mono ?_
  rintro e w1 ⟨v, L, er, rfl, hv, hr, hb⟩
  obtain ⟨a, c, rfl⟩ := hv.shape
  go_wp2_with fail
  go_ret2
  exact ⟨_, _, _, rfl, hv, hr, hb⟩

set_option maxHeartbeats 400000 in
theorem rIntersect_any (va vb : Value) (A B : List IV) (w : World) (ha : Ivs w va A) (hb : Ivs w vb B) : Calls Try.prog 25 #[va, vb] w (OpOutR kAnd A B w) := by
  have h0 := rDo_any 2 (by decide) va vb A B w ha hb
  rw [kOf_2] at h0
  have H := Lib.hid h0
  obtain ⟨aa, ac, rfl⟩ := ha.shape
  obtain ⟨ba, bc, rfl⟩ := hb.shape
  clear ha hb h0
  go_enter Try.func25, Try.ntmps25
  go_wp2_with fail
  refine H.out.mono ?_
  rintro e w1 ⟨v, L, er, rfl, hv, hr, hb⟩
  obtain ⟨a, c, rfl⟩ := hv.shape
  go_wp2_with fail
  go_ret2
  exact ⟨_, _, _, rfl, hv, hr, hb⟩

set_option maxHeartbeats 400000 in
theorem rMinus_any (va vb : Value) (A B : List IV) (w : World) (ha : Ivs w va A) (hb : Ivs w vb B) : Calls Try.prog 27 #[va, vb] w (OpOutR kNot A B w) := by
  have h0 := rDo_any 3 (by decide) va vb A B w ha hb
  rw [kOf_3] at h0
  have H := Lib.hid h0
  obtain ⟨aa, ac, rfl⟩ := ha.shape
  obtain ⟨ba, bc, rfl⟩ := hb.shape
  clear ha hb h0
  go_enter Try.func27, Try.ntmps27
  go_wp2_with fail
  refine H.out.mono ?_
  rintro e w1 ⟨v, L, er, rfl, hv, hr, hb⟩
  obtain ⟨a, c, rfl⟩ := hv.shape
  go_wp2_with fail
  go_ret2
  exact ⟨_, _, _, rfl, hv, hr, hb⟩

set_option maxHeartbeats 400000 in
theorem rComplement_any (va : Value) (A : List IV) (w : World) (ha : Ivs w va A) : Calls Try.prog 20 #[va] w (OpOutR kNot allL A w) := by
  have H := Lib.hid (rAll_any w)
  have HM : Hid (∀ vb W, Below w.heap.size w W → Ivs W vb allL → Calls Try.prog 52 #[.int .i64 3, vb, va] W (OpOutR kNot allL A W)) := fun vb W h hv => by
    have h0 := rDo_any 3 (by decide) vb va allL A W hv (ha.below h)
    rw [kOf_3] at h0
    exact h0
  obtain ⟨aa, ac, rfl⟩ := ha.shape
  clear ha
  go_enter Try.func20, Try.ntmps20
  go_wp2_with fail
  refine H.out.mono ?_
  rintro e w1 ⟨v, rfl, hv, hb⟩
  have HM1 := Lib.hid (HM.out v w1 hb hv.all)
  obtain ⟨a, c, rfl⟩ := hv.shape
  have hs := hb.size
  clear HM hv
  go_wp2_with fail
  refine HM1.out.mono ?_
  rintro e w2 ⟨v, L, er, rfl, hv, hr, hb2⟩
  obtain ⟨a, c, rfl⟩ := hv.shape
  go_wp2_with fail
  go_ret2
  exact ⟨_, _, _, rfl, hv.lo hs, hr, hb.trans (hb2.mono hs)⟩

set_option maxHeartbeats 1000000 in
theorem rCovers_any (va vb : Value) (A B : List IV) (w : World) (ha : Ivs w va A) (hb : Ivs w vb B) : Calls Try.prog 29 #[va, vb] w fun e w' => ∃ r er, e = .returned (.tuple #[.bool r, .int .i64 er]) ∧ CovRes A B r er ∧ Below w.heap.size w w' := by
  have HA : Hid (∀ W, Below w.heap.size w W → Calls Try.prog 12 #[va] W fun e w' => e = .returned (.bool (vldL A)) ∧ Below W.heap.size W w') := fun W hb => rValidL_any va A W (ha.below hb)
  have HB : Hid (∀ W, Below w.heap.size w W → Calls Try.prog 12 #[vb] W fun e w' => e = .returned (.bool (vldL B)) ∧ Below W.heap.size W w') := fun W h => rValidL_any vb B W (hb.below h)
  have HM : Hid (∀ W, Below w.heap.size w W → Ord A → Ord B → A.length ≤ 64 → B.length ≤ 64 → Calls Try.prog 39 #[.int .i64 3, vb, va] W (CombPost 3 B A W)) := fun W h oa ob la lb => rCombine_any 3 (by decide) vb va B A W (hb.below h) (ha.below h) ob oa (by omega) (by omega)
  obtain ⟨aa, ac, rfl⟩ := ha.shape
  obtain ⟨ba, bc, rfl⟩ := hb.shape
  obtain ⟨na, hna⟩ : ∃ n, A.length = n := ⟨_, rfl⟩
  obtain ⟨nb, hnb⟩ : ∃ n, B.length = n := ⟨_, rfl⟩
  rw [hna] at HA HM ⊢
  rw [hnb] at HB HM ⊢
  obtain ⟨x, hx⟩ : ∃ x, vldL A = x := ⟨_, rfl⟩
  obtain ⟨y, hy⟩ : ∃ y, vldL B = y := ⟨_, rfl⟩
  rw [hx] at HA
  rw [hy] at HB
  cases x
  · have HR : Hid (CovRes A B false 30) := .inl ⟨by rw [hx]; rfl, rfl, rfl⟩
    clear hx hy ha hb hna hnb
    go_enter Try.func29, Try.ntmps29
    go_wp2_with fail
    refine (HA.out _ (Below.refl _ _)).mono ?_
    rintro e w1 ⟨rfl, hb1⟩
    go_wp2_with fail
    go_ret2
    exact ⟨_, _, rfl, HR.out, hb1⟩
  cases y
  · have HR : Hid (CovRes A B false 30) := .inl ⟨by rw [hx, hy]; rfl, rfl, rfl⟩
    clear hx hy ha hb hna hnb
    go_enter Try.func29, Try.ntmps29
    go_wp2_with fail
    refine (HA.out _ (Below.refl _ _)).mono ?_
    rintro e w1 ⟨rfl, hb1⟩
    go_wp2_with fail
    refine (HB.out _ hb1).mono ?_
    rintro e w2 ⟨rfl, hb2⟩
    go_wp2_with fail
    go_ret2
    exact ⟨_, _, rfl, HR.out, hb1.trans (hb2.mono hb1.size)⟩
  have hoa := vldL_iff.1 hx
  have hob := vldL_iff.1 hy
  have HV : Hid ((vldL A && vldL B) = true) := by show _ = _; rw [hx, hy]; rfl
  have HM2 : Hid (∀ W, Below w.heap.size w W → Calls Try.prog 39 #[.int .i64 3, .slice ba nb bc, .slice aa na ac] W (CombPost 3 B A W)) := fun W h => HM.out W h hoa.2 hob.2 (by omega) (by omega)
  clear hx hy HM hoa hob ha hb hna hnb
  go_enter Try.func29, Try.ntmps29
  go_wp2_with fail
  refine (HA.out _ (Below.refl _ _)).mono ?_
  rintro e w1 ⟨rfl, hb1⟩
  go_wp2_with fail
  refine (HB.out _ hb1).mono ?_
  rintro e w2 ⟨rfl, hb2⟩
  have hbw2 := hb1.trans (hb2.mono hb1.size)
  go_wp2_with fail
  refine (HM2.out _ hbw2).mono ?_
  rintro e w3 ⟨v, M, rfl, hv, hop, hlen, hb3⟩
  rw [kOf_3] at hop
  obtain ⟨a, c, rfl⟩ := hv.shape
  obtain ⟨n, hn⟩ : ∃ n, M.length = n := ⟨_, rfl⟩
  have HR : Hid (CovRes A B (decide (n = 0)) 0) := .inr ⟨HV.out, rfl, M, hop, by rw [hn]⟩
  have HBW : Hid (Below w.heap.size w w3) := hbw2.trans (hb3.mono hbw2.size)
  have e0 : ((n : Int) == 0) = decide (n = 0) := by rw [Bool.eq_iff_iff]; simp only [beq_iff_eq, decide_eq_true_eq]; omega
  rw [hn]
  generalize decide (n = 0) = z at e0 HR
  clear hv hop hlen hb3 hb2 hbw2 hn hb1
  go_wp2_with fail
  go_ret2
  exact ⟨_, _, rfl, HR.out, HBW.out⟩
end Go.Proofs.Ytmhgmlnnipdomaa
