
/- interval.operate, Union, Intersect, Minus, Complement, Covers. -/
import Derived.Test.YtmhgmlnnipdomaaIvMergeOr

import Derived.Test.YtmhgmlnnipdomaaIvMergeAnd

import Derived.Test.YtmhgmlnnipdomaaIvMergeNot

import Derived.Test.YtmhgmlnnipdomaaIvHas

namespace Go.Proofs.Ytmhgmlnnipdomaa

open Go.RowKit Go.Deep

abbrev kOr : Bool → Bool → Bool := fun x y => x || y
abbrev kAnd : Bool → Bool → Bool := fun x y => x && y
abbrev kNot : Bool → Bool → Bool := fun x y => x && !y
/-- The result of an operation, and its error. -/
def Res (k : Bool → Bool → Bool) (A B L : List IV) (er : Int) : Prop :=
  ((vldL A && vldL B) = false ∧ L = [] ∧ er = 30) ∨
  ((vldL A && vldL B) = true ∧ ∃ M, IsOp k A B M ∧ M.length ≤ A.length + B.length ∧ ((M.length ≤ 64 ∧ L = M ∧ er = 0) ∨ (64 < M.length ∧ L = [] ∧ er = 2)))
theorem Res.uniq {k : Bool → Bool → Bool} {A B L L' : List IV} {er er' : Int} (h : Res k A B L er) (h' : Res k A B L' er') : L = L' ∧ er = er' := by
  rcases h with ⟨h1, h2, h3⟩ | ⟨h1, M, h2, _, h3⟩ <;> rcases h' with ⟨g1, g2, g3⟩ | ⟨g1, M', g2, _, g3⟩
  · exact ⟨by rw [h2, g2], by rw [h3, g3]⟩
  · rw [h1] at g1; simp at g1
  · rw [h1] at g1; simp at g1
  · obtain rfl := h2.uniq g2
    rcases h3 with ⟨a, b, c⟩ | ⟨a, b, c⟩ <;> rcases g3 with ⟨a', b', c'⟩ | ⟨a', b', c'⟩
    · exact ⟨by rw [b, b'], by rw [c, c']⟩
    · omega
    · omega
    · exact ⟨by rw [b, b'], by rw [c, c']⟩
theorem vldL_iff {L : List IV} : vldL L = true ↔ L.length ≤ 64 ∧ Ord L := by unfold vldL; rw [Bool.and_eq_true, decide_eq_true_eq, ordL_iff]

def OpOut (k : Bool → Bool → Bool) (A B : List IV) (w : World) (e : Ending) (w' : World) : Prop :=
  ∃ v L er, e = .returned (.tuple #[v, .int .i64 er]) ∧ IvsAt (fun b => w.heap.size ≤ b) w' v L ∧ Res k A B L er ∧ Below w.heap.size w w'

set_option maxHeartbeats 1000000 in
theorem iOperate_any (kf : Nat) (k : Bool → Bool → Bool) (va vb : Value) (A B : List IV) (w : World) (ha : Ivs w va A) (hb : Ivs w vb B)
    (hm : ∀ W, Below w.heap.size w W → Ord A → Ord B → A.length ≤ 64 → B.length ≤ 64 → Calls Try.prog 57 #[va, vb, .func (.func kf) #[] #[]] W (MergePost k A B W)) :
    Calls Try.prog 53 #[va, vb, .func (.func kf) #[] #[]] w (OpOut k A B w) := by
  have HA : Hid (∀ W, Below w.heap.size w W → Calls Try.prog 11 #[va] W fun e w' => e = .returned (.bool (vldL A)) ∧ Below W.heap.size W w') := fun W hb => iValid_any va A W (ha.below hb)
  have HB : Hid (∀ W, Below w.heap.size w W → Calls Try.prog 11 #[vb] W fun e w' => e = .returned (.bool (vldL B)) ∧ Below W.heap.size W w') := fun W h => iValid_any vb B W (hb.below h)
  have HM := Lib.hid hm
  obtain ⟨aa, ac, rfl⟩ := ha.shape
  obtain ⟨ba, bc, rfl⟩ := hb.shape
  obtain ⟨na, hna⟩ : ∃ n, A.length = n := ⟨_, rfl⟩
  obtain ⟨nb, hnb⟩ : ∃ n, B.length = n := ⟨_, rfl⟩
  rw [hna] at HA HM ⊢
  rw [hnb] at HB HM ⊢
  clear ha hb hm
  obtain ⟨x, hx⟩ : ∃ x, vldL A = x := ⟨_, rfl⟩
  obtain ⟨y, hy⟩ : ∃ y, vldL B = y := ⟨_, rfl⟩
  rw [hx] at HA
  rw [hy] at HB
  cases x
  · have HR : Hid (Res k A B [] 30) := .inl ⟨by rw [hx]; rfl, rfl, rfl⟩
    clear hx hy hna hnb
    go_enter Try.func53, Try.ntmps53
    go_wp2_with fail
    refine (HA.out _ (Below.refl _ _)).mono ?_
    rintro e w1 ⟨rfl, hb1⟩
    go_wp2_with fail
    go_ret2
    exact ⟨_, _, _, rfl, IvsAt.nil _ _, HR.out, hb1⟩
  cases y
  · have HR : Hid (Res k A B [] 30) := .inl ⟨by rw [hx, hy]; rfl, rfl, rfl⟩
    clear hx hy hna hnb
    go_enter Try.func53, Try.ntmps53
    go_wp2_with fail
    refine (HA.out _ (Below.refl _ _)).mono ?_
    rintro e w1 ⟨rfl, hb1⟩
    go_wp2_with fail
    refine (HB.out _ hb1).mono ?_
    rintro e w2 ⟨rfl, hb2⟩
    go_wp2_with fail
    go_ret2
    exact ⟨_, _, _, rfl, IvsAt.nil _ _, HR.out, hb1.trans (hb2.mono hb1.size)⟩
  have hoa := vldL_iff.1 hx
  have hob := vldL_iff.1 hy
  have HV : Hid ((vldL A && vldL B) = true) := by show _ = _; rw [hx, hy]; rfl
  have HM2 : Hid (∀ W, Below w.heap.size w W → Calls Try.prog 57 #[.slice aa na ac, .slice ba nb bc, .func (.func kf) #[] #[]] W (MergePost k A B W)) := fun W h => HM.out W h hoa.2 hob.2 (by omega) (by omega)
  clear hx hy HM hoa hob hna hnb
  go_enter Try.func53, Try.ntmps53
  go_wp2_with fail
  refine (HA.out _ (Below.refl _ _)).mono ?_
  rintro e w1 ⟨rfl, hb1⟩
  go_wp2_with fail
  refine (HB.out _ hb1).mono ?_
  rintro e w2 ⟨rfl, hb2⟩
  have hbw2 := hb1.trans (hb2.mono hb1.size)
  go_wp2_with fail
  refine (HM2.out _ hbw2).mono ?_
  rintro e w3 ⟨v, M, rfl, hv, hop, hlen, hb3⟩
  obtain ⟨a, c, rfl⟩ := hv.shape
  obtain ⟨n, hn⟩ : ∃ n, M.length = n := ⟨_, rfl⟩
  have HVV := Lib.hid hv
  have HOP := Lib.hid (And.intro hop hlen)
  have HBW : Hid (Below w.heap.size w w3) := hbw2.trans (hb3.mono hbw2.size)
  have HSZ : Hid (w.heap.size ≤ w2.heap.size) := hbw2.size
  have HN := Lib.hid hn
  rw [hn] at HVV ⊢
  clear hv hop hlen hb3 hb2 hbw2 hn hb1
  by_cases h64 : 64 < n
  · have hd : decide ((64 : Int) < n) = true := by simp; omega
    go_wp2_with fail
    go_ret2
    exact ⟨_, _, _, rfl, IvsAt.nil _ _, .inr ⟨HV.out, M, HOP.out.1, HOP.out.2, .inr ⟨by rw [HN.out]; exact h64, rfl, rfl⟩⟩, HBW.out⟩
  · have hd : decide ((64 : Int) < n) = false := by simp; omega
    go_wp2_with fail
    go_ret2
    exact ⟨_, M, _, rfl, HVV.out.lo HSZ.out, .inr ⟨HV.out, M, HOP.out.1, HOP.out.2, .inl ⟨by rw [HN.out]; omega, rfl, rfl⟩⟩, HBW.out⟩

set_option maxHeartbeats 400000 in
theorem iUnion_any (va vb : Value) (A B : List IV) (w : World) (ha : Ivs w va A) (hb : Ivs w vb B) : Calls Try.prog 22 #[va, vb] w (OpOut kOr A B w) := by
  have H := Lib.hid (iOperate_any 54 kOr va vb A B w ha hb (fun W h oa ob la lb => iMerge_or va vb A B W (ha.below h) (hb.below h) oa ob la lb))
  obtain ⟨aa, ac, rfl⟩ := ha.shape
  obtain ⟨ba, bc, rfl⟩ := hb.shape
  clear ha hb
  go_enter Try.func22, Try.ntmps22
  go_wp2_with fail
  refine H.out.mono ?_
  rintro e w1 ⟨v, L, er, rfl, hv, hr, hb⟩
  obtain ⟨a, c, rfl⟩ := hv.shape
  go_wp2_with fail
  go_ret2
  exact ⟨_, _, _, rfl, hv, hr, hb⟩

set_option maxHeartbeats 400000 in
theorem iIntersect_any (va vb : Value) (A B : List IV) (w : World) (ha : Ivs w va A) (hb : Ivs w vb B) : Calls Try.prog 24 #[va, vb] w (OpOut kAnd A B w) := by
  have H := Lib.hid (iOperate_any 55 kAnd va vb A B w ha hb (fun W h oa ob la lb => iMerge_and va vb A B W (ha.below h) (hb.below h) oa ob la lb))
  obtain ⟨aa, ac, rfl⟩ := ha.shape
  obtain ⟨ba, bc, rfl⟩ := hb.shape
  clear ha hb
  go_enter Try.func24, Try.ntmps24
  go_wp2_with fail
  refine H.out.mono ?_
  rintro e w1 ⟨v, L, er, rfl, hv, hr, hb⟩
  obtain ⟨a, c, rfl⟩ := hv.shape
  go_wp2_with fail
  go_ret2
  exact ⟨_, _, _, rfl, hv, hr, hb⟩

set_option maxHeartbeats 400000 in
theorem iMinus_any (va vb : Value) (A B : List IV) (w : World) (ha : Ivs w va A) (hb : Ivs w vb B) : Calls Try.prog 26 #[va, vb] w (OpOut kNot A B w) := by
  have H := Lib.hid (iOperate_any 56 kNot va vb A B w ha hb (fun W h oa ob la lb => iMerge_not va vb A B W (ha.below h) (hb.below h) oa ob la lb))
  obtain ⟨aa, ac, rfl⟩ := ha.shape
  obtain ⟨ba, bc, rfl⟩ := hb.shape
  clear ha hb
  go_enter Try.func26, Try.ntmps26
  go_wp2_with fail
  refine H.out.mono ?_
  rintro e w1 ⟨v, L, er, rfl, hv, hr, hb⟩
  obtain ⟨a, c, rfl⟩ := hv.shape
  go_wp2_with fail
  go_ret2
  exact ⟨_, _, _, rfl, hv, hr, hb⟩

/-- All valid values. -/
def allL : List IV := [⟨⟨1, 0, ⟨#[]⟩⟩, z0, true⟩]
set_option maxHeartbeats 400000 in
theorem iComplement_any (va : Value) (A : List IV) (w : World) (ha : Ivs w va A) : Calls Try.prog 19 #[va] w (OpOut kNot allL A w) := by
  have H := Lib.hid (iAll_any w)
  have HM : Hid (∀ vb W, Below w.heap.size w W → Ivs W vb allL → Calls Try.prog 26 #[vb, va] W (OpOut kNot allL A W)) := fun vb W h hv => iMinus_any vb va allL A W hv (ha.below h)
  obtain ⟨aa, ac, rfl⟩ := ha.shape
  clear ha
  go_enter Try.func19, Try.ntmps19
  go_wp2_with fail
  refine H.out.mono ?_
  rintro e w1 ⟨v, rfl, hv, hb⟩
  have HM1 := Lib.hid (HM.out v w1 hb hv.all)
  obtain ⟨a, c, rfl⟩ := hv.shape
  have hs := hb.size
  clear HM hv
  go_wp2_with fail
  refine HM1.out.mono ?_
  rintro e w2 ⟨v, L, er, rfl, hv, hr, hb2⟩
  obtain ⟨a, c, rfl⟩ := hv.shape
  go_wp2_with fail
  go_ret2
  exact ⟨_, _, _, rfl, hv.lo hs, hr, hb.trans (hb2.mono hs)⟩

def CovRes (A B : List IV) (r : Bool) (er : Int) : Prop :=
  ((vldL A && vldL B) = false ∧ r = false ∧ er = 30) ∨ ((vldL A && vldL B) = true ∧ er = 0 ∧ ∃ M, IsOp kNot B A M ∧ r = decide (M.length = 0))
theorem CovRes.uniq {A B : List IV} {r r' : Bool} {er er' : Int} (h : CovRes A B r er) (h' : CovRes A B r' er') : r = r' ∧ er = er' := by
  rcases h with ⟨h1, h2, h3⟩ | ⟨h1, h3, M, h2, h4⟩ <;> rcases h' with ⟨g1, g2, g3⟩ | ⟨g1, g3, M', g2, g4⟩
  · exact ⟨by rw [h2, g2], by rw [h3, g3]⟩
  · rw [h1] at g1; simp at g1
  · rw [h1] at g1; simp at g1
  · obtain rfl := h2.uniq g2
    exact ⟨by rw [h4, g4], by rw [h3, g3]⟩
set_option maxHeartbeats 1000000 in
theorem iCovers_any (va vb : Value) (A B : List IV) (w : World) (ha : Ivs w va A) (hb : Ivs w vb B) : Calls Try.prog 28 #[va, vb] w fun e w' => ∃ r er, e = .returned (.tuple #[.bool r, .int .i64 er]) ∧ CovRes A B r er ∧ Below w.heap.size w w' := by
  have HA : Hid (∀ W, Below w.heap.size w W → Calls Try.prog 11 #[va] W fun e w' => e = .returned (.bool (vldL A)) ∧ Below W.heap.size W w') := fun W hb => iValid_any va A W (ha.below hb)
  have HB : Hid (∀ W, Below w.heap.size w W → Calls Try.prog 11 #[vb] W fun e w' => e = .returned (.bool (vldL B)) ∧ Below W.heap.size W w') := fun W h => iValid_any vb B W (hb.below h)
  have HM : Hid (∀ W, Below w.heap.size w W → Ord A → Ord B → A.length ≤ 64 → B.length ≤ 64 → Calls Try.prog 57 #[vb, va, .func (.func 56) #[] #[]] W (MergePost kNot B A W)) := fun W h oa ob la lb => iMerge_not vb va B A W (hb.below h) (ha.below h) ob oa lb la
  obtain ⟨aa, ac, rfl⟩ := ha.shape
  obtain ⟨ba, bc, rfl⟩ := hb.shape
  obtain ⟨na, hna⟩ : ∃ n, A.length = n := ⟨_, rfl⟩
  obtain ⟨nb, hnb⟩ : ∃ n, B.length = n := ⟨_, rfl⟩
  rw [hna] at HA HM ⊢
  rw [hnb] at HB HM ⊢
  obtain ⟨x, hx⟩ : ∃ x, vldL A = x := ⟨_, rfl⟩
  obtain ⟨y, hy⟩ : ∃ y, vldL B = y := ⟨_, rfl⟩
  rw [hx] at HA
  rw [hy] at HB
  cases x
  · have HR : Hid (CovRes A B false 30) := .inl ⟨by rw [hx]; rfl, rfl, rfl⟩
    clear hx hy ha hb hna hnb
    go_enter Try.func28, Try.ntmps28
    go_wp2_with fail
    refine (HA.out _ (Below.refl _ _)).mono ?_
    rintro e w1 ⟨rfl, hb1⟩
    go_wp2_with fail
    go_ret2
    exact ⟨_, _, rfl, HR.out, hb1⟩
  cases y
  · have HR : Hid (CovRes A B false 30) := .inl ⟨by rw [hx, hy]; rfl, rfl, rfl⟩
    clear hx hy ha hb hna hnb
    go_enter Try.func28, Try.ntmps28
    go_wp2_with fail
    refine (HA.out _ (Below.refl _ _)).mono ?_
    rintro e w1 ⟨rfl, hb1⟩
    go_wp2_with fail
    refine (HB.out _ hb1).mono ?_
    rintro e w2 ⟨rfl, hb2⟩
    go_wp2_with fail
    go_ret2
    exact ⟨_, _, rfl, HR.out, hb1.trans (hb2.mono hb1.size)⟩
  have hoa := vldL_iff.1 hx
  have hob := vldL_iff.1 hy
  have HV : Hid ((vldL A && vldL B) = true) := by show _ = _; rw [hx, hy]; rfl
  have HM2 : Hid (∀ W, Below w.heap.size w W → Calls Try.prog 57 #[.slice ba nb bc, .slice aa na ac, .func (.func 56) #[] #[]] W (MergePost kNot B A W)) := fun W h => HM.out W h hoa.2 hob.2 (by omega) (by omega)
  clear hx hy HM hoa hob ha hb hna hnb
  go_enter Try.func28, Try.ntmps28
  go_wp2_with fail
  refine (HA.out _ (Below.refl _ _)).mono ?_
  rintro e w1 ⟨rfl, hb1⟩
  go_wp2_with fail
  refine (HB.out _ hb1).mono ?_
  rintro e w2 ⟨rfl, hb2⟩
  have hbw2 := hb1.trans (hb2.mono hb1.size)
  go_wp2_with fail
  refine (HM2.out _ hbw2).mono ?_
  rintro e w3 ⟨v, M, rfl, hv, hop, hlen, hb3⟩
  obtain ⟨a, c, rfl⟩ := hv.shape
  obtain ⟨n, hn⟩ : ∃ n, M.length = n := ⟨_, rfl⟩
  have HR : Hid (CovRes A B (decide (n = 0)) 0) := .inr ⟨HV.out, rfl, M, hop, by rw [hn]⟩
  have HBW : Hid (Below w.heap.size w w3) := hbw2.trans (hb3.mono hbw2.size)
  have e0 : ((n : Int) == 0) = decide (n = 0) := by rw [Bool.eq_iff_iff]; simp only [beq_iff_eq, decide_eq_true_eq]; omega
  rw [hn]
  generalize decide (n = 0) = z at e0 HR
  clear hv hop hlen hb3 hb2 hbw2 hn hb1
  go_wp2_with fail
  go_ret2
  exact ⟨_, _, rfl, HR.out, HBW.out⟩
end Go.Proofs.Ytmhgmlnnipdomaa
