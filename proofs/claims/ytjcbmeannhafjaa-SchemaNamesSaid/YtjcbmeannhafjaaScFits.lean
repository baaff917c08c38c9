
/- Schemas: Find of the program and of the reference. -/
import Derived.Test.YtjcbmeannhafjaaScKinds

import Derived.Test.YtjcbmeannhafjaaFirst

import Derived.Test.YtjcbmeannhafjaaRowG

namespace Go.Proofs.Ytjcbmeannhafjaa

open Go.RowKit Go.Deep

/-- The index of the first table with a name. -/
def fndL (name : ByteArray) : List TB → Nat → Int
  | [], _ => -1
  | t :: r, k => if t.s = name then k else fndL name r (k + 1)
theorem fndL_drop (name : ByteArray) (ts : List TB) (k : Nat) (h : k < ts.length) : fndL name (ts.drop k) k = if ts[k].s = name then (k : Int) else fndL name (ts.drop (k + 1)) (k + 1) := by
  rw [List.drop_eq_getElem_cons h]; rfl
theorem fndL_end (name : ByteArray) (ts : List TB) (k : Nat) (h : ts.length ≤ k) : fndL name (ts.drop k) k = -1 := by
  rw [List.drop_eq_nil_of_le h]; rfl
theorem str_ne {a b : ByteArray} (h : ¬ a = b) : (a.toList == b.toList) = false := by
  rw [beq_eq_false_iff_ne]; intro e; exact h ((toList_inj _ _).1 e)

set_option maxHeartbeats 1000000 in
theorem sFind_any {P : Nat → Prop} (v : Value) (s : SC) (name : ByteArray) (w : World) (h : Sc P w v s) : Calls Try.prog 25 #[v, .string name] w fun e w' => e = .returned (.int .i64 (fndL name s.ts 0)) ∧ Below w.heap.size w w' := by
  obtain ⟨tv, rfl, hs⟩ := h
  obtain ⟨a, c, rfl, hf⟩ := hs.shape
  have hfew := hf.few
  have H := Lib.hid hs
  obtain ⟨n, hn⟩ : ∃ n, s.ts.length = n := ⟨_, rfl⟩
  obtain ⟨z, hz⟩ : ∃ z, fndL name (s.ts.drop 0) 0 = z := ⟨_, rfl⟩
  rw [show fndL name s.ts 0 = fndL name (s.ts.drop 0) 0 from rfl, hz]
  have HZ := Lib.hid hz
  have HN := Lib.hid hn
  rw [hn] at H hfew ⊢
  clear hs hf hn hz
  obtain ⟨W1, hW1⟩ : ∃ W1, w.alloc (.cells #[.int .i64 s.ver, .slice a n c] 25) = W1 := ⟨_, rfl⟩
  have HB0 : Hid (Below w.heap.size w W1) := by rw [← hW1]; exact (Below.refl _ _).alloc (Nat.le_refl _) _
  have hs1 : w.heap.size < W1.heap.size := by rw [← hW1]; simp
  have HC1 : Hid (W1.cell? ⟨w.heap.size, 1, none⟩ = some (.slice a n c)) := by show _ = _; subst hW1; go_simp
  have hc1 := HC1.out
  go_enter Try.func25, Try.ntmps25
  go_wp2_with fail
  try rw [hW1]
  clear hW1
  clear hc1
  go_loopw [10] (fun i wr => ∃ k : Nat, k ≤ n ∧ i = .int .i64 k ∧ Hid (fndL name (s.ts.drop k) k = z) ∧ Hid (Below W1.heap.size W1 wr)) (fun i _ => n - (intOf i).toNat)
  case atStart => exact ⟨0, by omega, rfl, HZ, Below.refl _ _⟩
  case round =>
    obtain ⟨k, hk, rfl, HT, HX⟩ := hrel
    clear HZ
    have hzz := HX.out.size
    have hc1 : wr.cell? ⟨w.heap.size, 1, none⟩ = some (.slice a n c) := (HX.out.cell (p := ⟨w.heap.size, 1, none⟩) hs1).trans HC1.out
    have HW : Hid (Below w.heap.size w wr) := HB0.out.trans (HX.out.mono (by omega))
    by_cases hlt : k < n
    · have hlt' : (k : Int) < n := by omega
      have hkc : k < s.ts.length := by rw [HN.out]; exact hlt
      obtain ⟨b, off, rfl, -, hb, ca, cc, ra, rc, pa, pc, c0, c1, c2, c3, c4, -⟩ := tab_get (H.out.below HW.out) hkc
      have HD := Lib.hid (fndL_drop name s.ts k hkc)
      generalize s.ts[k].s = x0 at *
      generalize s.ts[k].cs.length = x1 at *
      generalize s.ts[k].key = x2 at *
      generalize s.ts[k].rs.length = x3 at *
      generalize s.ts[k].ck.length = x4 at *
      by_cases hx : x0 = name
      · have HR : Hid (z = k) := by show _ = _; rw [← HT.out, HD.out, if_pos hx]
        subst hx
        clear HD HT
        go_wp2_with fail
        go_ret
        exact ⟨by rw [HR.out]; rfl, HW.out.trans (by (repeat (first | exact Below.refl _ _ | assumption | refine Below.drew ?_ | refine Below.setCell ?_ (by first | omega | (simp only [World.size_alloc]; omega) | (simp; try omega)) _ | refine Below.alloc ?_ (by first | omega | (simp only [World.size_alloc]; omega) | (simp; try omega)) _)))⟩
      · have HR : Hid (fndL name (s.ts.drop (k + 1)) (k + 1) = z) := by show _ = _; rw [← HT.out, HD.out, if_neg hx]
        have hx' := str_ne hx
        clear HD HT hx
        go_wp2_with fail
        go_roundw
        case rel => exact ⟨k + 1, by omega, by go_num, HR, HX.out.alloc (by omega) _⟩
        case measure => simp [intOf]; omega
    · have HR : Hid (z = -1) := by show _ = _; rw [← HT.out]; exact fndL_end _ _ _ (by rw [HN.out]; omega)
      go_wp2_with fail
      go_ret
      exact ⟨by rw [HR.out]; rfl, HW.out⟩

set_option maxHeartbeats 1000000 in
theorem rFind_any {P : Nat → Prop} (v : Value) (s : SC) (name : ByteArray) (w : World) (h : Sc P w v s) : Calls Try.prog 15 #[v, .string name] w fun e w' => e = .returned (.int .i64 (fndL name s.ts 0)) ∧ Below w.heap.size w w' := by
  obtain ⟨tv, rfl, hs⟩ := h
  obtain ⟨a, c, rfl, hf⟩ := hs.shape
  have hfew := hf.few
  have H := Lib.hid hs
  obtain ⟨n, hn⟩ : ∃ n, s.ts.length = n := ⟨_, rfl⟩
  obtain ⟨z, hz⟩ : ∃ z, fndL name (s.ts.drop 0) 0 = z := ⟨_, rfl⟩
  rw [show fndL name s.ts 0 = fndL name (s.ts.drop 0) 0 from rfl, hz]
  have HZ := Lib.hid hz
  have HN := Lib.hid hn
  rw [hn] at H hfew ⊢
  clear hs hf hn hz
  obtain ⟨W1, hW1⟩ : ∃ W1, w.alloc (.cells #[.int .i64 s.ver, .slice a n c] 25) = W1 := ⟨_, rfl⟩
  have HB0 : Hid (Below w.heap.size w W1) := by rw [← hW1]; exact (Below.refl _ _).alloc (Nat.le_refl _) _
  have hs1 : w.heap.size < W1.heap.size := by rw [← hW1]; simp
  have HC1 : Hid (W1.cell? ⟨w.heap.size, 1, none⟩ = some (.slice a n c)) := by show _ = _; subst hW1; go_simp
  have hc1 := HC1.out
  go_enter Try.func15, Try.ntmps15
  go_wp2_with fail
  try rw [hW1]
  clear hW1
  clear hc1
  go_loopw [9] (fun i wr => ∃ k : Nat, k ≤ n ∧ i = .int .i64 k ∧ Hid (fndL name (s.ts.drop k) k = z) ∧ Hid (Below W1.heap.size W1 wr)) (fun i _ => n - (intOf i).toNat)
  case atStart => exact ⟨0, by omega, rfl, HZ, Below.refl _ _⟩
  case round =>
    obtain ⟨k, hk, rfl, HT, HX⟩ := hrel
    clear HZ
    have hzz := HX.out.size
    have hc1 : wr.cell? ⟨w.heap.size, 1, none⟩ = some (.slice a n c) := (HX.out.cell (p := ⟨w.heap.size, 1, none⟩) hs1).trans HC1.out
    have HW : Hid (Below w.heap.size w wr) := HB0.out.trans (HX.out.mono (by omega))
    by_cases hlt : k < n
    · have hlt' : (k : Int) < n := by omega
      have hkc : k < s.ts.length := by rw [HN.out]; exact hlt
      obtain ⟨b, off, rfl, -, hb, ca, cc, ra, rc, pa, pc, c0, c1, c2, c3, c4, -⟩ := tab_get (H.out.below HW.out) hkc
      have HD := Lib.hid (fndL_drop name s.ts k hkc)
      generalize s.ts[k].s = x0 at *
      generalize s.ts[k].cs.length = x1 at *
      generalize s.ts[k].key = x2 at *
      generalize s.ts[k].rs.length = x3 at *
      generalize s.ts[k].ck.length = x4 at *
      by_cases hx : x0 = name
      · have HR : Hid (z = k) := by show _ = _; rw [← HT.out, HD.out, if_pos hx]
        subst hx
        clear HD HT
        go_wp2_with fail
        go_ret
        exact ⟨by rw [HR.out]; rfl, HW.out.trans (by (repeat (first | exact Below.refl _ _ | assumption | refine Below.drew ?_ | refine Below.setCell ?_ (by first | omega | (simp only [World.size_alloc]; omega) | (simp; try omega)) _ | refine Below.alloc ?_ (by first | omega | (simp only [World.size_alloc]; omega) | (simp; try omega)) _)))⟩
      · have HR : Hid (fndL name (s.ts.drop (k + 1)) (k + 1) = z) := by show _ = _; rw [← HT.out, HD.out, if_neg hx]
        have hx' := str_ne hx
        clear HD HT hx
        go_wp2_with fail
        go_roundw
        case rel => exact ⟨k + 1, by omega, by go_num, HR, HX⟩
        case measure => simp [intOf]; omega
    · have HR : Hid (z = -1) := by show _ = _; rw [← HT.out]; exact fndL_end _ _ _ (by rw [HN.out]; omega)
      go_wp2_with fail
      go_ret
      exact ⟨by rw [HR.out]; rfl, HW.out⟩

end Go.Proofs.Ytjcbmeannhafjaa

/- Schemas: which rows fit a table: cellFits, Fits of the program. -/
namespace Go.Proofs.Ytjcbmeannhafjaa

open Go.RowKit Go.Deep

def fitL (key mode : Int) : Nat → List CL → List V → Bool
  | k, c :: cs, v :: l => fitB c.k k key mode v && fitL key mode (k + 1) cs l
  | _, _, _ => true
theorem fitL_drop (key mode : Int) (cs : List CL) (l : List V) (k : Nat) (h1 : k < cs.length) (h2 : k < l.length) : fitL key mode k (cs.drop k) (l.drop k) = (fitB cs[k].k k key mode l[k] && fitL key mode (k + 1) (cs.drop (k + 1)) (l.drop (k + 1))) := by
  rw [List.drop_eq_getElem_cons h1, List.drop_eq_getElem_cons h2]; rfl
theorem fitL_end (key mode : Int) (cs : List CL) (l : List V) (k : Nat) (h : l.length ≤ k) : fitL key mode k (cs.drop k) (l.drop k) = true := by
  rw [List.drop_eq_nil_of_le h]; cases cs.drop k <;> rfl
def fitsT (s : SC) (i : Int) (l : List V) (mode : Int) : Bool := inT s i && (decide (1 ≤ mode ∧ mode ≤ 3) && (decide (l.length = (tbAt s i).cs.length) && fitL (tbAt s i).key mode 0 (tbAt s i).cs l))

set_option maxHeartbeats 1000000 in
theorem sCellFits_any (x0 : ByteArray) (ca : Option Addr) (n cc : Nat) (key : Int) (x3 x4 : Value) (k : Nat) (ck : Int) (v : V) (mode : Int) (w : World) (hk : k < n) (b off : Nat) (ha : ca = some ⟨b, off, none⟩) (hb : b < w.heap.size) (hc : w.cell? ⟨b, off + k * 2 + 1, none⟩ = some (.int .i64 ck)) :
    Calls Try.prog 60 #[.agg #[.string x0, .slice ca n cc, .int .i64 key, x3, x4], .int .i64 k, .agg #[.int .i64 v.k, .int .i64 v.n, .string v.s], .int .i64 mode] w fun e w' => e = .returned (.bool (fitB ck k key mode v)) ∧ Below w.heap.size w w' := by
  subst ha
  obtain ⟨vk, vn, vs⟩ := v
  obtain ⟨z, hz⟩ : ∃ z, fitB ck k key mode ⟨vk, vn, vs⟩ = z := ⟨_, rfl⟩
  rw [hz]
  have HV := Lib.hid (vValid_any vk vn vs)
  have hlt' : (k : Int) < n := by omega
  obtain ⟨vb, hvb⟩ : ∃ vb, vldB vk vn vs = vb := ⟨_, rfl⟩
  unfold fitB at hz
  simp only [hvb] at hz HV
  have HZ := Lib.hid hz
  clear hz hvb
  obtain ⟨W1, hW1⟩ : ∃ W1, (w.alloc (.cells #[.string x0, .slice (some ⟨b, off, none⟩) n cc, .int .i64 key, x3, x4] 40)).alloc (.cells #[.int .i64 vk, .int .i64 vn, .string vs] 57) = W1 := ⟨_, rfl⟩
  have hzs : w.heap.size + 2 ≤ W1.heap.size := by rw [← hW1]; simp
  have HB : Hid (Below w.heap.size w W1) := by rw [← hW1]; exact ((Below.refl _ _).alloc (Nat.le_refl _) _).alloc (by simp) _
  have q1 : W1.cell? ⟨w.heap.size, 1, none⟩ = some (.slice (some ⟨b, off, none⟩) n cc) := by subst hW1; go_simp
  have q2 : W1.cell? ⟨w.heap.size, 2, none⟩ = some (.int .i64 key) := by subst hW1; go_simp
  have q3 : W1.cell? ⟨w.heap.size + 1, 0, none⟩ = some (.int .i64 vk) := by subst hW1; go_simp
  have HK : Hid (∀ W, Below W1.heap.size W1 W → W.cell? ⟨w.heap.size, 1, none⟩ = some (.slice (some ⟨b, off, none⟩) n cc) ∧ W.cell? ⟨w.heap.size, 2, none⟩ = some (.int .i64 key) ∧ W.cell? ⟨w.heap.size + 1, 0, none⟩ = some (.int .i64 vk) ∧ W.cell? ⟨b, off + k * 2 + 1, none⟩ = some (.int .i64 ck)) := fun W hW =>
    ⟨(hW.cell (p := ⟨w.heap.size, 1, none⟩) (show w.heap.size < _ by omega)).trans q1, (hW.cell (p := ⟨w.heap.size, 2, none⟩) (show w.heap.size < _ by omega)).trans q2, (hW.cell (p := ⟨w.heap.size + 1, 0, none⟩) (show w.heap.size + 1 < _ by omega)).trans q3, (hW.cell (p := ⟨b, off + k * 2 + 1, none⟩) (show b < _ by omega)).trans ((HB.out.cell (p := ⟨b, off + k * 2 + 1, none⟩) hb).trans hc)⟩
  clear q1 q2 q3 hc
  have HN1 := Lib.hid hW1
  clear hW1
  cases vb with
  | false =>
    have HR : Hid (z = false) := by show _ = _; rw [← HZ.out]; rfl
    clear HZ
    go_enter Try.func60, Try.ntmps60
    go_wp2_with fail
    refine (HV.out _).mono ?_
    rintro e w1 ⟨rfl, hv⟩
    (rw [HN1.out] at hv); obtain ⟨q1, q2, q3, q4⟩ := HK.out w1 hv.below; have HV1 := Lib.hid hv; clear hv
    go_wp2_with fail
    go_ret
    exact ⟨by rw [HR.out]; rfl, HB.out.trans (HV1.out.below.mono (by omega))⟩
  | true =>
    by_cases h1 : vk = ck
    · have HR : Hid (z = true) := by show _ = _; rw [← HZ.out, h1]; simp
      clear HZ
      subst h1
      go_enter Try.func60, Try.ntmps60
      go_wp2_with fail
      refine (HV.out _).mono ?_
      rintro e w1 ⟨rfl, hv⟩
      (rw [HN1.out] at hv); obtain ⟨q1, q2, q3, q4⟩ := HK.out w1 hv.below; have HV1 := Lib.hid hv; clear hv
      go_wp2_with fail
      go_ret
      exact ⟨by rw [HR.out]; rfl, HB.out.trans (HV1.out.below.mono (by omega))⟩
    · have e1 : (vk == ck) = false := by simpa using h1
      by_cases h2 : vk = 2
      · subst h2
        by_cases hg : key ≤ (k : Int)
        · have HR : Hid (z = (mode != 1)) := by show _ = _; rw [← HZ.out, e1]; simp [hg]
          have g1 : decide (key ≤ (k : Int)) = true := by simpa using hg
          clear HZ h1 hg
          go_enter Try.func60, Try.ntmps60
          go_wp2_with fail
          refine (HV.out _).mono ?_
          rintro e w1 ⟨rfl, hv⟩
          (rw [HN1.out] at hv); obtain ⟨q1, q2, q3, q4⟩ := HK.out w1 hv.below; have HV1 := Lib.hid hv; clear hv
          go_wp2_with fail
          go_ret
          exact ⟨by rw [HR.out]; rfl, HB.out.trans (HV1.out.below.mono (by omega))⟩
        · have HR : Hid (z = false) := by show _ = _; rw [← HZ.out, e1]; simp [hg]
          have g1 : decide (key ≤ (k : Int)) = false := by simpa using hg
          clear HZ h1 hg
          go_enter Try.func60, Try.ntmps60
          go_wp2_with fail
          refine (HV.out _).mono ?_
          rintro e w1 ⟨rfl, hv⟩
          (rw [HN1.out] at hv); obtain ⟨q1, q2, q3, q4⟩ := HK.out w1 hv.below; have HV1 := Lib.hid hv; clear hv
          go_wp2_with fail
          go_ret
          exact ⟨by rw [HR.out]; rfl, HB.out.trans (HV1.out.below.mono (by omega))⟩
      · have e2 : (vk == 2) = false := by simpa using h2
        by_cases h3 : vk = 1
        · subst h3
          by_cases hg : key ≤ (k : Int)
          · have HR : Hid (z = (mode == 3)) := by show _ = _; rw [← HZ.out, e1]; simp [hg]
            have g1 : decide (key ≤ (k : Int)) = true := by simpa using hg
            clear HZ h1 h2 hg
            go_enter Try.func60, Try.ntmps60
            go_wp2_with fail
            refine (HV.out _).mono ?_
            rintro e w1 ⟨rfl, hv⟩
            (rw [HN1.out] at hv); obtain ⟨q1, q2, q3, q4⟩ := HK.out w1 hv.below; have HV1 := Lib.hid hv; clear hv
            go_wp2_with fail
            go_ret
            exact ⟨by rw [HR.out]; rfl, HB.out.trans (HV1.out.below.mono (by omega))⟩
          · have HR : Hid (z = false) := by show _ = _; rw [← HZ.out, e1]; simp [hg]
            have g1 : decide (key ≤ (k : Int)) = false := by simpa using hg
            clear HZ h1 h2 hg
            go_enter Try.func60, Try.ntmps60
            go_wp2_with fail
            refine (HV.out _).mono ?_
            rintro e w1 ⟨rfl, hv⟩
            (rw [HN1.out] at hv); obtain ⟨q1, q2, q3, q4⟩ := HK.out w1 hv.below; have HV1 := Lib.hid hv; clear hv
            go_wp2_with fail
            go_ret
            exact ⟨by rw [HR.out]; rfl, HB.out.trans (HV1.out.below.mono (by omega))⟩
        · have e3 : (vk == 1) = false := by simpa using h3
          have HR : Hid (z = false) := by show _ = _; rw [← HZ.out, e1, e2, e3]; rfl
          clear HZ h1 h2 h3
          go_enter Try.func60, Try.ntmps60
          go_wp2_with fail
          refine (HV.out _).mono ?_
          rintro e w1 ⟨rfl, hv⟩
          (rw [HN1.out] at hv); obtain ⟨q1, q2, q3, q4⟩ := HK.out w1 hv.below; have HV1 := Lib.hid hv; clear hv
          go_wp2_with fail
          go_ret
          exact ⟨by rw [HR.out]; rfl, HB.out.trans (HV1.out.below.mono (by omega))⟩

set_option maxRecDepth 100000 in
set_option maxHeartbeats 2000000 in
theorem sFits_any {P : Nat → Prop} (v : Value) (s : SC) (i : Int) (rv : Value) (l : List V) (mode : Int) (w : World) (h : Sc P w v s) (hr : RowAt w rv l) : Calls Try.prog 35 #[v, .int .i64 i, rv, .int .i64 mode] w fun e w' => e = .returned (.bool (fitsT s i l mode)) ∧ Below w.heap.size w w' := by
  have HT := Lib.hid (fun O => sTableAt_any v s i (w.alloc O) (h.below ((Below.refl _ _).alloc (Nat.le_refl _) O)))
  obtain ⟨tv, rfl, hs⟩ := h
  have HRW := Lib.hid hr
  obtain ⟨ra, rc, rfl, hlen, -⟩ := hr
  clear hs
  obtain ⟨z, hz⟩ : ∃ z, fitsT s i l mode = z := ⟨_, rfl⟩
  rw [hz]
  have HZ := Lib.hid hz
  obtain ⟨m, hm⟩ : ∃ m, l.length = m := ⟨_, rfl⟩
  have HM := Lib.hid hm
  rw [hm] at HRW hlen ⊢
  obtain ⟨u, hu⟩ : ∃ u, inT s i = u := ⟨_, rfl⟩
  have HU := Lib.hid hu
  unfold TabPost at HT
  rw [hu] at HT
  clear hz hm hu
  go_enter Try.func35, Try.ntmps35
  go_wp2_with fail
  refine (HT.out _).mono ?_
  rintro e w1 ⟨ca, cc, rfa, rfc, pa, pc, rfl, ht, hb⟩
  have HB1 : Hid (Below w.heap.size w w1) := ((Below.refl _ _).alloc (Nat.le_refl _) _).trans (hb.mono (by simp))
  have HC := Lib.hid ht.cols
  clear HT ht hb
  have HZ2 : Hid ((u && (decide (1 ≤ mode ∧ mode ≤ 3) && (decide (m = (tbAt s i).cs.length) && fitL (tbAt s i).key mode 0 (tbAt s i).cs l))) = z) := by
    show _ = _; rw [← HZ.out]; unfold fitsT; rw [HU.out, HM.out]
  clear HZ
  unfold tbV
  generalize (tbAt s i).cs = cs at *
  generalize (tbAt s i).s = x0 at *
  generalize (tbAt s i).key = key at *
  generalize (tbAt s i).rs.length = x3 at *
  generalize (tbAt s i).ck.length = x4 at *
  obtain ⟨n, hn⟩ : ∃ n, cs.length = n := ⟨_, rfl⟩
  have HN := Lib.hid hn
  rw [hn] at HC HZ2 ⊢
  have hfew : n ≤ 17592186044416 := by obtain ⟨_, _, _, hf⟩ := HC.out.shape; rw [hn] at hf; exact hf.few
  have hsz1 := HB1.out.size
  clear hn
  cases u with
  | false =>
    have HR : Hid (z = false) := by show _ = _; rw [← HZ2.out]; rfl
    clear HZ2
    go_wp2_with fail
    go_ret
    exact ⟨by rw [HR.out]; rfl, HB1.out.trans (by (repeat (first | exact Below.refl _ _ | assumption | refine Below.drew ?_ | refine Below.setCell ?_ (by first | omega | (simp only [World.size_alloc]; omega) | (simp; try omega)) _ | refine Below.alloc ?_ (by first | omega | (simp only [World.size_alloc]; omega) | (simp; try omega)) _)))⟩
  | true =>
    by_cases hm1 : mode < 1
    · have HR : Hid (z = false) := by show _ = _; rw [← HZ2.out, decide_eq_false (p := 1 ≤ mode ∧ mode ≤ 3) (by omega)]; rfl
      have d1 : decide (mode < 1) = true := by simpa using hm1
      clear HZ2
      go_wp2_with fail
      go_ret
      exact ⟨by rw [HR.out]; rfl, HB1.out.trans (by (repeat (first | exact Below.refl _ _ | assumption | refine Below.drew ?_ | refine Below.setCell ?_ (by first | omega | (simp only [World.size_alloc]; omega) | (simp; try omega)) _ | refine Below.alloc ?_ (by first | omega | (simp only [World.size_alloc]; omega) | (simp; try omega)) _)))⟩
    · have d1 : decide (mode < 1) = false := by simpa using hm1
      by_cases hm3 : 3 < mode
      · have HR : Hid (z = false) := by show _ = _; rw [← HZ2.out, decide_eq_false (p := 1 ≤ mode ∧ mode ≤ 3) (by omega)]; rfl
        have d2 : decide (3 < mode) = true := by simpa using hm3
        clear HZ2
        go_wp2_with fail
        go_ret
        exact ⟨by rw [HR.out]; rfl, HB1.out.trans (by (repeat (first | exact Below.refl _ _ | assumption | refine Below.drew ?_ | refine Below.setCell ?_ (by first | omega | (simp only [World.size_alloc]; omega) | (simp; try omega)) _ | refine Below.alloc ?_ (by first | omega | (simp only [World.size_alloc]; omega) | (simp; try omega)) _)))⟩
      · have d2 : decide (3 < mode) = false := by simpa using hm3
        have HZ3 : Hid ((decide (m = n) && fitL key mode 0 cs l) = z) := by show _ = _; rw [← HZ2.out, decide_eq_true (p := 1 ≤ mode ∧ mode ≤ 3) (by omega)]; rfl
        clear HZ2 hm1 hm3
        by_cases hmn : m = n
        · subst hmn
          have HZ4 : Hid (fitL key mode 0 (cs.drop 0) (l.drop 0) = z) := by show _ = _; rw [← HZ3.out]; simp
          clear HZ3
          obtain ⟨wb, hwb⟩ : ∃ wb, w1.alloc (.cells #[.string x0, .slice ca m cc, .int .i64 key, .slice rfa x3 rfc, .slice pa x4 pc] 40) = wb := ⟨_, rfl⟩
          have BB : Hid (Below w1.heap.size w1 wb) := by rw [← hwb]; exact (Below.refl _ _).alloc (Nat.le_refl _) _
          have hbz : w1.heap.size < wb.heap.size := by rw [← hwb]; simp
          have a0 : wb.cell? ⟨w1.heap.size, 0, none⟩ = some (.string x0) := by subst hwb; go_simp
          have a1 : wb.cell? ⟨w1.heap.size, 1, none⟩ = some (.slice ca m cc) := by subst hwb; go_simp
          have a2 : wb.cell? ⟨w1.heap.size, 2, none⟩ = some (.int .i64 key) := by subst hwb; go_simp
          have a3 : wb.cell? ⟨w1.heap.size, 3, none⟩ = some (.slice rfa x3 rfc) := by subst hwb; go_simp
          have a4 : wb.cell? ⟨w1.heap.size, 4, none⟩ = some (.slice pa x4 pc) := by subst hwb; go_simp
          have HK : Hid (∀ W, Below wb.heap.size wb W → W.cell? ⟨w1.heap.size, 0, none⟩ = some (.string x0) ∧ W.cell? ⟨w1.heap.size, 1, none⟩ = some (.slice ca m cc) ∧ W.cell? ⟨w1.heap.size, 2, none⟩ = some (.int .i64 key) ∧ W.cell? ⟨w1.heap.size, 3, none⟩ = some (.slice rfa x3 rfc) ∧ W.cell? ⟨w1.heap.size, 4, none⟩ = some (.slice pa x4 pc)) := fun W hW =>
            ⟨(hW.cell (p := ⟨w1.heap.size, 0, none⟩) hbz).trans a0, (hW.cell (p := ⟨w1.heap.size, 1, none⟩) hbz).trans a1, (hW.cell (p := ⟨w1.heap.size, 2, none⟩) hbz).trans a2, (hW.cell (p := ⟨w1.heap.size, 3, none⟩) hbz).trans a3, (hW.cell (p := ⟨w1.heap.size, 4, none⟩) hbz).trans a4⟩
          have HWB : Hid (Below w.heap.size w wb) := HB1.out.trans (BB.out.mono hsz1)
          clear a0
          go_wp2_with fail
          try rw [hwb]
          clear hwb a1 a2 a3 a4
          go_loopw [39] (fun i wr => ∃ k : Nat, k ≤ m ∧ i = .int .i64 k ∧ Hid (fitL key mode k (cs.drop k) (l.drop k) = z) ∧ Hid (Below wb.heap.size wb wr)) (fun i _ => m - (intOf i).toNat)
          case atStart => exact ⟨0, by omega, rfl, HZ4, Below.refl _ _⟩
          case round =>
            obtain ⟨k, hk, rfl, HT, HX⟩ := hrel
            clear HZ4
            have hzz := HX.out.size
            obtain ⟨a0, a1, a2, a3, a4⟩ := HK.out wr HX.out
            have hw1r : w1.heap.size < wr.heap.size := by omega
            have HW : Hid (Below w.heap.size w wr) := HWB.out.trans (HX.out.mono HWB.out.size)
            have HW1 : Hid (Below w1.heap.size w1 wr) := BB.out.trans (HX.out.mono (by omega))
            by_cases hlt : k < m
            · have hlt' : (k : Int) < m := by omega
              have hkc : k < cs.length := by rw [HN.out]; exact hlt
              have hkl : k < l.length := by rw [HM.out]; exact hlt
              obtain ⟨cb, coff, rfl, -, hcb, -, c1⟩ := col_get (HC.out.below HW1.out) hkc
              obtain ⟨ra', rc', e', -, hcell⟩ := HRW.out.blw HW.out
              simp only [Value.slice.injEq] at e'
              obtain ⟨rfl, -, rfl⟩ := e'
              obtain ⟨rb, roff, rfl, hrb, r0, r1, r2⟩ := hcell k hkl
              have HD := Lib.hid (fitL_drop key mode cs l k hkc hkl)
              have HCF : Hid (∀ O, Calls Try.prog 60 #[.agg #[.string x0, .slice (some ⟨cb, coff, none⟩) m cc, .int .i64 key, .slice rfa x3 rfc, .slice pa x4 pc], .int .i64 k, .agg #[.int .i64 l[k].k, .int .i64 l[k].n, .string l[k].s], .int .i64 mode] (wr.alloc O) fun e w' => e = .returned (.bool (fitB cs[k].k k key mode l[k])) ∧ Below (wr.alloc O).heap.size (wr.alloc O) w') := fun O =>
                sCellFits_any x0 _ m cc key _ _ k _ _ mode (wr.alloc O) hlt cb coff rfl (by simp; omega) ((((Below.refl wr.heap.size wr).alloc (Nat.le_refl _) O).cell (p := ⟨cb, coff + k * 2 + 1, none⟩) hcb).trans c1)
              obtain ⟨y, hy⟩ : ∃ y, fitB cs[k].k k key mode l[k] = y := ⟨_, rfl⟩
              rw [hy] at HD HCF
              clear hy c1 hcell
              generalize l[k].k = v0 at *
              generalize l[k].n = v1 at *
              generalize l[k].s = v2 at *
              go_wp2_with fail
              refine (HCF.out _).mono ?_
              rintro e w2 ⟨rfl, hb2⟩
              have HX2 : Hid (Below wb.heap.size wb w2) := (HX.out.alloc hzz _).trans (hb2.mono (by simp; omega))
              clear hb2 HCF
              cases y with
              | true =>
                have HR : Hid (fitL key mode (k + 1) (cs.drop (k + 1)) (l.drop (k + 1)) = z) := by show _ = _; rw [← HT.out, HD.out]; rfl
                clear HD HT
                go_wp2_with fail
                go_roundw
                case rel => exact ⟨k + 1, by omega, by go_num, HR, HX2⟩
                case measure => simp [intOf]; omega
              | false =>
                have HR : Hid (z = false) := by show _ = _; rw [← HT.out, HD.out]; rfl
                clear HD HT
                go_wp2_with fail
                go_ret
                exact ⟨by rw [HR.out]; rfl, HWB.out.trans (HX2.out.mono HWB.out.size)⟩
            · have HR : Hid (z = true) := by show _ = _; rw [← HT.out]; exact fitL_end _ _ _ _ _ (by rw [HM.out]; omega)
              go_wp2_with fail
              go_ret
              exact ⟨by rw [HR.out]; rfl, HW.out⟩
        · have HR : Hid (z = false) := by show _ = _; rw [← HZ3.out, decide_eq_false hmn]; rfl
          have d3 : (m != n) = true := by simpa using hmn
          have d4 : ((m : Int) != n) = true := by simp; omega
          clear HZ3
          go_wp2_with fail
          go_ret
          exact ⟨by rw [HR.out]; rfl, HB1.out.trans (by (repeat (first | exact Below.refl _ _ | assumption | refine Below.drew ?_ | refine Below.setCell ?_ (by first | omega | (simp only [World.size_alloc]; omega) | (simp; try omega)) _ | refine Below.alloc ?_ (by first | omega | (simp only [World.size_alloc]; omega) | (simp; try omega)) _)))⟩
end Go.Proofs.Ytjcbmeannhafjaa
