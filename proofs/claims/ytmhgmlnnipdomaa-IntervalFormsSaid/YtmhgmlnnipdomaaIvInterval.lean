
/- partsynccase's Interval: what its pieces are. -/
import Derived.Test.YtmhgmlnnipdomaaIvCase

import Derived.Test.YtmhgmlnnipdomaaIvDo

import Derived.Test.YtmhgmlnnipdomaaRNext

import Derived.Test.YtmhgmlnnipdomaaIvLaw

import Derived.Deep.CutRange

import Derived.Deep.CutBlock

import Derived.Deep.DeepCutAuto

namespace Go.Proofs.Ytmhgmlnnipdomaa

open Go.RowKit Go.Deep

theorem IvsAt.mv {lo bc : Nat} {w w' : World} {v : Value} {L : List IV} (h : IvsAt (fun b => lo ≤ b) w v L) (hm : Mv bc w w') (hb : bc < lo) : IvsAt (fun b => lo ≤ b) w' v L :=
  h.keep hm.size fun b hl hlt => hm.block b hlt (by omega)
def IntervalPost (bc B : Nat) (w : World) (e : Ending) (w' : World) : Prop :=
  ∃ v L, e = .returned v ∧ IvsAt (fun b => w.heap.size ≤ b) w' v L ∧ Ord L ∧ L.length ≤ 4 ∧ Mv bc w w' ∧ CaseOk bc B w'

theorem Ord.one {x : IV} (h : okI x = true) : Ord [x] := ⟨fun y hy => by simp only [List.mem_singleton] at hy; subst hy; exact h, by simp⟩
theorem ord_from {p : V} (h : okV p = true) : Ord [⟨p, z0, true⟩] := Ord.one (by simp [okI, h])
theorem ord_between {p q : V} (h : okV p = true) (h' : okV q = true) (hc : cmpV p q < 0) : Ord [⟨p, q, false⟩] := Ord.one (by simp [okI, h, h', hc])
/-- One of the three makers of a list, called on valid values. -/
def PiecePost (w : World) (e : Ending) (w' : World) : Prop :=
  ∃ v l er, e = .returned (.tuple #[v, .int .i64 er]) ∧ IvsAt (fun b => w.heap.size ≤ b) w' v l ∧ Ord l ∧ l.length ≤ 1 ∧ Below w.heap.size w w'
theorem piece_from (k n : Int) (s : ByteArray) (w : World) (h : okV ⟨k, n, s⟩ = true) : Calls Try.prog 36 #[.agg #[.int .i64 k, .int .i64 n, .string s]] w (PiecePost w) := by
  have h' : vldB k n s = true := h
  refine (rFrom_any k n s w).mono ?_
  rintro e w' ⟨v, rfl, hv, hb⟩
  rw [h'] at hv ⊢
  exact ⟨v, _, _, rfl, hv, ord_from h, by simp, hb⟩
theorem piece_between (k n : Int) (s : ByteArray) (k' n' : Int) (s' : ByteArray) (w : World) (h : okV ⟨k, n, s⟩ = true) (h2 : okV ⟨k', n', s'⟩ = true) : Calls Try.prog 38 #[.agg #[.int .i64 k, .int .i64 n, .string s], .agg #[.int .i64 k', .int .i64 n', .string s']] w (PiecePost w) := by
  have h' : vldB k n s = true := h
  have h2' : vldB k' n' s' = true := h2
  refine (rBetween_any k n s k' n' s' w).mono ?_
  rintro e w' ⟨v, rfl, hv, hb⟩
  rw [h', h2'] at hv ⊢
  by_cases hc : cmpV ⟨k, n, s⟩ ⟨k', n', s'⟩ < 0
  · simp only [Bool.and_self, if_true, if_pos hc] at hv
    exact ⟨v, _, _, rfl, hv, ord_between h h2 hc, by simp, hb⟩
  · simp only [Bool.and_self, if_true, if_neg hc] at hv
    exact ⟨v, _, _, rfl, hv, Ord.nil, by simp, hb⟩
theorem firstV_no {k : Int} (h : (firstV k).2 = false) : (firstV k).1 = z0 := by
  unfold firstV at h ⊢
  split at h
  · simp at h
  · split at h
    · simp at h
    · rename_i h1 h2; rw [if_neg h1, if_neg h2]; rfl
theorem nextV_no (k n : Int) (s : ByteArray) (h : (nextV k n s).2 = false) : (nextV k n s).1 = z0 := by
  unfold nextV at h ⊢
  by_cases h1 : vldB k n s = false
  · rw [if_pos h1]; rfl
  rw [if_neg h1] at h ⊢
  by_cases h2 : k = 3 ∧ n = 0
  · rw [if_pos h2] at h; simp at h
  rw [if_neg h2] at h ⊢
  by_cases h3 : k = 4 ∧ n < 9223372036854775807
  · rw [if_pos h3] at h; simp at h
  rw [if_neg h3] at h ⊢
  by_cases h4 : k = 5
  · rw [if_pos h4] at h ⊢
    unfold nextS at h ⊢
    by_cases h5 : s.size < 64
    · rw [if_pos h5] at h; simp at h
    rw [if_neg h5] at h ⊢
    by_cases h6 : trimN s.data.toList s.size = 0
    · rw [if_pos h6]; rfl
    · rw [if_neg h6] at h; simp at h
  · rw [if_neg h4] at h ⊢
    exact firstV_no h
theorem piece_one (k n : Int) (s : ByteArray) (w : World) (h : okV ⟨k, n, s⟩ = true) (h0 : -9223372036854775808 ≤ n) (h1 : n ≤ 9223372036854775807) : Calls Try.prog 37 #[.agg #[.int .i64 k, .int .i64 n, .string s]] w (PiecePost w) := by
  have h' : vldB k n s = true := h
  refine (rOne_any k n s w h0 h1).mono ?_
  rintro e w' ⟨v, rfl, hv, hb⟩
  rw [h'] at hv ⊢
  refine ⟨v, _, _, rfl, hv, Ord.one ?_, by simp, hb⟩
  cases hn : (nextV k n s).2 with
  | true =>
    obtain ⟨b1, b2, _⟩ := nextV_behind k n s h0 h1 hn
    have b3 : okV (nextV k n s).1 = true := b1
    simp [okI, h, b3, b2]
  | false =>
    have := nextV_no k n s hn
    simp [okI, h, this]
end Go.Proofs.Ytmhgmlnnipdomaa

/- partsynccase's Interval. -/
namespace Go.Proofs.Ytmhgmlnnipdomaa

open Go.RowKit Go.Deep

set_option maxRecDepth 100000 in
set_option maxHeartbeats 4000000 in
theorem cInterval_any (bc B : Nat) (w : World) (h : CaseOk bc B w) : Calls Try.prog 9 #[.pointer (some ⟨bc, 0, none⟩)] w (IntervalPost bc B w) := by
  have hl := h.lt
  have HI := Lib.hid (cInt_any bc B 3 w (by omega) (by omega) h)
  go_enter Try.func9, Try.ntmps9
  go_wp2_with fail
  refine HI.out.mono ?_
  rintro e w1 ⟨r, rfl, hr0, hr1, hm1, ho1⟩
  have HW1 : Hid (Mv bc w w1) := hm1
  have HR : Hid (r = 0 ∨ r = 1 ∨ r = 2) := by show _ ∨ _; omega
  have hs1 : w.heap.size ≤ w1.heap.size := hm1.size
  obtain ⟨k0, hk0, hk1⟩ : ∃ k0 : Nat, (1 : Int) + r = k0 ∧ k0 ≤ 3 := ⟨(1 + r).toNat, by omega, by omega⟩
  have hk2 : IntKind.i64.wrap (1 + r) = k0 := by rw [IntKind.wrap_i64]; omega
  have HO1 := Lib.hid ho1
  clear hm1 ho1 h HI
  go_wp2_with fail
  go_loopw [3, 4] (fun v i ws => ∃ (k : Nat) (L : List IV), k ≤ 3 ∧ i = .int .i64 k ∧ Hid (IvsAt (fun b => w.heap.size ≤ b) ws v L) ∧ Hid (Ord L ∧ k + L.length ≤ 3) ∧ Hid (Mv bc w ws) ∧ Hid (CaseOk bc B ws)) (fun _ i _ => (intOf i).toNat)
  case atStart => exact ⟨k0, [], by omega, rfl, IvsAt.nil _ _, ⟨Ord.nil, by simpa using hk1⟩, HW1.out, HO1.out⟩
  case round =>
    obtain ⟨k, L, hk, rfl, HV, HL, HM, HC⟩ := hrel
    obtain ⟨oa, oc, rfl⟩ := HV.out.shape
    have hsr : w.heap.size ≤ wr.heap.size := HM.out.size
    by_cases h0 : 0 < k
    · have h0' : (0 : Int) < k := by omega
      have HANY : Hid (∀ W, CaseOk bc B W → Calls Try.prog 15 #[.pointer (some ⟨bc, 0, none⟩)] W (AnyPost bc B W)) := fun W h => cAny_any bc B W h
      go_wp2_with fail
      refine (HANY.out _ HC.out).mono ?_
      rintro e w2 ⟨ak, an, as0, rfl, hva, hlo, hhi, hm2, hc2⟩
      have HC2 := Lib.hid hc2
      go_wp2_with fail
      refine (HANY.out _ HC2.out).mono ?_
      rintro e w3 ⟨bk, bn, bs0, rfl, hvb, hlob, hhib, hm3, hc3⟩
      have HRB : Hid (-9223372036854775808 ≤ bn ∧ bn ≤ 9223372036854775807) := ⟨hlob, hhib⟩
      clear hlob hhib
      have HM3 : Hid (Mv bc w w3) := HM.out.trans (hm2.trans hm3)
      have HV3 : Hid (IvsAt (fun b => w.heap.size ≤ b) w3 (.slice oa L.length oc) L) := HV.out.mv (hm2.trans hm3) (by omega)
      have HC3 := Lib.hid hc3
      have HRA : Hid (-9223372036854775808 ≤ an ∧ an ≤ 9223372036854775807) := ⟨hlo, hhi⟩
      clear hlo hhi
      have HVA : Hid (okV ⟨ak, an, as0⟩ = true) := hva
      have HVB : Hid (okV ⟨bk, bn, bs0⟩ = true) := hvb
      have hs3 : w.heap.size ≤ w3.heap.size := HM3.out.size
      clear hm2 hm3 hc2 hc3 hva hvb HC2 HV HM HC hsr
      have HCMP := Lib.hid (fun W => rCompare_any ak an as0 bk bn bs0 W)
      obtain ⟨c, hc⟩ : ∃ c, cmpV ⟨ak, an, as0⟩ ⟨bk, bn, bs0⟩ = c := ⟨_, rfl⟩
      rw [hc] at HCMP
      have HCC := Lib.hid hc
      clear hc HANY
      go_wp2_with fail
      refine (HCMP.out _).mono ?_
      rintro e w5 ⟨rfl, hg⟩
      have hm35 : Mv bc w3 w5 := (((Mv.refl bc w3).alloc _).alloc _).trans (Mv.of_below hg.below)
      have HM5 : Hid (Mv bc w w5) := HM3.out.trans hm35
      have HV5 : Hid (IvsAt (fun b => w.heap.size ≤ b) w5 (.slice oa L.length oc) L) := HV3.out.mv hm35 (by omega)
      have hlt3 := HC3.out.lt
      have HC5 : Hid (CaseOk bc B w5) := ((HC3.out.alloc _).alloc _).below hg.below (by simp only [World.size_alloc]; omega)
      have hs5 : w3.heap.size + 1 < w5.heap.size := by have := hg.below.size; simp only [World.size_alloc] at this; omega
      have q0 : w5.cell? ⟨w3.heap.size, 0, none⟩ = some (.int .i64 ak) := (hg.below.cell (p := ⟨w3.heap.size, 0, none⟩) (by simp only [World.size_alloc]; omega)).trans (by go_simp)
      have q1 : w5.cell? ⟨w3.heap.size, 1, none⟩ = some (.int .i64 an) := (hg.below.cell (p := ⟨w3.heap.size, 1, none⟩) (by simp only [World.size_alloc]; omega)).trans (by go_simp)
      have q2 : w5.cell? ⟨w3.heap.size, 2, none⟩ = some (.string as0) := (hg.below.cell (p := ⟨w3.heap.size, 2, none⟩) (by simp only [World.size_alloc]; omega)).trans (by go_simp)
      have q3 : w5.cell? ⟨w3.heap.size + 1, 0, none⟩ = some (.int .i64 bk) := (hg.below.cell (p := ⟨w3.heap.size + 1, 0, none⟩) (by simp only [World.size_alloc]; omega)).trans (by go_simp)
      have q4 : w5.cell? ⟨w3.heap.size + 1, 1, none⟩ = some (.int .i64 bn) := (hg.below.cell (p := ⟨w3.heap.size + 1, 1, none⟩) (by simp only [World.size_alloc]; omega)).trans (by go_simp)
      have q5 : w5.cell? ⟨w3.heap.size + 1, 2, none⟩ = some (.string bs0) := (hg.below.cell (p := ⟨w3.heap.size + 1, 2, none⟩) (by simp only [World.size_alloc]; omega)).trans (by go_simp)
      have HINT : Hid (∀ W, CaseOk bc B W → Calls Try.prog 34 #[.pointer (some ⟨bc, 0, none⟩), .int .i64 5] W (IntPost bc B 5 W)) := fun W h => cInt_any bc B 5 W (by omega) (by omega) h
      have hg5 := Lib.hid hg
      clear hg HCMP
      have f5 : ∀ b o, w3.heap.size ≤ b → b ≤ w3.heap.size + 1 → w5.frozen? ⟨b, o, none⟩ = false := fun b o h1 h2 => by
        rw [hg5.out.below.frozen (p := ⟨b, o, none⟩) (by simp only [World.size_alloc]; omega)]
        have hb : b = w3.heap.size ∨ b = w3.heap.size + 1 := by omega
        rcases hb with rfl | rfl <;> go_simp
      have g0 := f5 w3.heap.size 0 (by omega) (by omega)
      have g1 := f5 w3.heap.size 1 (by omega) (by omega)
      have g2 := f5 w3.heap.size 2 (by omega) (by omega)
      have g3 := f5 (w3.heap.size + 1) 0 (by omega) (by omega)
      have g4 := f5 (w3.heap.size + 1) 1 (by omega) (by omega)
      have g5 := f5 (w3.heap.size + 1) 2 (by omega) (by omega)
      clear f5 hg5
      have HM35 := Lib.hid hm35
      clear hm35 HM5 HV5
      go_upto_if 22 with fail
      go_cut [] from 11 to 49 (fun wx => ∃ x y : V, Hid (Mv bc w3 wx ∧ CaseOk bc B wx ∧ okV x = true ∧ okV y = true ∧ (-9223372036854775808 ≤ x.n ∧ x.n ≤ 9223372036854775807) ∧ CellsV wx w3.heap.size 0 x ∧ CellsV wx (w3.heap.size + 1) 0 y) ∧ w3.heap.size + 1 < wx.heap.size)
      case first =>
        by_cases hc0 : 0 < c
        · go_wp2_with fail
          go_meet
          refine ⟨⟨bk, bn, bs0⟩, ⟨ak, an, as0⟩, ⟨?_, ?_, HVB.out, HVA.out, HRB.out, ?_, ?_⟩, by simp only [World.size_setCell]; exact hs5⟩
          · exact (((((HM35.out.setNew (by omega) _ _).setNew (by omega) _ _).setNew (by omega) _ _).setNew (by omega) _ _).setNew (by omega) _ _).setNew (by omega) _ _
          · exact (((((HC5.out.setNew (by omega) _ _).setNew (by omega) _ _).setNew (by omega) _ _).setNew (by omega) _ _).setNew (by omega) _ _).setNew (by omega) _ _
          · refine ⟨?_, ?_, ?_⟩ <;> go_simp
          · refine ⟨?_, ?_, ?_⟩ <;> go_simp
        · go_wp2_with fail
          go_meet
          exact ⟨⟨ak, an, as0⟩, ⟨bk, bn, bs0⟩, ⟨HM35.out, HC5.out, HVA.out, HVB.out, HRA.out, ⟨q0, q1, q2⟩, ⟨q3, q4, q5⟩⟩, hs5⟩
      case rest =>
        obtain ⟨⟨xk, xn, xs⟩, ⟨yk, yn, ys⟩, HX, hsc⟩ := hcut
        have HR : Hid ((-9223372036854775808 ≤ xn ∧ xn ≤ 9223372036854775807)) := HX.out.2.2.2.2.1
        clear q0 q1 q2 q3 q4 q5 g0 g1 g2 g3 g4 g5 HCC HRA HRB HC5 HM35 hs5
        go_wp2_with fail
        refine (HINT.out _ HX.out.2.1).mono ?_
        rintro e w7 ⟨r5, rfl, hr0', hr1', hm7, ho7⟩
        have HM7 : Hid (Mv bc w3 w7) := HX.out.1.trans hm7
        have HO7 := Lib.hid ho7
        have hs7 : w3.heap.size + 1 < w7.heap.size := Nat.lt_of_lt_of_le hsc hm7.size
        have hx := HX.out.2.2.2.2.2
        obtain ⟨⟨c0, c1, c2⟩, c3, c4, c5⟩ := hx
        have q0 := (hm7.cell (p := ⟨w3.heap.size, 0, none⟩) (show w3.heap.size < _ by omega) (show w3.heap.size ≠ bc by omega)).trans c0
        have q1 := (hm7.cell (p := ⟨w3.heap.size, 1, none⟩) (show w3.heap.size < _ by omega) (show w3.heap.size ≠ bc by omega)).trans c1
        have q2 := (hm7.cell (p := ⟨w3.heap.size, 2, none⟩) (show w3.heap.size < _ by omega) (show w3.heap.size ≠ bc by omega)).trans c2
        have q3 := (hm7.cell (p := ⟨w3.heap.size + 1, 0, none⟩) (show w3.heap.size + 1 < _ by omega) (show w3.heap.size + 1 ≠ bc by omega)).trans c3
        have q4 := (hm7.cell (p := ⟨w3.heap.size + 1, 1, none⟩) (show w3.heap.size + 1 < _ by omega) (show w3.heap.size + 1 ≠ bc by omega)).trans c4
        have q5 := (hm7.cell (p := ⟨w3.heap.size + 1, 2, none⟩) (show w3.heap.size + 1 < _ by omega) (show w3.heap.size + 1 ≠ bc by omega)).trans c5
        simp only at q0 q1 q2 q3 q4 q5
        have HP0 : Hid (∀ W, Calls Try.prog 36 #[.agg #[.int .i64 xk, .int .i64 xn, .string xs]] W (PiecePost W)) := fun W => piece_from xk xn xs W HX.out.2.2.1
        have HP1 : Hid (∀ W, Calls Try.prog 37 #[.agg #[.int .i64 xk, .int .i64 xn, .string xs]] W (PiecePost W)) := fun W => piece_one xk xn xs W HX.out.2.2.1 HR.out.1 HR.out.2
        have HP2 : Hid (∀ W, Calls Try.prog 38 #[.agg #[.int .i64 xk, .int .i64 xn, .string xs], .agg #[.int .i64 yk, .int .i64 yn, .string ys]] W (PiecePost W)) := fun W => piece_between xk xn xs yk yn ys W HX.out.2.2.1 HX.out.2.2.2.1
        clear c0 c1 c2 c3 c4 c5 hm7 ho7 HX HR HINT
        have HV7 : Hid (IvsAt (fun b => w.heap.size ≤ b) w7 (.slice oa L.length oc) L) := HV3.out.mv HM7.out (by omega)
        have HMW : Hid (Mv bc w w7) := HM3.out.trans HM7.out
        have hsw : w.heap.size ≤ w7.heap.size := HMW.out.size
        clear HV3 HM3 HM7
        go_upto_block 2 with fail
        go_cut [7] from 11 to 49 (fun s7 wx => ∃ a c l, s7 = .slice a (List.length l) c ∧ Hid (IvsAt (fun b => w.heap.size ≤ b) wx (.slice a (List.length l) c) l ∧ Ord l ∧ l.length ≤ 1 ∧ Below w7.heap.size w7 wx))
        case first =>
          by_cases h0 : r5 = 0
          · subst h0
            go_wp2_with fail
            refine (HP0.out _).mono ?_
            rintro e w8 ⟨v8, l8, er8, rfl, hv8, ho8, hl8, hb8⟩
            obtain ⟨a8, c8, rfl⟩ := hv8.shape
            have HH := Lib.hid (And.intro (hv8.lo hsw) (And.intro ho8 (And.intro hl8 hb8)))
            clear hv8 ho8 hl8 hb8
            go_wp2_with fail
            go_meet
            exact ⟨a8, c8, l8, rfl, HH.out⟩
          by_cases h1 : r5 = 1
          · subst h1
            go_wp2_with fail
            refine (HP1.out _).mono ?_
            rintro e w8 ⟨v8, l8, er8, rfl, hv8, ho8, hl8, hb8⟩
            obtain ⟨a8, c8, rfl⟩ := hv8.shape
            have HH := Lib.hid (And.intro (hv8.lo hsw) (And.intro ho8 (And.intro hl8 hb8)))
            clear hv8 ho8 hl8 hb8
            go_wp2_with fail
            go_meet
            exact ⟨a8, c8, l8, rfl, HH.out⟩
          · have n0 : (r5 == 0) = false := by simpa using h0
            have n1 : (r5 == 1) = false := by simpa using h1
            go_wp2_with fail
            refine (HP2.out _).mono ?_
            rintro e w8 ⟨v8, l8, er8, rfl, hv8, ho8, hl8, hb8⟩
            obtain ⟨a8, c8, rfl⟩ := hv8.shape
            have HH := Lib.hid (And.intro (hv8.lo hsw) (And.intro ho8 (And.intro hl8 hb8)))
            clear hv8 ho8 hl8 hb8
            go_wp2_with fail
            go_meet
            exact ⟨a8, c8, l8, rfl, HH.out⟩
        case rest =>
          obtain ⟨a8, c8, l8, rfl, HH⟩ := hcut
          have HCOMB := Lib.hid (rCombine_any 1 (by decide) _ _ L l8 wc (HV7.out.below HH.out.2.2.2).all HH.out.1.all HL.out.1 HH.out.2.1 (by have := HL.out.2; omega) (by have := HH.out.2.2.1; omega))
          clear q0 q1 q2 q3 q4 q5 HP0 HP1 HP2
          go_wp2_with fail
          refine HCOMB.out.mono ?_
          rintro e w9 ⟨v9, M, rfl, hv9, hop, hlen, hb9⟩
          obtain ⟨a9, c9, rfl⟩ := hv9.shape
          have hb79 : Below w7.heap.size w7 w9 := HH.out.2.2.2.trans (hb9.mono HH.out.2.2.2.size)
          have H9 := Lib.hid (And.intro (hv9.lo (Nat.le_trans hsw HH.out.2.2.2.size)) (And.intro hop.ord (And.intro (show k - 1 + M.length ≤ 3 by have := HL.out.2; have := HH.out.2.2.1; omega) (And.intro (HMW.out.trans (Mv.of_below hb79)) (HO7.out.below hb79 HO7.out.lt.2)))))
          have hk1' : IntKind.i64.wrap ((k : Int) - 1) = ((k - 1 : Nat) : Int) := by rw [IntKind.wrap_i64]; omega
          clear hv9 hop hlen hb9 hb79 HCOMB
          go_wp2_with fail
          go_roundw
          case rel => exact ⟨k - 1, M, by omega, by first | rfl | (rw [hk1']) | go_num, H9.out.1, ⟨H9.out.2.1, H9.out.2.2.1⟩, H9.out.2.2.2.1, H9.out.2.2.2.2⟩
          case measure => simp [intOf]; omega
    · go_wp2_with fail
      refine (cBool_4 bc B wr HC.out).mono ?_
      rintro e w2 ⟨z, rfl, hm2, ho2⟩
      have HM2 : Hid (Mv bc w w2) := HM.out.trans hm2
      have HV2 := Lib.hid (HV.out.mv hm2 (by omega))
      have HO2 := Lib.hid ho2
      clear hm2 ho2 HV HM HC
      cases z with
      | false =>
        go_wp2_with fail
        go_ret
        exact ⟨_, L, rfl, HV2.out, HL.out.1, by have := HL.out.2; omega, HM2.out, HO2.out⟩
      | true =>
        go_wp2_with fail
        refine (rAll_any _).mono ?_
        rintro e w3 ⟨v3, rfl, hv3, hb3⟩
        obtain ⟨a3, c3, rfl⟩ := hv3.shape
        have HCOMB := Lib.hid (rCombine_any 3 (by decide) _ _ _ L w3 hv3.all (HV2.out.below hb3).all allL_can.ord HL.out.1 (by decide) (by have := HL.out.2; omega))
        have HB3 := Lib.hid hb3
        clear hv3 hb3
        go_wp2_with fail
        refine HCOMB.out.mono ?_
        rintro e w9 ⟨v9, M, rfl, hv9, hop, hlen, hb9⟩
        obtain ⟨a9, c9, rfl⟩ := hv9.shape
        have hs2 : w.heap.size ≤ w2.heap.size := HM2.out.size
        have hb29 : Below w2.heap.size w2 w9 := HB3.out.trans (hb9.mono HB3.out.size)
        have H9 := Lib.hid (And.intro (hv9.lo (Nat.le_trans hs2 HB3.out.size)) (And.intro hop.ord (And.intro (show M.length ≤ 4 by have := HL.out.2; simp only [List.length_cons, List.length_nil] at hlen; omega) (And.intro (HM2.out.trans (Mv.of_below hb29)) (HO2.out.below hb29 HO2.out.lt.2)))))
        clear hv9 hop hlen hb9 hb29 HCOMB
        go_wp2_with fail
        go_ret
        exact ⟨_, M, rfl, H9.out.1, H9.out.2.1, H9.out.2.2.1, H9.out.2.2.2.1, H9.out.2.2.2.2⟩
end Go.Proofs.Ytmhgmlnnipdomaa
