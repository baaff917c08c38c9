/- Law IntervalForms. -/
import Derived.Test.YtmhgmlnnipdomaaIvSpoilt
import Derived.Test.YtmhgmlnnipdomaaIvLists
import Derived.Test.YtmhgmlnnipdomaaCase5
namespace Go.Proofs.Ytmhgmlnnipdomaa
open Go.RowKit Go.Deep

theorem retV_ex (y : V × Bool) : ∃ k n s b, retV y = .tuple #[.agg #[.int .i64 k, .int .i64 n, .string s], .bool b] := ⟨_, _, _, _, rfl⟩
theorem two_valid (L : List IV) : ∃ b : Bool, (∀ v W, Ivs W v L → Calls Try.prog 11 #[v] W fun e w' => e = .returned (.bool b) ∧ Below W.heap.size W w') ∧
    ∀ v W, Ivs W v L → Calls Try.prog 12 #[v] W fun e w' => e = .returned (.bool b) ∧ Below W.heap.size W w' :=
  ⟨_, fun v W h => iValid_any v L W h, fun v W h => rValidL_any v L W h⟩
theorem two_least (L : List IV) : ∃ k n s b, (∀ v W, Ivs W v L → Calls Try.prog 13 #[v] W fun e w' => e = .returned (.tuple #[.agg #[.int .i64 k, .int .i64 n, .string s], .bool b]) ∧ Below W.heap.size W w') ∧
    ∀ v W, Ivs W v L → Calls Try.prog 14 #[v] W fun e w' => e = .returned (.tuple #[.agg #[.int .i64 k, .int .i64 n, .string s], .bool b]) ∧ Below W.heap.size W w' :=
  ⟨_, _, _, _, fun v W h => iLeast_any v L W h, fun v W h => rLeast_any v L W h⟩
theorem two_has (L : List IV) (k n : Int) (s : ByteArray) : ∃ b : Bool, (∀ v W, Ivs W v L → Calls Try.prog 16 #[v, .agg #[.int .i64 k, .int .i64 n, .string s]] W fun e w' => e = .returned (.bool b) ∧ Below W.heap.size W w') ∧
    ∀ v W, Ivs W v L → Calls Try.prog 17 #[v, .agg #[.int .i64 k, .int .i64 n, .string s]] W fun e w' => e = .returned (.bool b) ∧ Below W.heap.size W w' :=
  ⟨_, fun v W h => iHas_any v L k n s W h, fun v W h => rHasL_any v L k n s W h⟩
theorem neV_same (k n : Int) (s : ByteArray) (W : World) : (binOp .neq 25 (.agg #[.int .i64 k, .int .i64 n, .string s]) (.agg #[.int .i64 k, .int .i64 n, .string s])).run Try.prog W = .ok (.bool false) W := by
  rw [neV_run]; simp
/-- Three cells of a value, kept. -/
def C3 (W : World) (b : Nat) (k n : Int) (s : ByteArray) : Prop := W.cell? ⟨b, 0, none⟩ = some (.int .i64 k) ∧ W.cell? ⟨b, 1, none⟩ = some (.int .i64 n) ∧ W.cell? ⟨b, 2, none⟩ = some (.string s)
theorem C3.mv {w w' : World} {b bc : Nat} {k n : Int} {s : ByteArray} (h : C3 w b k n s) (hm : Mv bc w w') (hb : b < w.heap.size) (hn : b ≠ bc) : C3 w' b k n s :=
  ⟨(hm.cell (p := ⟨b, 0, none⟩) hb hn).trans h.1, (hm.cell (p := ⟨b, 1, none⟩) hb hn).trans h.2.1, (hm.cell (p := ⟨b, 2, none⟩) hb hn).trans h.2.2⟩
theorem C3.new (w : World) (k n : Int) (s : ByteArray) (t : TypeId) : C3 (w.alloc (.cells #[.int .i64 k, .int .i64 n, .string s] t)) w.heap.size k n s :=
  ⟨World.cell?_alloc_mark w #[.int .i64 k, .int .i64 n, .string s] t (0, 0) 0, World.cell?_alloc_mark w #[.int .i64 k, .int .i64 n, .string s] t (0, 0) 1, World.cell?_alloc_mark w #[.int .i64 k, .int .i64 n, .string s] t (0, 0) 2⟩
/-- Values stand one behind the other in a block. -/
def VL (w : World) (b : Nat) (vs : List V) : Prop := b < w.heap.size ∧ ∀ i (h : i < vs.length), CellsV w b (i * 3) vs[i]
theorem VL.same {w w' : World} {b : Nat} {vs : List V} (h : VL w b vs) (hs : w.heap.size ≤ w'.heap.size) (hb : w'.heap[b]? = w.heap[b]?) : VL w' b vs := ⟨Nat.lt_of_lt_of_le h.1 hs, fun i hi => (h.2 i hi).same hb⟩

set_option maxRecDepth 100000 in
set_option maxHeartbeats 8000000 in
theorem intervalForms_walk (cv : Value) (cn : Nat) (raw : Value) (R : List IV) (ka na : Int) (sa : ByteArray) (w : World) (hcv : BytesAt w cv cn) (hraw : Ivs w raw R) :
    Calls Try.prog 3 #[cv, raw, .agg #[.int .i64 ka, .int .i64 na, .string sa]] w fun e w' => e = .returned (.bool true) ∧ Below w.heap.size w w' := by
  have HN : Hid (∀ O1, Calls Try.prog 8 #[cv, .int .i64 90] (w.alloc O1) (NewPost (w.alloc O1))) := fun O1 => cNew_any cv cn _ (hcv.below (by (repeat (first | exact Below.refl _ _ | assumption | refine Below.drew ?_ | refine Below.setCell ?_ (by simp; try omega) _ | refine Below.alloc ?_ (by simp; try omega) _))))
  obtain ⟨qa, qc, rfl, _⟩ := hcv
  obtain ⟨ra, rc, m, R', rfl, hm, hm1, hm2, hm3, hrl, hr⟩ := hraw.cut80
  have HRR := Lib.hid hr
  clear hraw hr hrl
  generalize R.length = rn at *
  have hmA : (0 : Int) ≤ (m : Int) := by omega
  have hmB : (m : Int) ≤ (rc : Int) := by omega
  have HBEG : Hid (∀ W, Calls Try.prog 18 #[] W fun e w' => e = .returned (.bool true) ∧ Below W.heap.size W w') := begun3_any
  go_enter Try.func3, Try.ntmps3
  go_wp2_with fail
  refine (HN.out _).mono ?_
  rintro e d0 ⟨bc, rfl, hb1, hbc, hok⟩
  have hs1 := hb1.size
  simp only [World.size_alloc] at hs1 hbc hb1
  have hbw : Below w.heap.size w d0 := Below.trans (by (repeat (first | exact Below.refl _ _ | assumption | refine Below.drew ?_ | refine Below.setCell ?_ (by simp; try omega) _ | refine Below.alloc ?_ (by simp; try omega) _))) (hb1.mono (by omega))
  have B0 := Lib.hid hbw
  have K0 := Lib.hid hok
  have hbl := hok.lt.1
  have hs0 : w.heap.size ≤ d0.heap.size := hbw.size
  have A0 : Hid (C3 d0 w.heap.size ka na sa) := by
    obtain ⟨p0, p1, p2⟩ := C3.new w ka na sa 25
    exact ⟨(hb1.cell (p := ⟨w.heap.size, 0, none⟩) (by simp only; omega)).trans p0, (hb1.cell (p := ⟨w.heap.size, 1, none⟩) (by simp only; omega)).trans p1, (hb1.cell (p := ⟨w.heap.size, 2, none⟩) (by simp only; omega)).trans p2⟩
  have G0 : Hid (IvsAt (fun b => b ≠ bc) d0 (.slice ra m rc) R') := (HRR.out.below hbw).weak (fun b h => by omega)
  obtain ⟨bv, hbv⟩ : ∃ bv, w.heap.size = bv := ⟨_, rfl⟩
  have hbvs : bv < d0.heap.size := by omega
  have hbvc : bv ≠ bc := by omega
  rw [hbv] at A0 ⊢
  clear hb1 hok HN HRR hbw
  go_upto_region 2 with fail
  go_cut [1] (fun s1 wx => s1 = .slice ra m rc ∧ wx = d0)
  case first =>
    have h80 : (¬ (80 : Int) < rn ∧ rn = m) ∨ ((80 : Int) < rn ∧ m = 80) := by omega
    rcases h80 with ⟨h80, rfl⟩ | ⟨h80, rfl⟩
    · have hq : ((80 : Int) < rn) = False := by simpa using h80
      go_wp2_with fail
      go_meet
      exact ⟨rfl, rfl⟩
    · have hq : (80 : Int) ≤ rc := by omega
      go_wp2_with fail
      go_meet
      exact ⟨rfl, rfl⟩
  case rest =>
    obtain ⟨rfl, hwx⟩ := hcut
    subst hwx
    clear hm hm1 hm2 hm3 hmA hmB
    go_wp2_with fail
    refine (cInterval_any bc wc.heap.size wc K0.out).mono ?_
    rintro e d1 ⟨v, A, rfl, hv, ho, hl, hm, hk⟩
    obtain ⟨aA, cA, rfl⟩ := hv.shape
    have GA := Lib.hid (hv.ne (bc := bc) hbl)
    have M1 := Lib.hid hm
    have hd1 : wc.heap.size ≤ d1.heap.size := hm.size
    have K1 := Lib.hid hk
    clear hv ho hl hm hk
    go_wp2_with fail
    refine (spoilt_any bc wc.heap.size d1 K1.out).mono ?_
    rintro e d2 ⟨v, B, rfl, hv, hm, hk⟩
    obtain ⟨aB, cB, rfl⟩ := hv.shape
    have GB := Lib.hid (hv.ne (bc := bc) (by omega))
    have GA2 := Lib.hid (GA.out.mvn hm)
    have M2 : Hid (Mv bc wc d2) := M1.out.trans hm
    have hd2 : wc.heap.size ≤ d2.heap.size := M2.out.size
    have K2 := Lib.hid hk
    clear hv hm hk GA M1 K1
    go_wp2_with fail
    obtain ⟨sb, hsb⟩ : ∃ sb, d2.heap.size = sb := ⟨_, rfl⟩
    have HLL : Hid (LNe bc (d2.alloc (.cells #[.slice aA A.length cA, .slice aB B.length cB, .slice ra m rc] 23)) sb [(.slice aA A.length cA, A), (.slice aB B.length cB, B), (.slice ra m rc, R')]) := by
      rw [← hsb]; exact LNe.new3 GA2.out GB.out (G0.out.mvn M2.out) (by omega) _
    have HML : Hid (Mv bc wc (d2.alloc (.cells #[.slice aA A.length cA, .slice aB B.length cB, .slice ra m rc] 23))) := M2.out.alloc _
    have HKL : Hid (CaseOk bc wc.heap.size (d2.alloc (.cells #[.slice aA A.length cA, .slice aB B.length cB, .slice ra m rc] 23))) := K2.out.alloc _
    obtain ⟨LL, hLL⟩ : ∃ LL : List (Value × List IV), LL = [(.slice aA A.length cA, A), (.slice aB B.length cB, B), (.slice ra m rc, R')] := ⟨_, rfl⟩
    have LEN : Hid (LL.length = 3) := by rw [hLL]; rfl
    rw [← hLL] at HLL
    rw [hsb]
    generalize d2.alloc (.cells #[.slice aA A.length cA, .slice aB B.length cB, .slice ra m rc] 23) = wL at *
    have BL : Hid (Below w.heap.size w wL) := B0.out.trans (HML.out.below (by omega) hs0)
    have hzL : wc.heap.size ≤ wL.heap.size := HML.out.size
    have AL : Hid (C3 wL bv ka na sa) := A0.out.mv HML.out hbvs hbvc
    have hbvL : bv < wL.heap.size := by omega
    clear hLL hsb GA2 GB G0 M2 K2 A0 K0 B0 HML hd1 hd2 hbvs
    go_loopw [30] (fun i wr => ∃ k : Nat, k ≤ 3 ∧ i = .int .i64 k ∧ Hid (Mv bc wL wr ∧ CaseOk bc wc.heap.size wr)) (fun i _ => 3 - (intOf i).toNat)
    case atStart => exact ⟨0, by omega, rfl, Mv.refl _ _, HKL.out⟩
    case round =>
      obtain ⟨k, hk, rfl, HR⟩ := hrel
      have hzr : wL.heap.size ≤ wr.heap.size := HR.out.1.size
      by_cases hlt : k < 3
      · have hlt' : (k : Int) < 3 := by omega
        have hkL : k < LL.length := by rw [LEN.out]; exact hlt
        have hcell := (HLL.out.mv HR.out.1).get k hkL
        generalize LL[k] = x at hcell
        obtain ⟨va, A⟩ := x
        obtain ⟨c0, hA⟩ := hcell
        simp only at c0 hA
        obtain ⟨aA, cA, rfl⟩ := hA.shape
        have HA0 := Lib.hid hA
        obtain ⟨vb, hV1, hV2⟩ := two_valid A
        have HV1 := Lib.hid hV1
        have HV2 := Lib.hid hV2
        have nV : (vb != vb) = false := by simp
        obtain ⟨xk, xn, xs, xb, hL1, hL2⟩ := two_least A
        have HL1 := Lib.hid hL1
        have HL2 := Lib.hid hL2
        have nL : (xb != xb) = false := by simp
        clear hA hkL hV1 hV2 hL1 hL2
        go_wp2_with fail
        refine (HV1.out _ wr HA0.out.all).mono ?_
        rintro e w1 ⟨rfl, hb⟩
        have HA1 := Lib.hid (HA0.out.below hb)
        have Q1 := Lib.hid hb
        clear hb HA0 c0
        go_wp2_with fail
        refine (HV2.out _ w1 HA1.out.all).mono ?_
        rintro e w2 ⟨rfl, hb⟩
        have HA2 := Lib.hid (HA1.out.below hb)
        have Q2 := Lib.hid (Q1.out.trans (hb.mono Q1.out.size))
        clear hb HA1 Q1
        go_wp2_with fail
        refine (HL1.out _ w2 HA2.out.all).mono ?_
        rintro e w3 ⟨rfl, hb⟩
        have HA3 := Lib.hid (HA2.out.below hb)
        have Q3 := Lib.hid (Q2.out.trans (hb.mono Q2.out.size))
        clear hb HA2 Q2 HV1 HV2 HL1
        have hz3 : wr.heap.size ≤ w3.heap.size := Q3.out.size
        go_wp2_with fail
        obtain ⟨bx, hbx⟩ : ∃ bx, w3.heap.size = bx := ⟨_, rfl⟩
        have X3 : Hid (C3 (w3.alloc (.cells #[.int .i64 xk, .int .i64 xn, .string xs] 25)) bx xk xn xs) := by rw [← hbx]; exact C3.new w3 xk xn xs _
        have Q4 : Hid (Below wr.heap.size wr (w3.alloc (.cells #[.int .i64 xk, .int .i64 xn, .string xs] 25))) := Q3.out.alloc hz3 _
        have HA4 : Hid (IvsAt (fun b => b ≠ bc) (w3.alloc (.cells #[.int .i64 xk, .int .i64 xn, .string xs] 25)) (.slice aA A.length cA) A) := HA3.out.below ((Below.refl _ _).alloc (Nat.le_refl _) _)
        have hbx4 : bx < (w3.alloc (.cells #[.int .i64 xk, .int .i64 xn, .string xs] 25)).heap.size := by rw [← hbx]; simp
        have hbxc : bx ≠ bc := by omega
        rw [hbx]
        generalize w3.alloc (.cells #[.int .i64 xk, .int .i64 xn, .string xs] 25) = w4 at *
        clear hbx HA3 Q3
        refine (HL2.out _ w4 HA4.out.all).mono ?_
        rintro e w5 ⟨rfl, hb⟩
        have HA5 := Lib.hid (HA4.out.below hb)
        have Q5 := Lib.hid (Q4.out.trans (hb.mono Q4.out.size))
        have X5 : Hid (C3 w5 bx xk xn xs) := X3.out.mv (Mv.of_below hb) hbx4 hbxc
        have hbx5 : bx < w5.heap.size := Nat.lt_of_lt_of_le hbx4 hb.size
        clear hb HA4 Q4 X3 HL2 hbx4
        go_upto_region 10 with fail
        obtain ⟨by_, hby⟩ : ∃ by_, w5.heap.size = by_ := ⟨_, rfl⟩
        have Y6 : Hid (C3 (w5.alloc (.cells #[.int .i64 xk, .int .i64 xn, .string xs] 25)) by_ xk xn xs) := by rw [← hby]; exact C3.new w5 xk xn xs _
        have X6 : Hid (C3 (w5.alloc (.cells #[.int .i64 xk, .int .i64 xn, .string xs] 25)) bx xk xn xs) := X5.out.mv ((Mv.refl bc _).alloc _) hbx5 hbxc
        have Q6 : Hid (Below wr.heap.size wr (w5.alloc (.cells #[.int .i64 xk, .int .i64 xn, .string xs] 25))) := Q5.out.alloc Q5.out.size _
        have HA6 : Hid (IvsAt (fun b => b ≠ bc) (w5.alloc (.cells #[.int .i64 xk, .int .i64 xn, .string xs] 25)) (.slice aA A.length cA) A) := HA5.out.below ((Below.refl _ _).alloc (Nat.le_refl _) _)
        have hbx6 : bx < (w5.alloc (.cells #[.int .i64 xk, .int .i64 xn, .string xs] 25)).heap.size := by simp only [World.size_alloc]; omega
        rw [hby]
        generalize w5.alloc (.cells #[.int .i64 xk, .int .i64 xn, .string xs] 25) = w6 at *
        clear hby HA5 Q5 X5 hbx5
        have MR6 : Hid (Mv bc wL w6) := HR.out.1.trans (Mv.of_below Q6.out)
        have K6 : Hid (CaseOk bc wc.heap.size w6) := HR.out.2.below Q6.out HR.out.2.lt.2
        have HSK : Hid (∀ W, Mv bc w6 W → (W.cell? ⟨bv, 0, none⟩ = some (.int .i64 ka) ∧ W.cell? ⟨bv, 1, none⟩ = some (.int .i64 na) ∧ W.cell? ⟨bv, 2, none⟩ = some (.string sa)) ∧ W.cell? ⟨bx, 0, none⟩ = some (.int .i64 xk) ∧ W.cell? ⟨bx, 1, none⟩ = some (.int .i64 xn) ∧ W.cell? ⟨bx, 2, none⟩ = some (.string xs)) := fun W hm =>
          ⟨AL.out.mv (MR6.out.trans hm) hbvL hbvc, X6.out.mv hm hbx6 hbxc⟩
        obtain ⟨x0, x1, x2⟩ := X6.out
        obtain ⟨y0, y1, y2⟩ := Y6.out
        have hne := neV_same xk xn xs
        go_upto_region 12 with fail
        clear y0 y1 y2 x0 x1 x2 hne Y6 X6 nV nL
        have hS6 := HSK.out w6 (Mv.refl _ _)
        go_region_held3 (fun W => (W.cell? ⟨bv, 0, none⟩ = some (.int .i64 ka) ∧ W.cell? ⟨bv, 1, none⟩ = some (.int .i64 na) ∧ W.cell? ⟨bv, 2, none⟩ = some (.string sa)) ∧ W.cell? ⟨bx, 0, none⟩ = some (.int .i64 xk) ∧ W.cell? ⟨bx, 1, none⟩ = some (.int .i64 xn) ∧ W.cell? ⟨bx, 2, none⟩ = some (.string xs))
          (first | exact HSd.out | exact hS6 | exact HSK.out _ (Mv.alloc (by assumption) _))
          (first | (go_at_call 15; (with_reducible refine (cAny_any bc wc.heap.size _ (by first | exact K6.out | exact K6.out.drew)).mono ?_); rintro e wzd ⟨kd, nd, sd, rfl, -, -, -, hmd0, hokd⟩; have hmd : Mv bc w6 wzd := (by first | exact hmd0 | exact (Mv.refl bc w6).drew.trans hmd0); have HSd := Lib.hid (HSK.out wzd hmd); clear hmd0))
        go_wp2_with fail
        obtain ⟨sb2, hsb2⟩ : ∃ sb2, wzd.heap.size = sb2 := ⟨_, rfl⟩
        have V2 : VL (wzd.alloc (.cells #[.int .i64 ka, .int .i64 na, .string sa, .int .i64 kd, .int .i64 nd, .string sd, .int .i64 xk, .int .i64 xn, .string xs] 25)) sb2 [⟨ka, na, sa⟩, ⟨kd, nd, sd⟩, ⟨xk, xn, xs⟩] := by
          subst hsb2
          refine ⟨by simp, fun i hi => ?_⟩
          have hi3 : i < 3 := hi
          have hc : i = 0 ∨ i = 1 ∨ i = 2 := by omega
          rcases hc with rfl | rfl | rfl <;> (refine ⟨?_, ?_, ?_⟩ <;> go_simp)
        have HM7 : Hid (Mv bc w6 (wzd.alloc (.cells #[.int .i64 ka, .int .i64 na, .string sa, .int .i64 kd, .int .i64 nd, .string sd, .int .i64 xk, .int .i64 xn, .string xs] 25))) := hmd.alloc _
        have K7 : Hid (CaseOk bc wc.heap.size (wzd.alloc (.cells #[.int .i64 ka, .int .i64 na, .string sa, .int .i64 kd, .int .i64 nd, .string sd, .int .i64 xk, .int .i64 xn, .string xs] 25))) := hokd.alloc _
        obtain ⟨vs2, hvs2⟩ : ∃ vs2 : List V, vs2 = [⟨ka, na, sa⟩, ⟨kd, nd, sd⟩, ⟨xk, xn, xs⟩] := ⟨_, rfl⟩
        have hvl2 : Hid (vs2.length = 3) := by rw [hvs2]; rfl
        rw [← hvs2] at V2
        rw [hsb2]
        generalize wzd.alloc (.cells #[.int .i64 ka, .int .i64 na, .string sa, .int .i64 kd, .int .i64 nd, .string sd, .int .i64 xk, .int .i64 xn, .string xs] 25) = w7 at *
        have HV2 := Lib.hid V2
        have HA7 := Lib.hid (HA6.out.mvn HM7.out)
        have ML7 : Hid (Mv bc wL w7) := MR6.out.trans HM7.out
        clear V2 hvs2 hsb2 hmd hokd HSd HSK hS6 HA6 HM7 MR6 K6 Q6
        go_loopw [63] (fun i wr7 => ∃ j : Nat, j ≤ 3 ∧ i = .int .i64 j ∧ Hid (Below w7.heap.size w7 wr7)) (fun i _ => 3 - (intOf i).toNat)
        case atStart => exact ⟨0, by omega, rfl, Below.refl _ _⟩
        case round =>
          obtain ⟨j, hj, rfl, HRJ⟩ := hrel
          have hw7r : w7.heap.size ≤ wr.heap.size := HRJ.out.size
          by_cases hjt : j < 3
          · have hjt' : (j : Int) < 3 := by omega
            have hjL : j < vs2.length := by rw [hvl2.out]; exact hjt
            have hy0 := (HV2.out.2 j hjL).same (HRJ.out.block sb2 HV2.out.1)
            generalize vs2[j] = y at hy0
            obtain ⟨qk, qn, qs⟩ := y
            obtain ⟨f0, f1, f2⟩ := hy0
            simp only at f0 f1 f2
            obtain ⟨hh, hH1, hH2⟩ := two_has A qk qn qs
            have nH : (hh != hh) = false := by simp
            have HAr := Lib.hid (HA7.out.below HRJ.out)
            have HH1 : Hid (∀ W, Below wr.heap.size wr W → Calls Try.prog 16 #[.slice aA A.length cA, .agg #[.int .i64 qk, .int .i64 qn, .string qs]] W fun e w' => e = .returned (.bool hh) ∧ Below W.heap.size W w') := fun W h => hH1 _ W (HAr.out.below h).all
            have HH2 : Hid (∀ W, Below wr.heap.size wr W → Calls Try.prog 17 #[.slice aA A.length cA, .agg #[.int .i64 qk, .int .i64 qn, .string qs]] W fun e w' => e = .returned (.bool hh) ∧ Below W.heap.size W w') := fun W h => hH2 _ W (HAr.out.below h).all
            clear hH1 hH2 hjL HAr
            go_wp2_with fail
            obtain ⟨bw, hbw⟩ : ∃ bw, wr.heap.size = bw := ⟨_, rfl⟩
            have W8 : C3 (wr.alloc (.cells #[.int .i64 qk, .int .i64 qn, .string qs] 25)) bw qk qn qs := by rw [← hbw]; exact C3.new wr qk qn qs _
            have Q8 : Hid (Below wr.heap.size wr (wr.alloc (.cells #[.int .i64 qk, .int .i64 qn, .string qs] 25))) := (Below.refl _ _).alloc (Nat.le_refl _) _
            have hbw8 : bw < (wr.alloc (.cells #[.int .i64 qk, .int .i64 qn, .string qs] 25)).heap.size := by rw [← hbw]; simp
            rw [hbw]
            generalize wr.alloc (.cells #[.int .i64 qk, .int .i64 qn, .string qs] 25) = w8 at *
            obtain ⟨p0, p1, p2⟩ := W8
            have hz8 : wr.heap.size ≤ w8.heap.size := Q8.out.size
            have HK : Hid (∀ W, Below w8.heap.size w8 W → W.cell? ⟨bw, 0, none⟩ = some (.int .i64 qk) ∧ W.cell? ⟨bw, 1, none⟩ = some (.int .i64 qn) ∧ W.cell? ⟨bw, 2, none⟩ = some (.string qs)) := fun W hb => ⟨(hb.cell (p := ⟨bw, 0, none⟩) hbw8).trans p0, (hb.cell (p := ⟨bw, 1, none⟩) hbw8).trans p1, (hb.cell (p := ⟨bw, 2, none⟩) hbw8).trans p2⟩
            have HG1 : Hid (∀ W, Below w8.heap.size w8 W → Calls Try.prog 16 #[.slice aA A.length cA, .agg #[.int .i64 qk, .int .i64 qn, .string qs]] W fun e w' => e = .returned (.bool hh) ∧ Below W.heap.size W w') := fun W h => HH1.out W (Q8.out.trans (h.mono hz8))
            have HG2 : Hid (∀ W, Below w8.heap.size w8 W → Calls Try.prog 17 #[.slice aA A.length cA, .agg #[.int .i64 qk, .int .i64 qn, .string qs]] W fun e w' => e = .returned (.bool hh) ∧ Below W.heap.size W w') := fun W h => HH2.out W (Q8.out.trans (h.mono hz8))
            clear f0 f1 f2 hbw HH1 HH2
            go_region_held3 (fun W => W.cell? ⟨bw, 0, none⟩ = some (.int .i64 qk) ∧ W.cell? ⟨bw, 1, none⟩ = some (.int .i64 qn) ∧ W.cell? ⟨bw, 2, none⟩ = some (.string qs))
              (first | exact ⟨p0b, p1b, p2b⟩ | exact ⟨p0a, p1a, p2a⟩ | exact ⟨p0, p1, p2⟩)
              (first | (go_at_call 16; (with_reducible refine (HG1.out _ (by (repeat (first | exact Below.refl _ _ | assumption | refine Below.drew ?_ | refine Below.setCell ?_ (by simp; try omega) _ | refine Below.alloc ?_ (by simp; try omega) _)))).mono ?_); rintro e wza ⟨rfl, hg⟩; have hba : Below w8.heap.size w8 wza := Below.trans (by (repeat (first | exact Below.refl _ _ | assumption | refine Below.drew ?_ | refine Below.setCell ?_ (by simp; try omega) _ | refine Below.alloc ?_ (by simp; try omega) _))) (hg.mono (by first | (simp; done) | ((try simp); exact Below.size (by assumption)))); obtain ⟨p0a, p1a, p2a⟩ := HK.out wza hba; clear hg) | (go_at_call 17; (with_reducible refine (HG2.out _ (by (repeat (first | exact Below.refl _ _ | assumption | refine Below.drew ?_ | refine Below.setCell ?_ (by simp; try omega) _ | refine Below.alloc ?_ (by simp; try omega) _)))).mono ?_); rintro e wzb ⟨rfl, hg⟩; have hbb : Below w8.heap.size w8 wzb := Below.trans (by (repeat (first | exact Below.refl _ _ | assumption | refine Below.drew ?_ | refine Below.setCell ?_ (by simp; try omega) _ | refine Below.alloc ?_ (by simp; try omega) _))) (hg.mono (by first | (simp; done) | ((try simp); exact Below.size (by assumption)))); obtain ⟨p0b, p1b, p2b⟩ := HK.out wzb hbb; clear hg))
            have BZ := Lib.hid hbb
            clear p0 p1 p2 p0a p1a p2a p0b p1b p2b hba hbb HG1 HG2 HK
            go_wp2_with fail
            go_roundw
            case rel => exact ⟨j + 1, by omega, by go_num, HRJ.out.trans ((Q8.out.trans (BZ.out.mono hz8)).mono hw7r)⟩
            case measure => simp [intOf]; omega
          · go_wp2_with fail
            go_roundw
            case rel => exact ⟨k + 1, by omega, by go_num, ML7.out.trans (Mv.of_below HRJ.out), K7.out.below HRJ.out K7.out.lt.2⟩
            case measure => simp [intOf]; omega
      · go_wp2_with fail
        have BF : Hid (Below w.heap.size w wr) := BL.out.trans (HR.out.1.below (by omega) (by omega))
        refine (HBEG.out _).mono ?_
        rintro e z0 ⟨rfl, hb⟩
        have BF0 := Lib.hid (BF.out.trans (hb.mono BF.out.size))
        clear hb
        go_wp2_with fail
        go_ret
        exact ⟨rfl, BF0.out⟩
end Go.Proofs.Ytmhgmlnnipdomaa
