/- Law CodecValues: values and rows are written as the reference writes them: the call returns true. -/
import Derived.Test.YtkhbephcmcnfjaaBegun2
import Derived.Test.YtkhbephcmcnfjaaCase6
import Derived.Test.YtkhbephcmcnfjaaLawReads
namespace Go.Proofs.Ytkhbephcmcnfjaa
open Go.RowKit Go.Deep

def ValsB (w : World) (b : Nat) (vs : List V) : Prop := b < w.heap.size ∧ ∀ i (h : i < vs.length), CellsV w b (i * 3) vs[i]
theorem ValsB.below {w w' : World} {b : Nat} {vs : List V} (h : ValsB w b vs) (hb : Below w.heap.size w w') : ValsB w' b vs :=
  ⟨Nat.lt_of_lt_of_le h.1 hb.size, fun i hi => (h.2 i hi).below hb h.1⟩

theorem reads_take {w : World} {a : Option Addr} {c : Nat} {L : List UInt8} (h : Reads w (.slice a L.length c) L) : Reads w (.slice a (L.take 200).length c) (L.take 200) := by
  obtain ⟨_, _, e, h1, h2, h3, h4⟩ := h
  simp only [Value.slice.injEq] at e
  obtain ⟨rfl, -, rfl⟩ := e
  refine ⟨a, c, rfl, by rw [List.length_take]; omega, h2, h3, fun p hp j u hj => h4 p hp j u ?_⟩
  simp only [bts, List.getElem?_map, List.getElem?_take] at hj ⊢
  by_cases hjl : j < 200
  · rwa [if_pos hjl] at hj
  · rw [if_neg hjl] at hj; simp at hj

set_option maxRecDepth 100000 in
theorem part_eq (a : Option Addr) (L : List UInt8) (c : Nat) (w : World) (h1 : L.length ≤ c) : Calls Try.prog 20 #[.slice a L.length c] w fun e w' => e = .returned (.slice a (L.take 200).length c) ∧ w' = w := by
  have hlc : (L.length : Int) ≤ c := by omega
  go_enter Try.func20, Try.ntmps20
  go_wp2
  case inl =>
    go_ret
    exact ⟨by show _ = Ending.returned (.slice a (min 200 L.length) c); rw [Nat.min_eq_left (by omega)]; rfl, rfl⟩
  case inr =>
    go_ret
    exact ⟨by show _ = Ending.returned (.slice a (min 200 L.length) c); rw [Nat.min_eq_right (by omega)]; rfl, rfl⟩

set_option maxRecDepth 100000 in
set_option maxHeartbeats 4000000 in
theorem values_walk (cv : Value) (cn : Nat) (dv : Value) (D : List UInt8) (vk vn : Int) (vs : ByteArray) (rv : Value) (rl : List V) (w : World) (hcv : BytesAt w cv cn) (hd : Reads w dv D)
    (hvn : -9223372036854775808 ≤ vk ∧ vk ≤ 9223372036854775807 ∧ -9223372036854775808 ≤ vn ∧ vn ≤ 9223372036854775807) (hr : RowAt w rv rl) (hrn : ∀ v ∈ rl, InR v) :
    Calls Try.prog 5 #[cv, dv, .agg #[.int .i64 vk, .int .i64 vn, .string vs], rv] w fun e w' => e = .returned (.bool true) ∧ Below w.heap.size w w' := by
  obtain ⟨ra, rc, rfl, hr0, hri⟩ := id hr
  have HR := Lib.hid hr
  have HRN := Lib.hid hrn
  have HVN := Lib.hid hvn
  have HN := Lib.hid (cNew_any cv cn (w.alloc (.cells #[.int .i64 vk, .int .i64 vn, .string vs] 42)) (hcv.below ((Below.refl _ _).alloc (Nat.le_refl _) _)))
  have HD := Lib.hid hd
  clear hd hcv hr hri hrn hvn
  go_enter Try.func5, Try.ntmps5
  go_wp2_with fail
  have VC : Hid (∀ W, Below (w.alloc (.cells #[.int .i64 vk, .int .i64 vn, .string vs] 42)).heap.size (w.alloc (.cells #[.int .i64 vk, .int .i64 vn, .string vs] 42)) W → W.cell? ⟨w.heap.size, 0, none⟩ = some (.int .i64 vk) ∧ W.cell? ⟨w.heap.size, 1, none⟩ = some (.int .i64 vn) ∧ W.cell? ⟨w.heap.size, 2, none⟩ = some (.string vs)) := fun W hW =>
    ⟨(hW.cell (p := ⟨w.heap.size, 0, none⟩) (by simp)).trans (World.cell?_alloc_mark w _ _ _ 0), (hW.cell (p := ⟨w.heap.size, 1, none⟩) (by simp)).trans (World.cell?_alloc_mark w _ _ _ 1), (hW.cell (p := ⟨w.heap.size, 2, none⟩) (by simp)).trans (World.cell?_alloc_mark w _ _ _ 2)⟩
  have HB0 : Hid (Below w.heap.size w (w.alloc (.cells #[.int .i64 vk, .int .i64 vn, .string vs] 42))) := (Below.refl _ _).alloc (Nat.le_refl _) _
  obtain ⟨w0, hw0⟩ : ∃ w0, w0 = w.alloc (.cells #[.int .i64 vk, .int .i64 vn, .string vs] 42) := ⟨_, rfl⟩
  rw [← hw0] at VC HB0 HN
  rw [← hw0]
  clear hw0
  refine HN.out.mono ?_
  rintro e w1 ⟨bc, rfl, hb1, hbc, hok⟩
  have HB1 := Lib.hid hb1
  have hbl := hok.lt
  obtain ⟨da, dn, dc, rfl⟩ := HD.out.form
  obtain ⟨rfl, hdc1, _⟩ := HD.out.full
  have HP := Lib.hid (part_eq da D dc w1 hdc1)
  have HPV : Hid (∀ W, Below w.heap.size w W → Reads W (.slice da (D.take 200).length dc) (D.take 200)) := fun W hW => reads_take (HD.out.below hW)
  clear hdc1
  have HOK := Lib.hid hok
  obtain ⟨P, hP⟩ : ∃ P, P = D.take 200 := ⟨_, rfl⟩
  have hPl : P.length ≤ 200 := by rw [hP, List.length_take]; omega
  rw [← hP] at HP HPV
  clear hP hok hb1 HN HD
  go_wp2_with fail
  refine HP.out.mono ?_
  rintro e wx ⟨rfl, hwx⟩
  subst hwx
  obtain ⟨a0, a1, a2⟩ := VC.out wx HB1.out
  have hok := HOK.out
  have hs0 := HB1.out.size
  clear HP
  go_wp2_with fail
  go_region_held3 (fun W => W.cell? ⟨w.heap.size, 0, none⟩ = some (.int .i64 vk) ∧ W.cell? ⟨w.heap.size, 1, none⟩ = some (.int .i64 vn) ∧ W.cell? ⟨w.heap.size, 2, none⟩ = some (.string vs))
    (first | exact ⟨a0d, a1d, a2d⟩ | exact ⟨a0, a1, a2⟩ | exact VC.out _ (Below.alloc (by assumption) (by omega) _))
    (first | (go_at_call 29; (with_reducible refine (cAny_any bc wx.heap.size _ (by first | exact hok | exact CaseOk.below hok (Below.drew (Below.refl _ _)) (Nat.le_refl _))).mono ?_); rintro e wd ⟨kd, nd, sd, rfl, hvd, hld, hud, hmd, hokd⟩; have hbd : Below w0.heap.size wx wd := Below.trans (by (repeat (first | exact Below.refl _ _ | assumption | refine Below.drew ?_ | refine Below.setCell ?_ (by simp; try omega) _ | refine Below.alloc ?_ (by simp; try omega) _))) (hmd.below hbc (by first | (simp; omega) | omega)); have hb0d : Below w0.heap.size w0 wd := HB1.out.trans hbd; obtain ⟨a0d, a1d, a2d⟩ := VC.out wd hb0d; have hzd : wx.heap.size ≤ wd.heap.size := hbd.size; clear hvd hmd))
  go_wp2_with fail
  have hV : ValsB (wd.alloc (.cells #[.int .i64 vk, .int .i64 vn, .string vs, .int .i64 kd, .int .i64 nd, .string sd] 42)) wd.heap.size [⟨vk, vn, vs⟩, ⟨kd, nd, sd⟩] := by
    refine ⟨by simp, fun i hi => ?_⟩
    have hi5 : i < 2 := hi
    have hc : i = 0 ∨ i = 1 := by omega
    rcases hc with rfl | rfl <;> (refine ⟨?_, ?_, ?_⟩ <;> go_simp)
  have BW5 : Hid (Below w.heap.size w (wd.alloc (.cells #[.int .i64 vk, .int .i64 vn, .string vs, .int .i64 kd, .int .i64 nd, .string sd] 42))) := HB0.out.trans ((Below.alloc hb0d (by omega) _).mono HB0.out.size)
  have hok5 : CaseOk bc wx.heap.size (wd.alloc (.cells #[.int .i64 vk, .int .i64 vn, .string vs, .int .i64 kd, .int .i64 nd, .string sd] 42)) := hokd.alloc _
  have hvl : [(⟨vk, vn, vs⟩ : V), (⟨kd, nd, sd⟩ : V)].length = 2 := rfl
  have HVI : Hid (∀ x ∈ [(⟨vk, vn, vs⟩ : V), (⟨kd, nd, sd⟩ : V)], InR x) := by
    intro x hx
    simp only [List.mem_cons, List.not_mem_nil, or_false] at hx
    rcases hx with rfl | rfl
    · exact HVN.out.2.2
    · exact ⟨hld, hud⟩
  generalize [(⟨vk, vn, vs⟩ : V), (⟨kd, nd, sd⟩ : V)] = xs at hV hvl HVI
  obtain ⟨NL, hNL⟩ : ∃ NL, NL = wd.heap.size := ⟨_, rfl⟩
  have hs5 : wx.heap.size ≤ (wd.alloc (.cells #[.int .i64 vk, .int .i64 vn, .string vs, .int .i64 kd, .int .i64 nd, .string sd] 42)).heap.size := by simp; omega
  rw [← hNL] at hV
  rw [← hNL]
  obtain ⟨w5, hw5⟩ : ∃ w5, w5 = wd.alloc (.cells #[.int .i64 vk, .int .i64 vn, .string vs, .int .i64 kd, .int .i64 nd, .string sd] 42) := ⟨_, rfl⟩
  rw [← hw5] at hV BW5 hok5 hs5
  rw [← hw5]
  have HV5 := Lib.hid hV
  have HOK5 := Lib.hid hok5
  have HS5 := Lib.hid hs5
  have hbcw : w.heap.size ≤ bc := Nat.le_trans HB0.out.size hbc
  clear hV hw5 hNL hbd hb0d hzd hokd hok hok5 HOK hld hud hs5 hs0 a0 a1 a2 a0d a1d a2d HVN HB0 HB1 VC
  go_loopg [32] 2 (fun g i wr => ∃ k : Nat, k ≤ 2 ∧ 2 - k ≤ g ∧ i = .int .i64 k ∧ Hid (Below w5.heap.size w5 wr))
  case atStart => exact ⟨0, by omega, by omega, rfl, Below.refl _ _⟩
  case round =>
    obtain ⟨k, hk, hgk, rfl, hbk⟩ := hrel
    by_cases hlt : k < 2
    · have hkd : decide ((k : Int) < 2) = true := by simp; omega
      have hv := HV5.out.below hbk.out
      obtain ⟨p0, p1, p2⟩ := hv.2 k (by omega)
      have hNLr : NL < wr.heap.size := hv.1
      have hxi : InR xs[k] := HVI.out _ (List.getElem_mem _)
      generalize xs[k] = p at p0 p1 p2 hxi
      obtain ⟨pk, pn, ps⟩ := p
      simp only at p0 p1 p2
      have HVr := Lib.hid hv
      have HXI := Lib.hid hxi
      clear hv hxi
      go_wp2_with fail
      obtain ⟨bp, hbp⟩ : ∃ bp, bp = wr.heap.size := ⟨_, rfl⟩
      have P0 : (wr.alloc (.cells #[.int .i64 pk, .int .i64 pn, .string ps] 42)).cell? ⟨wr.heap.size, 0, none⟩ = some (.int .i64 pk) := by go_simp
      have P1 : (wr.alloc (.cells #[.int .i64 pk, .int .i64 pn, .string ps] 42)).cell? ⟨wr.heap.size, 1, none⟩ = some (.int .i64 pn) := by go_simp
      have P2 : (wr.alloc (.cells #[.int .i64 pk, .int .i64 pn, .string ps] 42)).cell? ⟨wr.heap.size, 2, none⟩ = some (.string ps) := by go_simp
      have hbpl : wr.heap.size < (wr.alloc (.cells #[.int .i64 pk, .int .i64 pn, .string ps] 42)).heap.size := by simp
      have HBp : Hid (Below w5.heap.size w5 (wr.alloc (.cells #[.int .i64 pk, .int .i64 pn, .string ps] 42))) := Below.alloc hbk.out hbk.out.size _
      rw [← hbp] at P0 P1 P2 hbpl
      rw [← hbp]
      obtain ⟨wp, hwp⟩ : ∃ wp, wp = wr.alloc (.cells #[.int .i64 pk, .int .i64 pn, .string ps] 42) := ⟨_, rfl⟩
      rw [← hwp] at P0 P1 P2 hbpl HBp
      rw [← hwp]
      have HKP : Hid (∀ W, Below wp.heap.size wp W → W.cell? ⟨bp, 0, none⟩ = some (.int .i64 pk) ∧ W.cell? ⟨bp, 1, none⟩ = some (.int .i64 pn) ∧ W.cell? ⟨bp, 2, none⟩ = some (.string ps)) := fun W hb =>
        ⟨(hb.cell (p := ⟨bp, 0, none⟩) hbpl).trans P0, (hb.cell (p := ⟨bp, 1, none⟩) hbpl).trans P1, (hb.cell (p := ⟨bp, 2, none⟩) hbpl).trans P2⟩
      have HRd : Hid (∀ W, Below wp.heap.size wp W → Reads W (.slice da P.length dc) P) := fun W hb => HPV.out W (BW5.out.trans ((HBp.out.trans (hb.mono HBp.out.size)).mono BW5.out.size))
      obtain ⟨O, hO⟩ : ∃ O, O = (if vldB pk pn ps then P ++ encV ⟨pk, pn, ps⟩ else []) := ⟨_, rfl⟩
      obtain ⟨E, hE⟩ : ∃ E : Int, E = (if vldB pk pn ps then 0 else 10) := ⟨_, rfl⟩
      obtain ⟨Z, hZ⟩ : ∃ Z : Int, Z = (((if vldB pk pn ps then [] ++ encV ⟨pk, pn, ps⟩ else []) : List UInt8).length : Int) := ⟨_, rfl⟩
      have C1 : Hid (∀ W, Below wp.heap.size wp W → Calls Try.prog 30 #[.slice da P.length dc, .agg #[.int .i64 pk, .int .i64 pn, .string ps]] W fun e w' => ∃ u, e = .returned (.tuple #[u, .int .i64 E]) ∧ Reads w' u O ∧ Below W.heap.size W w') := fun W hW => by
        have := aValue_any (.slice da P.length dc) P pk pn ps W (HRd.out _ hW) (by omega) HXI.out.1 HXI.out.2
        rw [← hO, ← hE] at this
        exact this.mono (fun e w' ⟨u, he, ho, hb, _⟩ => ⟨u, he, ho.reads, hb⟩)
      have C2 : Hid (∀ W, Below wp.heap.size wp W → Calls Try.prog 31 #[.slice da P.length dc, .agg #[.int .i64 pk, .int .i64 pn, .string ps]] W fun e w' => ∃ u, e = .returned (.tuple #[u, .int .i64 E]) ∧ Reads w' u O ∧ Below W.heap.size W w') := fun W hW => by
        have := rAValue_any (.slice da P.length dc) P pk pn ps W (HRd.out _ hW) (by omega) HXI.out.1 HXI.out.2
        rw [← hO, ← hE] at this
        exact this.mono (fun e w' ⟨u, he, ho, hb, _⟩ => ⟨u, he, ho.reads, hb⟩)
      have C3 : Hid (∀ W, Calls Try.prog 32 #[.agg #[.int .i64 pk, .int .i64 pn, .string ps]] W fun e w' => e = .returned (.int .i64 Z) ∧ Below W.heap.size W w') := fun W => by
        have := aSize_any pk pn ps W HXI.out.1 HXI.out.2
        rwa [← hZ] at this
      have C4 : Hid (∀ W, Calls Try.prog 33 #[.agg #[.int .i64 pk, .int .i64 pn, .string ps]] W fun e w' => e = .returned (.int .i64 Z) ∧ Below W.heap.size W w') := fun W => by
        have := rSize_any pk pn ps W HXI.out.1 HXI.out.2
        rwa [← hZ] at this
      clear hO hE hZ hwp hbp hbpl hbk p0 p1 p2 hNLr HVr HXI HRd
      go_wp2_with fail
      refine (C1.out _ (Below.refl _ _)).mono ?_
      rintro e wq ⟨u1, rfl, hu1, hq1⟩
      have HQ1 := Lib.hid hq1
      have HU1 := Lib.hid hu1
      obtain ⟨P0, P1, P2⟩ := HKP.out wq hq1
      clear hq1 hu1 C1
      go_wp2_with fail
      refine (C2.out _ HQ1.out).mono ?_
      rintro e wt ⟨u2, rfl, hu2, hq2⟩
      have HQ2 := Lib.hid (HQ1.out.trans (hq2.mono HQ1.out.size))
      have HSM : Hid (∀ W, Below wt.heap.size wt W → Calls Try.prog 22 #[u1, u2] W fun e w' => e = .returned (.bool true) ∧ w' = W) := fun W hW => by
        have := same_any u1 u2 O O W ((HU1.out.below hq2).below hW) (hu2.below hW)
        simpa using this
      obtain ⟨P0, P1, P2⟩ := HKP.out wt HQ2.out
      clear hq2 hu2 C2 HU1
      go_wp2_with fail
      have hbt : Below wp.heap.size wp wt := HQ2.out
      clear HQ1
      go_region_held3 (fun W => W.cell? ⟨bp, 0, none⟩ = some (.int .i64 pk) ∧ W.cell? ⟨bp, 1, none⟩ = some (.int .i64 pn) ∧ W.cell? ⟨bp, 2, none⟩ = some (.string ps))
        (first | exact ⟨P0d, P1d, P2d⟩ | exact ⟨P0c, P1c, P2c⟩ | exact ⟨P0, P1, P2⟩)
        (first | (go_at_call 22; (with_reducible refine (HSM.out _ (by (repeat (first | exact Below.refl _ _ | assumption | refine Below.drew ?_ | refine Below.setCell ?_ (by simp; try omega) _ | refine Below.alloc ?_ (by simp; try omega) _)))).mono ?_); rintro e ws ⟨rfl, hws⟩; subst hws) | (go_at_call 32; (with_reducible refine (C3.out _).mono ?_); rintro e wc ⟨rfl, hg⟩; have hbc : Below wp.heap.size wp wc := Below.trans (by (repeat (first | exact Below.refl _ _ | assumption | refine Below.drew ?_ | refine Below.setCell ?_ (by simp; try omega) _ | refine Below.alloc ?_ (by simp; try omega) _))) (hg.mono (by first | (simp; done) | ((try simp); exact Below.size (by assumption)))); obtain ⟨P0c, P1c, P2c⟩ := HKP.out wc hbc; clear hg) | (go_at_call 33; (with_reducible refine (C4.out _).mono ?_); rintro e wf ⟨rfl, hg⟩; have hbf : Below wp.heap.size wp wf := Below.trans (by (repeat (first | exact Below.refl _ _ | assumption | refine Below.drew ?_ | refine Below.setCell ?_ (by simp; try omega) _ | refine Below.alloc ?_ (by simp; try omega) _))) (hg.mono (by first | (simp; done) | ((try simp); exact Below.size (by assumption)))); obtain ⟨P0d, P1d, P2d⟩ := HKP.out wf hbf; clear hg))
      go_wp2_with fail
      go_roundg (2 - (k + 1))
      case measure => omega
      case rel => exact ⟨k + 1, by omega, Nat.le_refl _, by go_num, HBp.out.trans (hbf.mono HBp.out.size)⟩
    · have hkd : decide ((k : Int) < 2) = false := by simp; omega
      have HB6 : Hid (Below w.heap.size w wr) := BW5.out.trans (hbk.out.mono BW5.out.size)
      have HOK6 := Lib.hid (HOK5.out.below hbk.out HS5.out)
      have hsr : wx.heap.size ≤ wr.heap.size := Nat.le_trans HS5.out hbk.out.size
      have HIN := Lib.hid (cInt_any bc _ 14 wr (by omega) (by omega) HOK6.out)
      clear HOK5 HS5 HV5 HVI hvl BW5 hbk hk hgk
      go_wp2_with fail
      refine HIN.out.mono ?_
      rintro e w7 ⟨r, rfl, hr0, hr1, hm7, hok7⟩
      have hr3 : r ≤ 13 := by omega
      obtain ⟨m, rfl⟩ : ∃ m : Nat, r = m := ⟨r.toNat, by omega⟩
      have HB7 : Hid (Below w.heap.size w w7) := HB6.out.trans (hm7.below hbcw HB6.out.size)
      have HCL := Lib.hid (cCells_n bc _ m w7 (by omega) hok7)
      clear hm7 hok7 HIN HB6 HOK6 hsr hr0 hr1
      go_wp2_with fail
      refine HCL.out.mono ?_
      rintro e w8 ⟨gv, gl, rfl, hll, hlv, hlr, hrt, hm8, hok8⟩
      have HB8 : Hid (Below w.heap.size w w8) := HB7.out.trans (hm8.below hbcw HB7.out.size)
      have HG : Hid (∀ W, Below w8.heap.size w8 W → RowAt W gv gl) := fun W hW => (hrt.rowB.below hW (Nat.le_refl _)).at hW.size
      have HGR := Lib.hid hlr
      obtain ⟨ga, gc, rfl, -, -⟩ := HG.out w8 (Below.refl _ _)
      clear hrt hm8 hok8 hlv hlr hll HCL HB7
      go_wp2_with fail
      have HE : Hid (∀ k, k < 2 → ∃ xa xc, ∃ xl : List V, (∀ v ∈ xl, InR v) ∧ ∀ W, Below (w8.alloc (.cells #[.slice ra rl.length rc, .slice ga gl.length gc] 25)).heap.size (w8.alloc (.cells #[.slice ra rl.length rc, .slice ga gl.length gc] 25)) W → W.cell? ⟨w8.heap.size, k, none⟩ = some (.slice xa xl.length xc) ∧ RowAt W (.slice xa xl.length xc) xl) := by
        intro k hk
        have hb9 : Below w8.heap.size w8 (w8.alloc (.cells #[.slice ra rl.length rc, .slice ga gl.length gc] 25)) := (Below.refl _ _).alloc (Nat.le_refl _) _
        have hc : k = 0 ∨ k = 1 := by omega
        rcases hc with rfl | rfl
        · exact ⟨ra, rc, rl, HRN.out, fun W hW => ⟨(hW.cell (p := ⟨w8.heap.size, 0, none⟩) (by simp)).trans (World.cell?_alloc_mark w8 _ _ _ 0), HR.out.below2 (HB8.out.trans ((hb9.trans (hW.mono hb9.size)).mono HB8.out.size))⟩⟩
        · exact ⟨ga, gc, gl, HGR.out, fun W hW => ⟨(hW.cell (p := ⟨w8.heap.size, 1, none⟩) (by simp)).trans (World.cell?_alloc_mark w8 _ _ _ 1), HG.out W (hb9.trans (hW.mono hb9.size))⟩⟩
      have HB9 : Hid (Below w.heap.size w (w8.alloc (.cells #[.slice ra rl.length rc, .slice ga gl.length gc] 25))) := HB8.out.alloc HB8.out.size _
      have hnr : w8.heap.size < (w8.alloc (.cells #[.slice ra rl.length rc, .slice ga gl.length gc] 25)).heap.size := by simp
      obtain ⟨NR, hNR⟩ : ∃ NR, NR = w8.heap.size := ⟨_, rfl⟩
      rw [← hNR] at HE hnr
      rw [← hNR]
      obtain ⟨w9, hw9⟩ : ∃ w9, w9 = (w8.alloc (.cells #[.slice ra rl.length rc, .slice ga gl.length gc] 25)) := ⟨_, rfl⟩
      rw [← hw9] at HE hnr HB9
      rw [← hw9]
      have HNR := Lib.hid hnr
      clear hNR hw9 hnr HG HGR HR HRN HB8
      go_loopg [72] 2 (fun g i wr => ∃ k : Nat, k ≤ 2 ∧ 2 - k ≤ g ∧ i = .int .i64 k ∧ Hid (Below w9.heap.size w9 wr))
      case atStart => exact ⟨0, by omega, by omega, rfl, Below.refl _ _⟩
      case round =>
        obtain ⟨k, hk, hgk, rfl, hbk⟩ := hrel
        by_cases hlt : k < 2
        · have hkd : decide ((k : Int) < 2) = true := by simp; omega
          obtain ⟨xa, xc, xl, hxr, hx⟩ := HE.out k hlt
          obtain ⟨c0, hxw⟩ := hx wr hbk.out
          have HXR := Lib.hid hxr
          have HX : Hid (∀ W, Below wr.heap.size wr W → RowAt W (.slice xa xl.length xc) xl) := fun W hW => (hx W (hbk.out.trans (hW.mono hbk.out.size))).2
          have HRd : Hid (∀ W, Below wr.heap.size wr W → Reads W (.slice da P.length dc) P) := fun W hb => HPV.out W (HB9.out.trans ((hbk.out.trans (hb.mono hbk.out.size)).mono HB9.out.size))
          obtain ⟨O, hO⟩ : ∃ O, O = rowOut P xl := ⟨_, rfl⟩
          obtain ⟨E, hE⟩ : ∃ E : Int, E = rowErr xl := ⟨_, rfl⟩
          obtain ⟨Z, hZ⟩ : ∃ Z : Int, Z = ((rowOut [] xl).length : Int) := ⟨_, rfl⟩
          have C1 : Hid (∀ W, Below wr.heap.size wr W → Calls Try.prog 36 #[.slice da P.length dc, .slice xa xl.length xc] W fun e w' => ∃ u, e = .returned (.tuple #[u, .int .i64 E]) ∧ Reads w' u O ∧ Below W.heap.size W w') := fun W hW => by
            have := aRow_any (.slice da P.length dc) (.slice xa xl.length xc) P xl W (HRd.out _ hW) (HX.out _ hW) (by omega) HXR.out
            rw [← hO, ← hE] at this
            exact this.mono (fun e w' ⟨u, he, ho, hb, _⟩ => ⟨u, he, ho.reads, hb⟩)
          have C2 : Hid (∀ W, Below wr.heap.size wr W → Calls Try.prog 37 #[.slice da P.length dc, .slice xa xl.length xc] W fun e w' => ∃ u, e = .returned (.tuple #[u, .int .i64 E]) ∧ Reads w' u O ∧ Below W.heap.size W w') := fun W hW => by
            have := rARow_any (.slice da P.length dc) (.slice xa xl.length xc) P xl W (HRd.out _ hW) (HX.out _ hW) (by omega) HXR.out
            rw [← hO, ← hE] at this
            exact this.mono (fun e w' ⟨u, he, ho, hb, _⟩ => ⟨u, he, ho.reads, hb⟩)
          have C3 : Hid (∀ W, Below wr.heap.size wr W → Calls Try.prog 38 #[.slice xa xl.length xc] W fun e w' => e = .returned (.int .i64 Z) ∧ Below W.heap.size W w') := fun W hW => by
            have := aRowSize_any (.slice xa xl.length xc) xl W (HX.out _ hW) HXR.out
            rwa [← hZ] at this
          have C4 : Hid (∀ W, Below wr.heap.size wr W → Calls Try.prog 39 #[.slice xa xl.length xc] W fun e w' => e = .returned (.int .i64 Z) ∧ Below W.heap.size W w') := fun W hW => by
            have := rRowSize_any (.slice xa xl.length xc) xl W (HX.out _ hW) HXR.out
            rwa [← hZ] at this
          have hbk2 := hbk
          have hnr2 : NR < wr.heap.size := Nat.lt_of_lt_of_le HNR.out hbk.out.size
          clear hO hE hZ HXR HRd hx hxr hxw HX hbk
          go_wp2_with fail
          refine (C1.out _ (Below.refl _ _)).mono ?_
          rintro e wq ⟨z1, rfl, hu1, hq1⟩
          have HQ1 := Lib.hid hq1
          have HU1 := Lib.hid hu1
          clear hq1 hu1 C1
          go_wp2_with fail
          refine (C2.out _ HQ1.out).mono ?_
          rintro e wt ⟨z2, rfl, hu2, hq2⟩
          have HQ2 := Lib.hid (HQ1.out.trans (hq2.mono HQ1.out.size))
          have HSM : Hid (∀ W, Below wt.heap.size wt W → Calls Try.prog 22 #[z1, z2] W fun e w' => e = .returned (.bool true) ∧ w' = W) := fun W hW => by
            have := same_any z1 z2 O O W ((HU1.out.below hq2).below hW) (hu2.below hW)
            simpa using this
          have hbt : Below wr.heap.size wr wt := HQ2.out
          clear hq2 hu2 C2 HU1 HQ1
          go_wp2_with fail
          refine (HSM.out _ (Below.refl _ _)).mono ?_
          rintro e ws ⟨rfl, hws⟩
          subst hws
          go_wp2_with fail
          refine (C3.out _ hbt).mono ?_
          rintro e wc ⟨rfl, hg⟩
          have hbcc : Below wr.heap.size wr wc := hbt.trans (hg.mono hbt.size)
          clear hg
          go_wp2_with fail
          refine (C4.out _ hbcc).mono ?_
          rintro e wf ⟨rfl, hg⟩
          have hbf : Below wr.heap.size wr wf := hbcc.trans (hg.mono hbcc.size)
          clear hg
          go_wp2_with fail
          go_roundg (2 - (k + 1))
          case measure => omega
          case rel => exact ⟨k + 1, by omega, Nat.le_refl _, by go_num, hbk2.out.trans (hbf.mono hbk2.out.size)⟩
        · have hkd : decide ((k : Int) < 2) = false := by simp; omega
          have HBA : Hid (Below w.heap.size w wr) := HB9.out.trans (hbk.out.mono HB9.out.size)
          have HBG := Lib.hid (begun2_any wr)
          clear HE HB9 hbk hk hgk
          go_wp2_with fail
          refine HBG.out.mono ?_
          rintro e wl ⟨rfl, hbl⟩
          have HBL : Hid (Below w.heap.size w wl) := HBA.out.trans (hbl.mono HBA.out.size)
          clear hbl
          go_wp2_with fail
          go_ret
          exact ⟨rfl, HBL.out⟩
end Go.Proofs.Ytkhbephcmcnfjaa
