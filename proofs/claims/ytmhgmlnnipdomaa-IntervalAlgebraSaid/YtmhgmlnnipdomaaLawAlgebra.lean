/- Law IntervalAlgebra. -/
import Derived.Test.YtmhgmlnnipdomaaIvLawOps
import Derived.Test.YtmhgmlnnipdomaaCase5
namespace Go.Proofs.Ytmhgmlnnipdomaa
open Go.RowKit Go.Deep

set_option maxRecDepth 100000 in
set_option maxHeartbeats 6000000 in
theorem intervalAlgebra_walk (cv : Value) (cn : Nat) (w : World) (hcv : BytesAt w cv cn) :
    Calls Try.prog 6 #[cv] w fun e w' => e = .returned (.bool true) ∧ Below w.heap.size w w' := by
  have HN := Lib.hid (cNew_120 cv cn w hcv)
  obtain ⟨qa, qc, rfl, _⟩ := hcv
  have HBEG : Hid (∀ W, Calls Try.prog 18 #[] W fun e w' => e = .returned (.bool true) ∧ Below W.heap.size W w') := begun3_any
  go_enter Try.func6, Try.ntmps6
  go_wp2_with fail
  refine HN.out.mono ?_
  rintro e d0 ⟨bc, rfl, hb1, hbc, hok⟩
  have B0 := Lib.hid hb1
  have K0 := Lib.hid hok
  have hbl := hok.lt.1
  have hs0 : w.heap.size ≤ d0.heap.size := hb1.size
  clear hb1 hok HN
  go_wp2_with fail
  refine (cInterval_any bc d0.heap.size d0 K0.out).mono ?_
  rintro e d1 ⟨v, A, rfl, hv, ho, hl, hm, hk⟩
  obtain ⟨aA, cA, rfl⟩ := hv.shape
  have hd1 : d0.heap.size ≤ d1.heap.size := hk.lt.2
  have GA := Lib.hid hv
  have CA : Hid (Can 4 A) := ⟨ho, hl⟩
  have M1 : Hid (Mv bc d0 d1) := hm
  have K1 := Lib.hid hk
  clear hv ho hl hm hk K0
  go_wp2_with fail
  refine (cInterval_any bc d0.heap.size d1 K1.out).mono ?_
  rintro e d2 ⟨v, B, rfl, hv, ho, hl, hm, hk⟩
  obtain ⟨aB, cB, rfl⟩ := hv.shape
  have hd2 : d0.heap.size ≤ d2.heap.size := hk.lt.2
  have GA' := Lib.hid (GA.out.mv hm (by omega))
  clear GA
  have GA := Lib.hid GA'.out
  clear GA'
  have GB := Lib.hid hv
  have CB : Hid (Can 4 B) := ⟨ho, hl⟩
  have M2 : Hid (Mv bc d0 d2) := M1.out.trans hm
  have K2 := Lib.hid hk
  clear hv ho hl hm hk K1 M1
  go_wp2_with fail
  refine (cInterval_any bc d0.heap.size d2 K2.out).mono ?_
  rintro e d3 ⟨v, X, rfl, hv, ho, hl, hm, hk⟩
  obtain ⟨aX, cX, rfl⟩ := hv.shape
  have hd3 : d0.heap.size ≤ d3.heap.size := hk.lt.2
  have GA' := Lib.hid (GA.out.mv hm (by omega))
  clear GA
  have GA := Lib.hid GA'.out
  clear GA'
  have GB' := Lib.hid (GB.out.mv hm (by omega))
  clear GB
  have GB := Lib.hid GB'.out
  clear GB'
  have GX := Lib.hid hv
  have CX : Hid (Can 4 X) := ⟨ho, hl⟩
  have M3 : Hid (Mv bc d0 d3) := M2.out.trans hm
  have K3 := Lib.hid hk
  clear hv ho hl hm hk K2 M2
  have Q0 : Hid (Below w.heap.size w d3) := B0.out.trans (M3.out.below (by omega) hs0)
  have HA := Lib.hid GA.out.all
  clear GA
  have HB := Lib.hid GB.out.all
  clear GB
  have HX := Lib.hid GX.out.all
  clear GX
  clear B0 M3 K3 hs0 hbl hbc hd1 hd2 hd3
  go_wp2_with fail
  refine (HBEG.out d3).mono ?_
  rintro e w1 ⟨rfl, hb⟩
  have Q1 := Lib.hid (Q0.out.trans (hb.mono Q0.out.size))
  clear Q0
  have HA' := Lib.hid (HA.out.below hb)
  clear HA
  have HA := Lib.hid HA'.out
  clear HA'
  have HB' := Lib.hid (HB.out.below hb)
  clear HB
  have HB := Lib.hid HB'.out
  clear HB'
  have HX' := Lib.hid (HX.out.below hb)
  clear HX
  have HX := Lib.hid HX'.out
  clear HX'
  clear hb
  go_wp2_with fail
  refine (lnot_any _ A w1 HA.out CA.out (by decide)).mono ?_
  rintro e w2 ⟨v, L1, rfl, hv, ho, hc, hb⟩
  obtain ⟨aL1, cL1, rfl⟩ := hv.shape
  have Q2 := Lib.hid (Q1.out.trans (hb.mono Q1.out.size))
  clear Q1
  have HA' := Lib.hid (HA.out.below hb)
  clear HA
  have HA := Lib.hid HA'.out
  clear HA'
  have HB' := Lib.hid (HB.out.below hb)
  clear HB
  have HB := Lib.hid HB'.out
  clear HB'
  have HX' := Lib.hid (HX.out.below hb)
  clear HX
  have HX := Lib.hid HX'.out
  clear HX'
  have HL1 := Lib.hid hv
  have OL1 := Lib.hid ho
  have CL1 := Lib.hid hc
  clear hv ho hc hb
  go_wp2_with fail
  refine (lnot_any _ L1 w2 HL1.out CL1.out (by decide)).mono ?_
  rintro e w3 ⟨v, L2, rfl, hv, ho, hc, hb⟩
  obtain ⟨aL2, cL2, rfl⟩ := hv.shape
  have Q3 := Lib.hid (Q2.out.trans (hb.mono Q2.out.size))
  clear Q2
  clear HL1
  have HA' := Lib.hid (HA.out.below hb)
  clear HA
  have HA := Lib.hid HA'.out
  clear HA'
  have HB' := Lib.hid (HB.out.below hb)
  clear HB
  have HB := Lib.hid HB'.out
  clear HB'
  have HX' := Lib.hid (HX.out.below hb)
  clear HX
  have HX := Lib.hid HX'.out
  clear HX'
  have HL2 := Lib.hid hv
  have OL2 := Lib.hid ho
  have CL2 := Lib.hid hc
  clear hv ho hc hb
  go_wp2_with fail
  refine (sameL_eq _ _ L2 A w3 HL2.out HA.out (alg_not CA.out.ord OL1.out OL2.out)).mono ?_
  rintro e w4 ⟨rfl, hb⟩
  have Q4 := Lib.hid (Q3.out.trans (hb.mono Q3.out.size))
  clear Q3
  clear HL2
  have HA' := Lib.hid (HA.out.below hb)
  clear HA
  have HA := Lib.hid HA'.out
  clear HA'
  have HB' := Lib.hid (HB.out.below hb)
  clear HB
  have HB := Lib.hid HB'.out
  clear HB'
  have HX' := Lib.hid (HX.out.below hb)
  clear HX
  have HX := Lib.hid HX'.out
  clear HX'
  clear hb
  go_wp2_with fail
  refine (lor_any _ _ A B w4 HA.out HB.out CA.out CB.out (by decide)).mono ?_
  rintro e w5 ⟨v, L3, rfl, hv, ho, hc, hb⟩
  obtain ⟨aL3, cL3, rfl⟩ := hv.shape
  have Q5 := Lib.hid (Q4.out.trans (hb.mono Q4.out.size))
  clear Q4
  have HA' := Lib.hid (HA.out.below hb)
  clear HA
  have HA := Lib.hid HA'.out
  clear HA'
  have HB' := Lib.hid (HB.out.below hb)
  clear HB
  have HB := Lib.hid HB'.out
  clear HB'
  have HX' := Lib.hid (HX.out.below hb)
  clear HX
  have HX := Lib.hid HX'.out
  clear HX'
  have HL3 := Lib.hid hv
  have OL3 := Lib.hid ho
  have CL3 := Lib.hid hc
  clear hv ho hc hb
  go_wp2_with fail
  refine (lor_any _ _ B A w5 HB.out HA.out CB.out CA.out (by decide)).mono ?_
  rintro e w6 ⟨v, L4, rfl, hv, ho, hc, hb⟩
  obtain ⟨aL4, cL4, rfl⟩ := hv.shape
  have Q6 := Lib.hid (Q5.out.trans (hb.mono Q5.out.size))
  clear Q5
  have HA' := Lib.hid (HA.out.below hb)
  clear HA
  have HA := Lib.hid HA'.out
  clear HA'
  have HB' := Lib.hid (HB.out.below hb)
  clear HB
  have HB := Lib.hid HB'.out
  clear HB'
  have HX' := Lib.hid (HX.out.below hb)
  clear HX
  have HX := Lib.hid HX'.out
  clear HX'
  have HL3' := Lib.hid (HL3.out.below hb)
  clear HL3
  have HL3 := Lib.hid HL3'.out
  clear HL3'
  have HL4 := Lib.hid hv
  have OL4 := Lib.hid ho
  have CL4 := Lib.hid hc
  clear hv ho hc hb
  go_wp2_with fail
  refine (sameL_eq _ _ L3 L4 w6 HL3.out HL4.out (alg_comm OL3.out OL4.out)).mono ?_
  rintro e w7 ⟨rfl, hb⟩
  have Q7 := Lib.hid (Q6.out.trans (hb.mono Q6.out.size))
  clear Q6
  clear HL3
  clear HL4
  have HA' := Lib.hid (HA.out.below hb)
  clear HA
  have HA := Lib.hid HA'.out
  clear HA'
  have HB' := Lib.hid (HB.out.below hb)
  clear HB
  have HB := Lib.hid HB'.out
  clear HB'
  have HX' := Lib.hid (HX.out.below hb)
  clear HX
  have HX := Lib.hid HX'.out
  clear HX'
  clear hb
  go_wp2_with fail
  refine (lor_any _ _ A B w7 HA.out HB.out CA.out CB.out (by decide)).mono ?_
  rintro e w8 ⟨v, L5, rfl, hv, ho, hc, hb⟩
  obtain ⟨aL5, cL5, rfl⟩ := hv.shape
  have Q8 := Lib.hid (Q7.out.trans (hb.mono Q7.out.size))
  clear Q7
  have HA' := Lib.hid (HA.out.below hb)
  clear HA
  have HA := Lib.hid HA'.out
  clear HA'
  have HB' := Lib.hid (HB.out.below hb)
  clear HB
  have HB := Lib.hid HB'.out
  clear HB'
  have HX' := Lib.hid (HX.out.below hb)
  clear HX
  have HX := Lib.hid HX'.out
  clear HX'
  have HL5 := Lib.hid hv
  have OL5 := Lib.hid ho
  have CL5 := Lib.hid hc
  clear hv ho hc hb
  go_wp2_with fail
  refine (land_any _ _ A L5 w8 HA.out HL5.out CA.out CL5.out (by decide)).mono ?_
  rintro e w9 ⟨v, L6, rfl, hv, ho, hc, hb⟩
  obtain ⟨aL6, cL6, rfl⟩ := hv.shape
  have Q9 := Lib.hid (Q8.out.trans (hb.mono Q8.out.size))
  clear Q8
  clear HL5
  have HA' := Lib.hid (HA.out.below hb)
  clear HA
  have HA := Lib.hid HA'.out
  clear HA'
  have HB' := Lib.hid (HB.out.below hb)
  clear HB
  have HB := Lib.hid HB'.out
  clear HB'
  have HX' := Lib.hid (HX.out.below hb)
  clear HX
  have HX := Lib.hid HX'.out
  clear HX'
  have HL6 := Lib.hid hv
  have OL6 := Lib.hid ho
  have CL6 := Lib.hid hc
  clear hv ho hc hb
  go_wp2_with fail
  refine (sameL_eq _ _ L6 A w9 HL6.out HA.out (alg_absorb CA.out.ord OL5.out OL6.out)).mono ?_
  rintro e w10 ⟨rfl, hb⟩
  have Q10 := Lib.hid (Q9.out.trans (hb.mono Q9.out.size))
  clear Q9
  clear HL6
  have HA' := Lib.hid (HA.out.below hb)
  clear HA
  have HA := Lib.hid HA'.out
  clear HA'
  have HB' := Lib.hid (HB.out.below hb)
  clear HB
  have HB := Lib.hid HB'.out
  clear HB'
  have HX' := Lib.hid (HX.out.below hb)
  clear HX
  have HX := Lib.hid HX'.out
  clear HX'
  clear hb
  go_wp2_with fail
  refine (lor_any _ _ B X w10 HB.out HX.out CB.out CX.out (by decide)).mono ?_
  rintro e w11 ⟨v, L7, rfl, hv, ho, hc, hb⟩
  obtain ⟨aL7, cL7, rfl⟩ := hv.shape
  have Q11 := Lib.hid (Q10.out.trans (hb.mono Q10.out.size))
  clear Q10
  have HA' := Lib.hid (HA.out.below hb)
  clear HA
  have HA := Lib.hid HA'.out
  clear HA'
  have HB' := Lib.hid (HB.out.below hb)
  clear HB
  have HB := Lib.hid HB'.out
  clear HB'
  have HX' := Lib.hid (HX.out.below hb)
  clear HX
  have HX := Lib.hid HX'.out
  clear HX'
  have HL7 := Lib.hid hv
  have OL7 := Lib.hid ho
  have CL7 := Lib.hid hc
  clear hv ho hc hb
  go_wp2_with fail
  refine (land_any _ _ A L7 w11 HA.out HL7.out CA.out CL7.out (by decide)).mono ?_
  rintro e w12 ⟨v, L8, rfl, hv, ho, hc, hb⟩
  obtain ⟨aL8, cL8, rfl⟩ := hv.shape
  have Q12 := Lib.hid (Q11.out.trans (hb.mono Q11.out.size))
  clear Q11
  clear HL7
  have HA' := Lib.hid (HA.out.below hb)
  clear HA
  have HA := Lib.hid HA'.out
  clear HA'
  have HB' := Lib.hid (HB.out.below hb)
  clear HB
  have HB := Lib.hid HB'.out
  clear HB'
  have HX' := Lib.hid (HX.out.below hb)
  clear HX
  have HX := Lib.hid HX'.out
  clear HX'
  have HL8 := Lib.hid hv
  have OL8 := Lib.hid ho
  have CL8 := Lib.hid hc
  clear hv ho hc hb
  go_wp2_with fail
  refine (land_any _ _ A B w12 HA.out HB.out CA.out CB.out (by decide)).mono ?_
  rintro e w13 ⟨v, L9, rfl, hv, ho, hc, hb⟩
  obtain ⟨aL9, cL9, rfl⟩ := hv.shape
  have Q13 := Lib.hid (Q12.out.trans (hb.mono Q12.out.size))
  clear Q12
  have HA' := Lib.hid (HA.out.below hb)
  clear HA
  have HA := Lib.hid HA'.out
  clear HA'
  have HB' := Lib.hid (HB.out.below hb)
  clear HB
  have HB := Lib.hid HB'.out
  clear HB'
  have HX' := Lib.hid (HX.out.below hb)
  clear HX
  have HX := Lib.hid HX'.out
  clear HX'
  have HL8' := Lib.hid (HL8.out.below hb)
  clear HL8
  have HL8 := Lib.hid HL8'.out
  clear HL8'
  have HL9 := Lib.hid hv
  have OL9 := Lib.hid ho
  have CL9 := Lib.hid hc
  clear hv ho hc hb
  go_wp2_with fail
  refine (land_any _ _ A X w13 HA.out HX.out CA.out CX.out (by decide)).mono ?_
  rintro e w14 ⟨v, L10, rfl, hv, ho, hc, hb⟩
  obtain ⟨aL10, cL10, rfl⟩ := hv.shape
  have Q14 := Lib.hid (Q13.out.trans (hb.mono Q13.out.size))
  clear Q13
  have HA' := Lib.hid (HA.out.below hb)
  clear HA
  have HA := Lib.hid HA'.out
  clear HA'
  have HB' := Lib.hid (HB.out.below hb)
  clear HB
  have HB := Lib.hid HB'.out
  clear HB'
  have HX' := Lib.hid (HX.out.below hb)
  clear HX
  have HX := Lib.hid HX'.out
  clear HX'
  have HL8' := Lib.hid (HL8.out.below hb)
  clear HL8
  have HL8 := Lib.hid HL8'.out
  clear HL8'
  have HL9' := Lib.hid (HL9.out.below hb)
  clear HL9
  have HL9 := Lib.hid HL9'.out
  clear HL9'
  have HL10 := Lib.hid hv
  have OL10 := Lib.hid ho
  have CL10 := Lib.hid hc
  clear hv ho hc hb
  go_wp2_with fail
  refine (lor_any _ _ L9 L10 w14 HL9.out HL10.out CL9.out CL10.out (by decide)).mono ?_
  rintro e w15 ⟨v, L11, rfl, hv, ho, hc, hb⟩
  obtain ⟨aL11, cL11, rfl⟩ := hv.shape
  have Q15 := Lib.hid (Q14.out.trans (hb.mono Q14.out.size))
  clear Q14
  clear HL9
  clear HL10
  have HA' := Lib.hid (HA.out.below hb)
  clear HA
  have HA := Lib.hid HA'.out
  clear HA'
  have HB' := Lib.hid (HB.out.below hb)
  clear HB
  have HB := Lib.hid HB'.out
  clear HB'
  have HX' := Lib.hid (HX.out.below hb)
  clear HX
  have HX := Lib.hid HX'.out
  clear HX'
  have HL8' := Lib.hid (HL8.out.below hb)
  clear HL8
  have HL8 := Lib.hid HL8'.out
  clear HL8'
  have HL11 := Lib.hid hv
  have OL11 := Lib.hid ho
  have CL11 := Lib.hid hc
  clear hv ho hc hb
  go_wp2_with fail
  refine (sameL_eq _ _ L8 L11 w15 HL8.out HL11.out (alg_distr OL7.out OL8.out OL9.out OL10.out OL11.out)).mono ?_
  rintro e w16 ⟨rfl, hb⟩
  have Q16 := Lib.hid (Q15.out.trans (hb.mono Q15.out.size))
  clear Q15
  clear HL8
  clear HL11
  have HA' := Lib.hid (HA.out.below hb)
  clear HA
  have HA := Lib.hid HA'.out
  clear HA'
  have HB' := Lib.hid (HB.out.below hb)
  clear HB
  have HB := Lib.hid HB'.out
  clear HB'
  have HX' := Lib.hid (HX.out.below hb)
  clear HX
  have HX := Lib.hid HX'.out
  clear HX'
  clear hb
  go_wp2_with fail
  refine (lor_any _ _ A B w16 HA.out HB.out CA.out CB.out (by decide)).mono ?_
  rintro e w17 ⟨v, L12, rfl, hv, ho, hc, hb⟩
  obtain ⟨aL12, cL12, rfl⟩ := hv.shape
  have Q17 := Lib.hid (Q16.out.trans (hb.mono Q16.out.size))
  clear Q16
  have HA' := Lib.hid (HA.out.below hb)
  clear HA
  have HA := Lib.hid HA'.out
  clear HA'
  have HB' := Lib.hid (HB.out.below hb)
  clear HB
  have HB := Lib.hid HB'.out
  clear HB'
  have HX' := Lib.hid (HX.out.below hb)
  clear HX
  have HX := Lib.hid HX'.out
  clear HX'
  have HL12 := Lib.hid hv
  have OL12 := Lib.hid ho
  have CL12 := Lib.hid hc
  clear hv ho hc hb
  go_wp2_with fail
  refine (lnot_any _ L12 w17 HL12.out CL12.out (by decide)).mono ?_
  rintro e w18 ⟨v, L13, rfl, hv, ho, hc, hb⟩
  obtain ⟨aL13, cL13, rfl⟩ := hv.shape
  have Q18 := Lib.hid (Q17.out.trans (hb.mono Q17.out.size))
  clear Q17
  clear HL12
  have HA' := Lib.hid (HA.out.below hb)
  clear HA
  have HA := Lib.hid HA'.out
  clear HA'
  have HB' := Lib.hid (HB.out.below hb)
  clear HB
  have HB := Lib.hid HB'.out
  clear HB'
  have HX' := Lib.hid (HX.out.below hb)
  clear HX
  have HX := Lib.hid HX'.out
  clear HX'
  have HL13 := Lib.hid hv
  have OL13 := Lib.hid ho
  have CL13 := Lib.hid hc
  clear hv ho hc hb
  go_wp2_with fail
  refine (lnot_any _ A w18 HA.out CA.out (by decide)).mono ?_
  rintro e w19 ⟨v, L14, rfl, hv, ho, hc, hb⟩
  obtain ⟨aL14, cL14, rfl⟩ := hv.shape
  have Q19 := Lib.hid (Q18.out.trans (hb.mono Q18.out.size))
  clear Q18
  have HA' := Lib.hid (HA.out.below hb)
  clear HA
  have HA := Lib.hid HA'.out
  clear HA'
  have HB' := Lib.hid (HB.out.below hb)
  clear HB
  have HB := Lib.hid HB'.out
  clear HB'
  have HX' := Lib.hid (HX.out.below hb)
  clear HX
  have HX := Lib.hid HX'.out
  clear HX'
  have HL13' := Lib.hid (HL13.out.below hb)
  clear HL13
  have HL13 := Lib.hid HL13'.out
  clear HL13'
  have HL14 := Lib.hid hv
  have OL14 := Lib.hid ho
  have CL14 := Lib.hid hc
  clear hv ho hc hb
  go_wp2_with fail
  refine (lnot_any _ B w19 HB.out CB.out (by decide)).mono ?_
  rintro e w20 ⟨v, L15, rfl, hv, ho, hc, hb⟩
  obtain ⟨aL15, cL15, rfl⟩ := hv.shape
  have Q20 := Lib.hid (Q19.out.trans (hb.mono Q19.out.size))
  clear Q19
  have HA' := Lib.hid (HA.out.below hb)
  clear HA
  have HA := Lib.hid HA'.out
  clear HA'
  have HB' := Lib.hid (HB.out.below hb)
  clear HB
  have HB := Lib.hid HB'.out
  clear HB'
  have HX' := Lib.hid (HX.out.below hb)
  clear HX
  have HX := Lib.hid HX'.out
  clear HX'
  have HL13' := Lib.hid (HL13.out.below hb)
  clear HL13
  have HL13 := Lib.hid HL13'.out
  clear HL13'
  have HL14' := Lib.hid (HL14.out.below hb)
  clear HL14
  have HL14 := Lib.hid HL14'.out
  clear HL14'
  have HL15 := Lib.hid hv
  have OL15 := Lib.hid ho
  have CL15 := Lib.hid hc
  clear hv ho hc hb
  go_wp2_with fail
  refine (land_any _ _ L14 L15 w20 HL14.out HL15.out CL14.out CL15.out (by decide)).mono ?_
  rintro e w21 ⟨v, L16, rfl, hv, ho, hc, hb⟩
  obtain ⟨aL16, cL16, rfl⟩ := hv.shape
  have Q21 := Lib.hid (Q20.out.trans (hb.mono Q20.out.size))
  clear Q20
  clear HL14
  clear HL15
  have HA' := Lib.hid (HA.out.below hb)
  clear HA
  have HA := Lib.hid HA'.out
  clear HA'
  have HB' := Lib.hid (HB.out.below hb)
  clear HB
  have HB := Lib.hid HB'.out
  clear HB'
  have HX' := Lib.hid (HX.out.below hb)
  clear HX
  have HX := Lib.hid HX'.out
  clear HX'
  have HL13' := Lib.hid (HL13.out.below hb)
  clear HL13
  have HL13 := Lib.hid HL13'.out
  clear HL13'
  have HL16 := Lib.hid hv
  have OL16 := Lib.hid ho
  have CL16 := Lib.hid hc
  clear hv ho hc hb
  go_wp2_with fail
  refine (sameL_eq _ _ L13 L16 w21 HL13.out HL16.out (alg_morgan OL12.out OL13.out OL14.out OL15.out OL16.out)).mono ?_
  rintro e w22 ⟨rfl, hb⟩
  have Q22 := Lib.hid (Q21.out.trans (hb.mono Q21.out.size))
  clear Q21
  clear HL13
  clear HL16
  have HA' := Lib.hid (HA.out.below hb)
  clear HA
  have HA := Lib.hid HA'.out
  clear HA'
  have HB' := Lib.hid (HB.out.below hb)
  clear HB
  have HB := Lib.hid HB'.out
  clear HB'
  have HX' := Lib.hid (HX.out.below hb)
  clear HX
  have HX := Lib.hid HX'.out
  clear HX'
  clear hb
  go_wp2_with fail
  refine (lnot_any _ A w22 HA.out CA.out (by decide)).mono ?_
  rintro e w23 ⟨v, L17, rfl, hv, ho, hc, hb⟩
  obtain ⟨aL17, cL17, rfl⟩ := hv.shape
  have Q23 := Lib.hid (Q22.out.trans (hb.mono Q22.out.size))
  clear Q22
  have HA' := Lib.hid (HA.out.below hb)
  clear HA
  have HA := Lib.hid HA'.out
  clear HA'
  have HB' := Lib.hid (HB.out.below hb)
  clear HB
  have HB := Lib.hid HB'.out
  clear HB'
  have HX' := Lib.hid (HX.out.below hb)
  clear HX
  have HX := Lib.hid HX'.out
  clear HX'
  have HL17 := Lib.hid hv
  have OL17 := Lib.hid ho
  have CL17 := Lib.hid hc
  clear hv ho hc hb
  go_wp2_with fail
  refine (lor_any _ _ A L17 w23 HA.out HL17.out CA.out CL17.out (by decide)).mono ?_
  rintro e w24 ⟨v, L18, rfl, hv, ho, hc, hb⟩
  obtain ⟨aL18, cL18, rfl⟩ := hv.shape
  have Q24 := Lib.hid (Q23.out.trans (hb.mono Q23.out.size))
  clear Q23
  clear HL17
  have HA' := Lib.hid (HA.out.below hb)
  clear HA
  have HA := Lib.hid HA'.out
  clear HA'
  have HB' := Lib.hid (HB.out.below hb)
  clear HB
  have HB := Lib.hid HB'.out
  clear HB'
  have HX' := Lib.hid (HX.out.below hb)
  clear HX
  have HX := Lib.hid HX'.out
  clear HX'
  have HL18 := Lib.hid hv
  have OL18 := Lib.hid ho
  have CL18 := Lib.hid hc
  clear hv ho hc hb
  go_wp2_with fail
  refine (iAll_any w24).mono ?_
  rintro e w25 ⟨v, rfl, hv, hb⟩
  obtain ⟨aT, cT, rfl⟩ := hv.shape
  have Q25 := Lib.hid (Q24.out.trans (hb.mono Q24.out.size))
  clear Q24
  have HA' := Lib.hid (HA.out.below hb)
  clear HA
  have HA := Lib.hid HA'.out
  clear HA'
  have HB' := Lib.hid (HB.out.below hb)
  clear HB
  have HB := Lib.hid HB'.out
  clear HB'
  have HX' := Lib.hid (HX.out.below hb)
  clear HX
  have HX := Lib.hid HX'.out
  clear HX'
  have HL18' := Lib.hid (HL18.out.below hb)
  clear HL18
  have HL18 := Lib.hid HL18'.out
  clear HL18'
  obtain ⟨T, hT⟩ : ∃ T, T = allL := ⟨_, rfl⟩
  change IvsAt _ _ (.slice aT allL.length cT) allL at hv
  have HT : Hid (Ivs _ (.slice aT 1 cT) allL) := hv.all
  clear hv hb
  have LT : Hid (allL.length = 1) := rfl
  go_wp2_with fail
  refine (sameL_eq (.slice aL18 L18.length cL18) (.slice aT 1 cT) L18 allL w25 HL18.out HT.out (alg_all OL17.out OL18.out)).mono ?_
  rintro e w26 ⟨rfl, hb⟩
  have Q26 := Lib.hid (Q25.out.trans (hb.mono Q25.out.size))
  clear Q25
  clear HL18
  have HA' := Lib.hid (HA.out.below hb)
  clear HA
  have HA := Lib.hid HA'.out
  clear HA'
  have HB' := Lib.hid (HB.out.below hb)
  clear HB
  have HB := Lib.hid HB'.out
  clear HB'
  have HX' := Lib.hid (HX.out.below hb)
  clear HX
  have HX := Lib.hid HX'.out
  clear HX'
  clear hb
  clear HT
  go_wp2_with fail
  refine (lnot_any _ A w26 HA.out CA.out (by decide)).mono ?_
  rintro e w27 ⟨v, L19, rfl, hv, ho, hc, hb⟩
  obtain ⟨aL19, cL19, rfl⟩ := hv.shape
  have Q27 := Lib.hid (Q26.out.trans (hb.mono Q26.out.size))
  clear Q26
  have HA' := Lib.hid (HA.out.below hb)
  clear HA
  have HA := Lib.hid HA'.out
  clear HA'
  have HB' := Lib.hid (HB.out.below hb)
  clear HB
  have HB := Lib.hid HB'.out
  clear HB'
  have HX' := Lib.hid (HX.out.below hb)
  clear HX
  have HX := Lib.hid HX'.out
  clear HX'
  have HL19 := Lib.hid hv
  have OL19 := Lib.hid ho
  have CL19 := Lib.hid hc
  clear hv ho hc hb
  go_wp2_with fail
  refine (land_any _ _ A L19 w27 HA.out HL19.out CA.out CL19.out (by decide)).mono ?_
  rintro e w28 ⟨v, L20, rfl, hv, ho, hc, hb⟩
  obtain ⟨aL20, cL20, rfl⟩ := hv.shape
  have Q28 := Lib.hid (Q27.out.trans (hb.mono Q27.out.size))
  clear Q27
  clear HL19
  have HA' := Lib.hid (HA.out.below hb)
  clear HA
  have HA := Lib.hid HA'.out
  clear HA'
  have HB' := Lib.hid (HB.out.below hb)
  clear HB
  have HB := Lib.hid HB'.out
  clear HB'
  have HX' := Lib.hid (HX.out.below hb)
  clear HX
  have HX := Lib.hid HX'.out
  clear HX'
  have HL20 := Lib.hid hv
  have OL20 := Lib.hid ho
  have CL20 := Lib.hid hc
  clear hv ho hc hb
  have e20 : L20.length = 0 := by rw [alg_none OL19.out OL20.out]; rfl
  rw [e20]
  clear e20 HL20
  go_wp2_with fail
  refine (lor_any _ _ B X w28 HB.out HX.out CB.out CX.out (by decide)).mono ?_
  rintro e w29 ⟨v, L21, rfl, hv, ho, hc, hb⟩
  obtain ⟨aL21, cL21, rfl⟩ := hv.shape
  have Q29 := Lib.hid (Q28.out.trans (hb.mono Q28.out.size))
  clear Q28
  have HA' := Lib.hid (HA.out.below hb)
  clear HA
  have HA := Lib.hid HA'.out
  clear HA'
  have HB' := Lib.hid (HB.out.below hb)
  clear HB
  have HB := Lib.hid HB'.out
  clear HB'
  have HX' := Lib.hid (HX.out.below hb)
  clear HX
  have HX := Lib.hid HX'.out
  clear HX'
  have HL21 := Lib.hid hv
  have OL21 := Lib.hid ho
  have CL21 := Lib.hid hc
  clear hv ho hc hb
  go_wp2_with fail
  refine (lor_any _ _ A L21 w29 HA.out HL21.out CA.out CL21.out (by decide)).mono ?_
  rintro e w30 ⟨v, L22, rfl, hv, ho, hc, hb⟩
  obtain ⟨aL22, cL22, rfl⟩ := hv.shape
  have Q30 := Lib.hid (Q29.out.trans (hb.mono Q29.out.size))
  clear Q29
  clear HL21
  have HA' := Lib.hid (HA.out.below hb)
  clear HA
  have HA := Lib.hid HA'.out
  clear HA'
  have HB' := Lib.hid (HB.out.below hb)
  clear HB
  have HB := Lib.hid HB'.out
  clear HB'
  have HX' := Lib.hid (HX.out.below hb)
  clear HX
  have HX := Lib.hid HX'.out
  clear HX'
  have HL22 := Lib.hid hv
  have OL22 := Lib.hid ho
  have CL22 := Lib.hid hc
  clear hv ho hc hb
  go_wp2_with fail
  refine (lor_any _ _ A B w30 HA.out HB.out CA.out CB.out (by decide)).mono ?_
  rintro e w31 ⟨v, L23, rfl, hv, ho, hc, hb⟩
  obtain ⟨aL23, cL23, rfl⟩ := hv.shape
  have Q31 := Lib.hid (Q30.out.trans (hb.mono Q30.out.size))
  clear Q30
  clear HA
  clear HB
  have HX' := Lib.hid (HX.out.below hb)
  clear HX
  have HX := Lib.hid HX'.out
  clear HX'
  have HL22' := Lib.hid (HL22.out.below hb)
  clear HL22
  have HL22 := Lib.hid HL22'.out
  clear HL22'
  have HL23 := Lib.hid hv
  have OL23 := Lib.hid ho
  have CL23 := Lib.hid hc
  clear hv ho hc hb
  go_wp2_with fail
  refine (lor_any _ _ L23 X w31 HL23.out HX.out CL23.out CX.out (by decide)).mono ?_
  rintro e w32 ⟨v, L24, rfl, hv, ho, hc, hb⟩
  obtain ⟨aL24, cL24, rfl⟩ := hv.shape
  have Q32 := Lib.hid (Q31.out.trans (hb.mono Q31.out.size))
  clear Q31
  clear HL23
  clear HX
  have HL22' := Lib.hid (HL22.out.below hb)
  clear HL22
  have HL22 := Lib.hid HL22'.out
  clear HL22'
  have HL24 := Lib.hid hv
  have OL24 := Lib.hid ho
  have CL24 := Lib.hid hc
  clear hv ho hc hb
  go_wp2_with fail
  refine (sameL_eq _ _ L22 L24 w32 HL22.out HL24.out (alg_assoc OL21.out OL22.out OL23.out OL24.out)).mono ?_
  rintro e w33 ⟨rfl, hb⟩
  have Q33 := Lib.hid (Q32.out.trans (hb.mono Q32.out.size))
  clear Q32
  clear HL22
  clear HL24
  clear hb
  go_wp2_with fail
  go_ret
  exact ⟨rfl, Q33.out⟩
end Go.Proofs.Ytmhgmlnnipdomaa
