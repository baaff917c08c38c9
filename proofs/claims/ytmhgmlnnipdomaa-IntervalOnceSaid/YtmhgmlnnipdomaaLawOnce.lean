/- Law IntervalOnce. -/
import Derived.Test.YtmhgmlnnipdomaaIvLawOps
import Derived.Test.YtmhgmlnnipdomaaCase5
namespace Go.Proofs.Ytmhgmlnnipdomaa
open Go.RowKit Go.Deep

set_option maxRecDepth 100000 in
set_option maxHeartbeats 6000000 in
theorem intervalOnce_walk (cv : Value) (cn : Nat) (w : World) (hcv : BytesAt w cv cn) :
    Calls Try.prog 7 #[cv] w fun e w' => e = .returned (.bool true) ∧ Below w.heap.size w w' := by
  have HN := Lib.hid (cNew_120 cv cn w hcv)
  obtain ⟨qa, qc, rfl, _⟩ := hcv
  have HBEG : Hid (∀ W, Calls Try.prog 18 #[] W fun e w' => e = .returned (.bool true) ∧ Below W.heap.size W w') := begun3_any
  go_enter Try.func7, Try.ntmps7
  go_wp2_with fail
  refine HN.out.mono ?_
  rintro e d0 ⟨bc, rfl, hb1, hbc, hok⟩
  have B0 := Lib.hid hb1
  have K0 := Lib.hid hok
  have hbl := hok.lt.1
  have hs0 : w.heap.size ≤ d0.heap.size := hb1.size
  clear hb1 hok HN
  go_wp2_with fail
  refine (cInterval_any bc d0.heap.size d0 K0.out).mono ?_
  rintro e d1 ⟨v, A, rfl, hv, ho, hl, hm, hk⟩
  obtain ⟨aA, cA, rfl⟩ := hv.shape
  have hd1 : d0.heap.size ≤ d1.heap.size := hk.lt.2
  have GA := Lib.hid hv
  have CA : Hid (Can 4 A) := ⟨ho, hl⟩
  have M1 : Hid (Mv bc d0 d1) := hm
  have K1 := Lib.hid hk
  clear hv ho hl hm hk K0
  go_wp2_with fail
  refine (cInterval_any bc d0.heap.size d1 K1.out).mono ?_
  rintro e d2 ⟨v, B, rfl, hv, ho, hl, hm, hk⟩
  obtain ⟨aB, cB, rfl⟩ := hv.shape
  have hd2 : d0.heap.size ≤ d2.heap.size := hk.lt.2
  have GA' := Lib.hid (GA.out.mv hm (by omega))
  clear GA
  have GA := Lib.hid GA'.out
  clear GA'
  have GB := Lib.hid hv
  have CB : Hid (Can 4 B) := ⟨ho, hl⟩
  have M2 : Hid (Mv bc d0 d2) := M1.out.trans hm
  have K2 := Lib.hid hk
  clear hv ho hl hm hk K1 M1
  have Q0 : Hid (Below w.heap.size w d2) := B0.out.trans (M2.out.below (by omega) hs0)
  have HA := Lib.hid GA.out.all
  clear GA
  have HB := Lib.hid GB.out.all
  clear GB
  clear B0 M2 K2 hs0 hbl hbc hd1 hd2
  go_wp2_with fail
  refine (iCovers_any _ _ A B d2 HA.out HB.out).mono ?_
  rintro e w1 ⟨p1, e1, rfl, hr, hb⟩
  have Q1 := Lib.hid (Q0.out.trans (hb.mono Q0.out.size))
  clear Q0
  have HA' := Lib.hid (HA.out.below hb)
  clear HA
  have HA := Lib.hid HA'.out
  clear HA'
  have HB' := Lib.hid (HB.out.below hb)
  clear HB
  have HB := Lib.hid HB'.out
  clear HB'
  have R1 := Lib.hid hr
  clear hr hb
  go_wp2_with fail
  refine (iCovers_any _ _ B A w1 HB.out HA.out).mono ?_
  rintro e w2 ⟨p2, e2, rfl, hr, hb⟩
  have Q2 := Lib.hid (Q1.out.trans (hb.mono Q1.out.size))
  clear Q1
  have HA' := Lib.hid (HA.out.below hb)
  clear HA
  have HA := Lib.hid HA'.out
  clear HA'
  have HB' := Lib.hid (HB.out.below hb)
  clear HB
  have HB := Lib.hid HB'.out
  clear HB'
  have R2 := Lib.hid hr
  clear hr hb
  obtain ⟨rfl, rfl, hpq⟩ := covers_once CA.out CB.out (by decide) (by decide) R1.out R2.out
  have HPQ := Lib.hid hpq
  clear hpq R1 R2
  go_wp2_with fail
  refine (sMinus _ _ A B w2 HA.out HB.out CA.out CB.out (by decide)).mono ?_
  rintro e w3 ⟨v, L1, rfl, hv, ho, hc, hb⟩
  obtain ⟨aL1, cL1, rfl⟩ := hv.shape
  have Q3 := Lib.hid (Q2.out.trans (hb.mono Q2.out.size))
  clear Q2
  have HA' := Lib.hid (HA.out.below hb)
  clear HA
  have HA := Lib.hid HA'.out
  clear HA'
  have HB' := Lib.hid (HB.out.below hb)
  clear HB
  have HB := Lib.hid HB'.out
  clear HB'
  have HL1 := Lib.hid hv
  have OL1 := Lib.hid ho
  have CL1 := Lib.hid hc
  clear hv ho hc hb
  go_wp2_with fail
  refine (sIntersect _ _ A B w3 HA.out HB.out CA.out CB.out (by decide)).mono ?_
  rintro e w4 ⟨v, L2, rfl, hv, ho, hc, hb⟩
  obtain ⟨aL2, cL2, rfl⟩ := hv.shape
  have Q4 := Lib.hid (Q3.out.trans (hb.mono Q3.out.size))
  clear Q3
  have HA' := Lib.hid (HA.out.below hb)
  clear HA
  have HA := Lib.hid HA'.out
  clear HA'
  have HB' := Lib.hid (HB.out.below hb)
  clear HB
  have HB := Lib.hid HB'.out
  clear HB'
  have HL1' := Lib.hid (HL1.out.below hb)
  clear HL1
  have HL1 := Lib.hid HL1'.out
  clear HL1'
  have HL2 := Lib.hid hv
  have OL2 := Lib.hid ho
  have CL2 := Lib.hid hc
  clear hv ho hc hb
  go_wp2_with fail
  refine (sUnion _ _ L1 L2 w4 HL1.out HL2.out CL1.out CL2.out (by decide)).mono ?_
  rintro e w5 ⟨v, L3, rfl, hv, ho, hc, hb⟩
  obtain ⟨aL3, cL3, rfl⟩ := hv.shape
  have Q5 := Lib.hid (Q4.out.trans (hb.mono Q4.out.size))
  clear Q4
  clear HL1
  clear HL2
  have HA' := Lib.hid (HA.out.below hb)
  clear HA
  have HA := Lib.hid HA'.out
  clear HA'
  have HB' := Lib.hid (HB.out.below hb)
  clear HB
  have HB := Lib.hid HB'.out
  clear HB'
  have HL3 := Lib.hid hv
  have OL3 := Lib.hid ho
  have CL3 := Lib.hid hc
  clear hv ho hc hb
  go_wp2_with fail
  refine (HBEG.out w5).mono ?_
  rintro e w6 ⟨rfl, hb⟩
  have Q6 := Lib.hid (Q5.out.trans (hb.mono Q5.out.size))
  clear Q5
  have HA' := Lib.hid (HA.out.below hb)
  clear HA
  have HA := Lib.hid HA'.out
  clear HA'
  have HB' := Lib.hid (HB.out.below hb)
  clear HB
  have HB := Lib.hid HB'.out
  clear HB'
  have HL3' := Lib.hid (HL3.out.below hb)
  clear HL3
  have HL3 := Lib.hid HL3'.out
  clear HL3'
  clear hb
  have HSM := Lib.hid (fun W h1 h2 => rSameL_any (.slice aA A.length cA) (.slice aB B.length cB) A B W h1 h2)
  obtain ⟨z, hz⟩ : ∃ z, decide (A = B) = z := ⟨_, rfl⟩
  rw [hz] at HSM
  have HZ : Hid ((p1 && p2) = z) := HPQ.out.trans hz
  clear hz HPQ
  cases p1 with
  | false =>
    cases p2 with
    | false =>
      obtain rfl : false = z := HZ.out
      go_wp2_with fail
      refine (HSM.out w6 HA.out HB.out).mono ?_
      rintro e w7 ⟨rfl, hb⟩
      have Q7 := Lib.hid (Q6.out.trans (hb.mono Q6.out.size))
      have HA' := Lib.hid (HA.out.below hb)
      have HL3' := Lib.hid (HL3.out.below hb)
      clear HA HL3 HB hb HSM
      go_wp2_with fail
      refine (sameL_eq _ _ L3 A w7 HL3'.out HA'.out (once_eq CA.out OL1.out OL2.out OL3.out)).mono ?_
      rintro e w8 ⟨rfl, hb⟩
      have Q8 := Lib.hid (Q7.out.trans (hb.mono Q7.out.size))
      clear hb
      go_wp2_with fail
      go_ret
      exact ⟨rfl, Q8.out⟩
    | true =>
      obtain rfl : false = z := HZ.out
      go_wp2_with fail
      refine (HSM.out w6 HA.out HB.out).mono ?_
      rintro e w7 ⟨rfl, hb⟩
      have Q7 := Lib.hid (Q6.out.trans (hb.mono Q6.out.size))
      have HA' := Lib.hid (HA.out.below hb)
      have HL3' := Lib.hid (HL3.out.below hb)
      clear HA HL3 HB hb HSM
      go_wp2_with fail
      refine (sameL_eq _ _ L3 A w7 HL3'.out HA'.out (once_eq CA.out OL1.out OL2.out OL3.out)).mono ?_
      rintro e w8 ⟨rfl, hb⟩
      have Q8 := Lib.hid (Q7.out.trans (hb.mono Q7.out.size))
      clear hb
      go_wp2_with fail
      go_ret
      exact ⟨rfl, Q8.out⟩
  | true =>
    cases p2 with
    | false =>
      obtain rfl : false = z := HZ.out
      go_wp2_with fail
      refine (HSM.out w6 HA.out HB.out).mono ?_
      rintro e w7 ⟨rfl, hb⟩
      have Q7 := Lib.hid (Q6.out.trans (hb.mono Q6.out.size))
      have HA' := Lib.hid (HA.out.below hb)
      have HL3' := Lib.hid (HL3.out.below hb)
      clear HA HL3 HB hb HSM
      go_wp2_with fail
      refine (sameL_eq _ _ L3 A w7 HL3'.out HA'.out (once_eq CA.out OL1.out OL2.out OL3.out)).mono ?_
      rintro e w8 ⟨rfl, hb⟩
      have Q8 := Lib.hid (Q7.out.trans (hb.mono Q7.out.size))
      clear hb
      go_wp2_with fail
      go_ret
      exact ⟨rfl, Q8.out⟩
    | true =>
      obtain rfl : true = z := HZ.out
      go_wp2_with fail
      refine (HSM.out w6 HA.out HB.out).mono ?_
      rintro e w7 ⟨rfl, hb⟩
      have Q7 := Lib.hid (Q6.out.trans (hb.mono Q6.out.size))
      have HA' := Lib.hid (HA.out.below hb)
      have HL3' := Lib.hid (HL3.out.below hb)
      clear HA HL3 HB hb HSM
      go_wp2_with fail
      refine (sameL_eq _ _ L3 A w7 HL3'.out HA'.out (once_eq CA.out OL1.out OL2.out OL3.out)).mono ?_
      rintro e w8 ⟨rfl, hb⟩
      have Q8 := Lib.hid (Q7.out.trans (hb.mono Q7.out.size))
      clear hb
      go_wp2_with fail
      go_ret
      exact ⟨rfl, Q8.out⟩
end Go.Proofs.Ytmhgmlnnipdomaa
