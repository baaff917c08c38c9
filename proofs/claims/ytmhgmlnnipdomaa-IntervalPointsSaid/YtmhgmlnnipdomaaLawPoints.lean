/- Law IntervalPoints. -/
import Derived.Test.YtmhgmlnnipdomaaIvLawOps
import Derived.Test.YtmhgmlnnipdomaaCase5
import Derived.Test.YtmhgmlnnipdomaaIvHas
namespace Go.Proofs.Ytmhgmlnnipdomaa
open Go.RowKit Go.Deep

set_option maxRecDepth 100000 in
set_option maxHeartbeats 6000000 in
theorem intervalPoints_walk (cv : Value) (cn : Nat) (w : World) (hcv : BytesAt w cv cn) :
    Calls Try.prog 5 #[cv] w fun e w' => e = .returned (.bool true) ∧ Below w.heap.size w w' := by
  have HN := Lib.hid (cNew_120 cv cn w hcv)
  obtain ⟨qa, qc, rfl, _⟩ := hcv
  have HBEG : Hid (∀ W, Calls Try.prog 18 #[] W fun e w' => e = .returned (.bool true) ∧ Below W.heap.size W w') := begun3_any
  go_enter Try.func5, Try.ntmps5
  go_wp2_with fail
  refine HN.out.mono ?_
  rintro e d0 ⟨bc, rfl, hb1, hbc, hok⟩
  have B0 := Lib.hid hb1
  have K0 := Lib.hid hok
  have hbl := hok.lt.1
  have hs0 : w.heap.size ≤ d0.heap.size := hb1.size
  clear hb1 hok HN
  go_wp2_with fail
  refine (cInterval_any bc d0.heap.size d0 K0.out).mono ?_
  rintro e d1 ⟨v, A, rfl, hv, ho, hl, hm, hk⟩
  obtain ⟨aA, cA, rfl⟩ := hv.shape
  have hd1 : d0.heap.size ≤ d1.heap.size := hk.lt.2
  have GA := Lib.hid (hv.ne (bc := bc) hbl)
  have CA : Hid (Can 4 A) := ⟨ho, hl⟩
  have M1 := Lib.hid hm
  have K1 := Lib.hid hk
  clear hv ho hl hm hk K0
  go_wp2_with fail
  refine (cInterval_any bc d0.heap.size d1 K1.out).mono ?_
  rintro e d2 ⟨v, B, rfl, hv, ho, hl, hm, hk⟩
  obtain ⟨aB, cB, rfl⟩ := hv.shape
  have hd2 : d0.heap.size ≤ d2.heap.size := hk.lt.2
  have GB := Lib.hid (hv.ne (bc := bc) (by omega))
  have CB : Hid (Can 4 B) := ⟨ho, hl⟩
  have GA0 := Lib.hid (GA.out.mvn hm)
  clear GA
  have GA := Lib.hid GA0.out
  clear GA0
  have M2 : Hid (Mv bc d0 d2) := M1.out.trans hm
  have K2 := Lib.hid hk
  clear hv ho hl hm hk K1 M1
  have Q0 : Hid (Below w.heap.size w d2) := B0.out.trans (M2.out.below (by omega) hs0)
  have R0 : Hid (Below d2.heap.size d2 d2) := Below.refl _ _
  clear B0 M2
  go_wp2_with fail
  refine (sUnion _ _ A B d2 GA.out.all GB.out.all CA.out CB.out (by decide)).mono ?_
  rintro e w1 ⟨v, U, rfl, hv, ho, hc, hb⟩
  obtain ⟨aU, cU, rfl⟩ := hv.shape
  have GU := Lib.hid (hv.ne (bc := bc) (by omega))
  have CU := Lib.hid hc
  have OU := Lib.hid ho
  have Q1 := Lib.hid (Q0.out.trans (hb.mono Q0.out.size))
  have R1 := Lib.hid (R0.out.trans (hb.mono R0.out.size))
  have hz1 : d2.heap.size ≤ w1.heap.size := R1.out.size
  clear Q0 R0
  have GA' := Lib.hid (GA.out.below hb)
  clear GA
  have GA := Lib.hid GA'.out
  clear GA'
  have GB' := Lib.hid (GB.out.below hb)
  clear GB
  have GB := Lib.hid GB'.out
  clear GB'
  clear hv ho hc hb
  go_wp2_with fail
  refine (sIntersect _ _ A B w1 GA.out.all GB.out.all CA.out CB.out (by decide)).mono ?_
  rintro e w2 ⟨v, I, rfl, hv, ho, hc, hb⟩
  obtain ⟨aI, cI, rfl⟩ := hv.shape
  have GI := Lib.hid (hv.ne (bc := bc) (by omega))
  have CI := Lib.hid hc
  have OI := Lib.hid ho
  have Q2 := Lib.hid (Q1.out.trans (hb.mono Q1.out.size))
  have R2 := Lib.hid (R1.out.trans (hb.mono R1.out.size))
  have hz2 : d2.heap.size ≤ w2.heap.size := R2.out.size
  clear Q1 R1
  have GA' := Lib.hid (GA.out.below hb)
  clear GA
  have GA := Lib.hid GA'.out
  clear GA'
  have GB' := Lib.hid (GB.out.below hb)
  clear GB
  have GB := Lib.hid GB'.out
  clear GB'
  have GU' := Lib.hid (GU.out.below hb)
  clear GU
  have GU := Lib.hid GU'.out
  clear GU'
  clear hv ho hc hb
  go_wp2_with fail
  refine (sMinus _ _ A B w2 GA.out.all GB.out.all CA.out CB.out (by decide)).mono ?_
  rintro e w3 ⟨v, E, rfl, hv, ho, hc, hb⟩
  obtain ⟨aE, cE, rfl⟩ := hv.shape
  have GE := Lib.hid (hv.ne (bc := bc) (by omega))
  have CE := Lib.hid hc
  have OE := Lib.hid ho
  have Q3 := Lib.hid (Q2.out.trans (hb.mono Q2.out.size))
  have R3 := Lib.hid (R2.out.trans (hb.mono R2.out.size))
  have hz3 : d2.heap.size ≤ w3.heap.size := R3.out.size
  clear Q2 R2
  have GA' := Lib.hid (GA.out.below hb)
  clear GA
  have GA := Lib.hid GA'.out
  clear GA'
  have GB' := Lib.hid (GB.out.below hb)
  clear GB
  have GB := Lib.hid GB'.out
  clear GB'
  have GU' := Lib.hid (GU.out.below hb)
  clear GU
  have GU := Lib.hid GU'.out
  clear GU'
  have GI' := Lib.hid (GI.out.below hb)
  clear GI
  have GI := Lib.hid GI'.out
  clear GI'
  clear hv ho hc hb
  go_wp2_with fail
  refine (sComplement _ A w3 GA.out.all CA.out (by decide)).mono ?_
  rintro e w4 ⟨v, N, rfl, hv, ho, hc, hb⟩
  obtain ⟨aN, cN, rfl⟩ := hv.shape
  have GN := Lib.hid (hv.ne (bc := bc) (by omega))
  have CN := Lib.hid hc
  have ON := Lib.hid ho
  have Q4 := Lib.hid (Q3.out.trans (hb.mono Q3.out.size))
  have R4 := Lib.hid (R3.out.trans (hb.mono R3.out.size))
  have hz4 : d2.heap.size ≤ w4.heap.size := R4.out.size
  clear Q3 R3
  have GA' := Lib.hid (GA.out.below hb)
  clear GA
  have GA := Lib.hid GA'.out
  clear GA'
  have GB' := Lib.hid (GB.out.below hb)
  clear GB
  have GB := Lib.hid GB'.out
  clear GB'
  have GU' := Lib.hid (GU.out.below hb)
  clear GU
  have GU := Lib.hid GU'.out
  clear GU'
  have GI' := Lib.hid (GI.out.below hb)
  clear GI
  have GI := Lib.hid GI'.out
  clear GI'
  have GE' := Lib.hid (GE.out.below hb)
  clear GE
  have GE := Lib.hid GE'.out
  clear GE'
  clear hv ho hc hb
  go_wp2_with fail
  refine (iCovers_any _ _ A B w4 GA.out.all GB.out.all).mono ?_
  rintro e w5 ⟨p, er, rfl, hr, hb⟩
  obtain ⟨rfl, hpv⟩ := hr.ok CA.out CB.out (by decide) (by decide)
  have HPV := Lib.hid hpv
  have Q5 := Lib.hid (Q4.out.trans (hb.mono Q4.out.size))
  have R5 := Lib.hid (R4.out.trans (hb.mono R4.out.size))
  have hz5 : d2.heap.size ≤ w5.heap.size := R5.out.size
  clear Q4 R4
  have GA' := Lib.hid (GA.out.below hb)
  clear GA
  have GA := Lib.hid GA'.out
  clear GA'
  have GB' := Lib.hid (GB.out.below hb)
  clear GB
  have GB := Lib.hid GB'.out
  clear GB'
  have GU' := Lib.hid (GU.out.below hb)
  clear GU
  have GU := Lib.hid GU'.out
  clear GU'
  have GI' := Lib.hid (GI.out.below hb)
  clear GI
  have GI := Lib.hid GI'.out
  clear GI'
  have GE' := Lib.hid (GE.out.below hb)
  clear GE
  have GE := Lib.hid GE'.out
  clear GE'
  have GN' := Lib.hid (GN.out.below hb)
  clear GN
  have GN := Lib.hid GN'.out
  clear GN'
  clear hr hpv hb
  have KL : Hid (CaseOk bc d0.heap.size w5) := K2.out.below R5.out hd2
  clear K2 R5
  go_wp2_with fail
  go_loopw [16] (fun i wr => ∃ k : Nat, k ≤ 6 ∧ i = .int .i64 k ∧ Hid (Mv bc w5 wr ∧ CaseOk bc d0.heap.size wr)) (fun i _ => 6 - (intOf i).toNat)
  case atStart => exact ⟨0, by omega, rfl, Mv.refl _ _, KL.out⟩
  case round =>
    obtain ⟨k, hk, rfl, HR⟩ := hrel
    by_cases hlt : k < 6
    · have hlt' : (k : Int) < 6 := by omega
      go_wp2_with fail
      refine (cAny_any bc d0.heap.size wr HR.out.2).mono ?_
      rintro e wa ⟨vk, vn, vs, rfl, hvo, -, -, hma, hoa⟩
      have HVO : Hid (okV ⟨vk, vn, vs⟩ = true) := hvo
      have hsa : w5.heap.size ≤ wa.heap.size := (HR.out.1.trans hma).size
      go_wp2_with fail
      obtain ⟨bp, hbp⟩ : ∃ bp, wa.heap.size = bp := ⟨_, rfl⟩
      have p0 : (wa.alloc (.cells #[.int .i64 vk, .int .i64 vn, .string vs] 25)).cell? ⟨bp, 0, none⟩ = some (.int .i64 vk) := by subst hbp; exact World.cell?_alloc_mark wa #[.int .i64 vk, .int .i64 vn, .string vs] 25 (0, 0) 0
      have p1 : (wa.alloc (.cells #[.int .i64 vk, .int .i64 vn, .string vs] 25)).cell? ⟨bp, 1, none⟩ = some (.int .i64 vn) := by subst hbp; exact World.cell?_alloc_mark wa #[.int .i64 vk, .int .i64 vn, .string vs] 25 (0, 0) 1
      have p2 : (wa.alloc (.cells #[.int .i64 vk, .int .i64 vn, .string vs] 25)).cell? ⟨bp, 2, none⟩ = some (.string vs) := by subst hbp; exact World.cell?_alloc_mark wa #[.int .i64 vk, .int .i64 vn, .string vs] 25 (0, 0) 2
      have HMQ : Hid (Mv bc w5 (wa.alloc (.cells #[.int .i64 vk, .int .i64 vn, .string vs] 25))) := (HR.out.1.trans hma).alloc _
      have HOQ : Hid (CaseOk bc d0.heap.size (wa.alloc (.cells #[.int .i64 vk, .int .i64 vn, .string vs] 25))) := hoa.alloc _
      have hsz : bp < (wa.alloc (.cells #[.int .i64 vk, .int .i64 vn, .string vs] 25)).heap.size := by subst hbp; simp
      rw [hbp]
      generalize wa.alloc (.cells #[.int .i64 vk, .int .i64 vn, .string vs] 25) = wq at *
      have HK : Hid (∀ W, Below wq.heap.size wq W → W.cell? ⟨bp, 0, none⟩ = some (.int .i64 vk) ∧ W.cell? ⟨bp, 1, none⟩ = some (.int .i64 vn) ∧ W.cell? ⟨bp, 2, none⟩ = some (.string vs)) := fun W hb => ⟨(hb.cell (p := ⟨bp, 0, none⟩) hsz).trans p0, (hb.cell (p := ⟨bp, 1, none⟩) hsz).trans p1, (hb.cell (p := ⟨bp, 2, none⟩) hsz).trans p2⟩
      clear hvo hma hoa hbp hsa
      have HA : Hid (∀ W, Below wq.heap.size wq W → Calls Try.prog 16 #[.slice aA A.length cA, .agg #[.int .i64 vk, .int .i64 vn, .string vs]] W fun e w' => e = .returned (.bool (hasB A ⟨vk, vn, vs⟩)) ∧ Below W.heap.size W w') := fun W hb => iHas_any _ A vk vn vs W ((GA.out.mvn HMQ.out).below hb).all
      have HB : Hid (∀ W, Below wq.heap.size wq W → Calls Try.prog 16 #[.slice aB B.length cB, .agg #[.int .i64 vk, .int .i64 vn, .string vs]] W fun e w' => e = .returned (.bool (hasB B ⟨vk, vn, vs⟩)) ∧ Below W.heap.size W w') := fun W hb => iHas_any _ B vk vn vs W ((GB.out.mvn HMQ.out).below hb).all
      have HU : Hid (∀ W, Below wq.heap.size wq W → Calls Try.prog 16 #[.slice aU U.length cU, .agg #[.int .i64 vk, .int .i64 vn, .string vs]] W fun e w' => e = .returned (.bool (hasB U ⟨vk, vn, vs⟩)) ∧ Below W.heap.size W w') := fun W hb => iHas_any _ U vk vn vs W ((GU.out.mvn HMQ.out).below hb).all
      have HI : Hid (∀ W, Below wq.heap.size wq W → Calls Try.prog 16 #[.slice aI I.length cI, .agg #[.int .i64 vk, .int .i64 vn, .string vs]] W fun e w' => e = .returned (.bool (hasB I ⟨vk, vn, vs⟩)) ∧ Below W.heap.size W w') := fun W hb => iHas_any _ I vk vn vs W ((GI.out.mvn HMQ.out).below hb).all
      have HE : Hid (∀ W, Below wq.heap.size wq W → Calls Try.prog 16 #[.slice aE E.length cE, .agg #[.int .i64 vk, .int .i64 vn, .string vs]] W fun e w' => e = .returned (.bool (hasB E ⟨vk, vn, vs⟩)) ∧ Below W.heap.size W w') := fun W hb => iHas_any _ E vk vn vs W ((GE.out.mvn HMQ.out).below hb).all
      have HN : Hid (∀ W, Below wq.heap.size wq W → Calls Try.prog 16 #[.slice aN N.length cN, .agg #[.int .i64 vk, .int .i64 vn, .string vs]] W fun e w' => e = .returned (.bool (hasB N ⟨vk, vn, vs⟩)) ∧ Below W.heap.size W w') := fun W hb => iHas_any _ N vk vn vs W ((GN.out.mvn HMQ.out).below hb).all
      have eA : Hid (hasB A ⟨vk, vn, vs⟩ = inL A ⟨vk, vn, vs⟩) := hasB_can CA.out (by decide) HVO.out
      have eB : Hid (hasB B ⟨vk, vn, vs⟩ = inL B ⟨vk, vn, vs⟩) := hasB_can CB.out (by decide) HVO.out
      have eU : Hid (hasB U ⟨vk, vn, vs⟩ = (inL A ⟨vk, vn, vs⟩ || inL B ⟨vk, vn, vs⟩)) := hasB_op OU.out CU.out (by decide) HVO.out
      have eI : Hid (hasB I ⟨vk, vn, vs⟩ = (inL A ⟨vk, vn, vs⟩ && inL B ⟨vk, vn, vs⟩)) := hasB_op OI.out CI.out (by decide) HVO.out
      have eE : Hid (hasB E ⟨vk, vn, vs⟩ = (inL A ⟨vk, vn, vs⟩ && !inL B ⟨vk, vn, vs⟩)) := hasB_op OE.out CE.out (by decide) HVO.out
      have eN : Hid (hasB N ⟨vk, vn, vs⟩ = (true && !inL A ⟨vk, vn, vs⟩)) := by have := hasB_op ON.out CN.out (by decide) HVO.out; rw [allL_in HVO.out] at this; exact this
      have eP : Hid ((p && inL B ⟨vk, vn, vs⟩ && !inL A ⟨vk, vn, vs⟩) = false) := HPV.out _ HVO.out
      rw [eA.out] at HA
      rw [eB.out] at HB
      rw [eU.out] at HU
      rw [eI.out] at HI
      rw [eE.out] at HE
      rw [eN.out] at HN
      clear eA eB eU eI eE eN
      generalize inL A ⟨vk, vn, vs⟩ = x at *
      generalize inL B ⟨vk, vn, vs⟩ = y at *
      go_region_held3 (fun W => W.cell? ⟨bp, 0, none⟩ = some (.int .i64 vk) ∧ W.cell? ⟨bp, 1, none⟩ = some (.int .i64 vn) ∧ W.cell? ⟨bp, 2, none⟩ = some (.string vs))
        (first | exact ⟨p0b, p1b, p2b⟩ | exact ⟨p0a, p1a, p2a⟩ | exact ⟨p0, p1, p2⟩)
        (first | (go_at_call 16; (with_reducible refine (HA.out _ (by (repeat (first | exact Below.refl _ _ | assumption | refine Below.drew ?_ | refine Below.setCell ?_ (by simp; try omega) _ | refine Below.alloc ?_ (by simp; try omega) _)))).mono ?_); rintro e wza ⟨rfl, hg⟩; have hba : Below wq.heap.size wq wza := Below.trans (by (repeat (first | exact Below.refl _ _ | assumption | refine Below.drew ?_ | refine Below.setCell ?_ (by simp; try omega) _ | refine Below.alloc ?_ (by simp; try omega) _))) (hg.mono (by first | (simp; done) | ((try simp); exact Below.size (by assumption)))); obtain ⟨p0a, p1a, p2a⟩ := HK.out wza hba; clear hg) | (go_at_call 16; (with_reducible refine (HB.out _ (by (repeat (first | exact Below.refl _ _ | assumption | refine Below.drew ?_ | refine Below.setCell ?_ (by simp; try omega) _ | refine Below.alloc ?_ (by simp; try omega) _)))).mono ?_); rintro e wzb ⟨rfl, hg⟩; have hbb : Below wq.heap.size wq wzb := Below.trans (by (repeat (first | exact Below.refl _ _ | assumption | refine Below.drew ?_ | refine Below.setCell ?_ (by simp; try omega) _ | refine Below.alloc ?_ (by simp; try omega) _))) (hg.mono (by first | (simp; done) | ((try simp); exact Below.size (by assumption)))); obtain ⟨p0b, p1b, p2b⟩ := HK.out wzb hbb; clear hg))
      clear p0 p1 p2 p0a p1a p2a p0b p1b p2b hba HA HB
      have BZ := Lib.hid hbb
      clear hbb
      cases x with
      | false =>
        cases y with
        | false =>
          cases p with
          | false =>
            obtain ⟨p0, p1, p2⟩ := HK.out wzb BZ.out
            go_wp2_with fail
            refine (HU.out _ BZ.out).mono ?_
            rintro e z0 ⟨rfl, hb⟩
            have BZ0 := Lib.hid (BZ.out.trans (hb.mono BZ.out.size))
            obtain ⟨p0, p1, p2⟩ := HK.out z0 BZ0.out
            clear hb
            go_wp2_with fail
            refine (HI.out _ BZ0.out).mono ?_
            rintro e z1 ⟨rfl, hb⟩
            have BZ1 := Lib.hid (BZ0.out.trans (hb.mono BZ0.out.size))
            obtain ⟨p0, p1, p2⟩ := HK.out z1 BZ1.out
            clear hb
            go_wp2_with fail
            refine (HE.out _ BZ1.out).mono ?_
            rintro e z2 ⟨rfl, hb⟩
            have BZ2 := Lib.hid (BZ1.out.trans (hb.mono BZ1.out.size))
            obtain ⟨p0, p1, p2⟩ := HK.out z2 BZ2.out
            clear hb
            go_wp2_with fail
            refine (HN.out _ BZ2.out).mono ?_
            rintro e z3 ⟨rfl, hb⟩
            have BZ3 := Lib.hid (BZ2.out.trans (hb.mono BZ2.out.size))
            obtain ⟨p0, p1, p2⟩ := HK.out z3 BZ3.out
            clear hb
            go_wp2_with fail
            go_roundw
            case rel => exact ⟨k + 1, by omega, by go_num, HMQ.out.trans (Mv.of_below BZ3.out), HOQ.out.below BZ3.out HOQ.out.lt.2⟩
            case measure => simp [intOf]; omega
          | true =>
            obtain ⟨p0, p1, p2⟩ := HK.out wzb BZ.out
            go_wp2_with fail
            refine (HU.out _ BZ.out).mono ?_
            rintro e z0 ⟨rfl, hb⟩
            have BZ0 := Lib.hid (BZ.out.trans (hb.mono BZ.out.size))
            obtain ⟨p0, p1, p2⟩ := HK.out z0 BZ0.out
            clear hb
            go_wp2_with fail
            refine (HI.out _ BZ0.out).mono ?_
            rintro e z1 ⟨rfl, hb⟩
            have BZ1 := Lib.hid (BZ0.out.trans (hb.mono BZ0.out.size))
            obtain ⟨p0, p1, p2⟩ := HK.out z1 BZ1.out
            clear hb
            go_wp2_with fail
            refine (HE.out _ BZ1.out).mono ?_
            rintro e z2 ⟨rfl, hb⟩
            have BZ2 := Lib.hid (BZ1.out.trans (hb.mono BZ1.out.size))
            obtain ⟨p0, p1, p2⟩ := HK.out z2 BZ2.out
            clear hb
            go_wp2_with fail
            refine (HN.out _ BZ2.out).mono ?_
            rintro e z3 ⟨rfl, hb⟩
            have BZ3 := Lib.hid (BZ2.out.trans (hb.mono BZ2.out.size))
            obtain ⟨p0, p1, p2⟩ := HK.out z3 BZ3.out
            clear hb
            go_wp2_with fail
            go_roundw
            case rel => exact ⟨k + 1, by omega, by go_num, HMQ.out.trans (Mv.of_below BZ3.out), HOQ.out.below BZ3.out HOQ.out.lt.2⟩
            case measure => simp [intOf]; omega
        | true =>
          cases p with
          | false =>
            obtain ⟨p0, p1, p2⟩ := HK.out wzb BZ.out
            go_wp2_with fail
            refine (HU.out _ BZ.out).mono ?_
            rintro e z0 ⟨rfl, hb⟩
            have BZ0 := Lib.hid (BZ.out.trans (hb.mono BZ.out.size))
            obtain ⟨p0, p1, p2⟩ := HK.out z0 BZ0.out
            clear hb
            go_wp2_with fail
            refine (HI.out _ BZ0.out).mono ?_
            rintro e z1 ⟨rfl, hb⟩
            have BZ1 := Lib.hid (BZ0.out.trans (hb.mono BZ0.out.size))
            obtain ⟨p0, p1, p2⟩ := HK.out z1 BZ1.out
            clear hb
            go_wp2_with fail
            refine (HE.out _ BZ1.out).mono ?_
            rintro e z2 ⟨rfl, hb⟩
            have BZ2 := Lib.hid (BZ1.out.trans (hb.mono BZ1.out.size))
            obtain ⟨p0, p1, p2⟩ := HK.out z2 BZ2.out
            clear hb
            go_wp2_with fail
            refine (HN.out _ BZ2.out).mono ?_
            rintro e z3 ⟨rfl, hb⟩
            have BZ3 := Lib.hid (BZ2.out.trans (hb.mono BZ2.out.size))
            obtain ⟨p0, p1, p2⟩ := HK.out z3 BZ3.out
            clear hb
            go_wp2_with fail
            go_roundw
            case rel => exact ⟨k + 1, by omega, by go_num, HMQ.out.trans (Mv.of_below BZ3.out), HOQ.out.below BZ3.out HOQ.out.lt.2⟩
            case measure => simp [intOf]; omega
          | true =>
            exact absurd eP.out (by decide)
      | true =>
        cases y with
        | false =>
          cases p with
          | false =>
            obtain ⟨p0, p1, p2⟩ := HK.out wzb BZ.out
            go_wp2_with fail
            refine (HU.out _ BZ.out).mono ?_
            rintro e z0 ⟨rfl, hb⟩
            have BZ0 := Lib.hid (BZ.out.trans (hb.mono BZ.out.size))
            obtain ⟨p0, p1, p2⟩ := HK.out z0 BZ0.out
            clear hb
            go_wp2_with fail
            refine (HI.out _ BZ0.out).mono ?_
            rintro e z1 ⟨rfl, hb⟩
            have BZ1 := Lib.hid (BZ0.out.trans (hb.mono BZ0.out.size))
            obtain ⟨p0, p1, p2⟩ := HK.out z1 BZ1.out
            clear hb
            go_wp2_with fail
            refine (HE.out _ BZ1.out).mono ?_
            rintro e z2 ⟨rfl, hb⟩
            have BZ2 := Lib.hid (BZ1.out.trans (hb.mono BZ1.out.size))
            obtain ⟨p0, p1, p2⟩ := HK.out z2 BZ2.out
            clear hb
            go_wp2_with fail
            refine (HN.out _ BZ2.out).mono ?_
            rintro e z3 ⟨rfl, hb⟩
            have BZ3 := Lib.hid (BZ2.out.trans (hb.mono BZ2.out.size))
            obtain ⟨p0, p1, p2⟩ := HK.out z3 BZ3.out
            clear hb
            go_wp2_with fail
            go_roundw
            case rel => exact ⟨k + 1, by omega, by go_num, HMQ.out.trans (Mv.of_below BZ3.out), HOQ.out.below BZ3.out HOQ.out.lt.2⟩
            case measure => simp [intOf]; omega
          | true =>
            obtain ⟨p0, p1, p2⟩ := HK.out wzb BZ.out
            go_wp2_with fail
            refine (HU.out _ BZ.out).mono ?_
            rintro e z0 ⟨rfl, hb⟩
            have BZ0 := Lib.hid (BZ.out.trans (hb.mono BZ.out.size))
            obtain ⟨p0, p1, p2⟩ := HK.out z0 BZ0.out
            clear hb
            go_wp2_with fail
            refine (HI.out _ BZ0.out).mono ?_
            rintro e z1 ⟨rfl, hb⟩
            have BZ1 := Lib.hid (BZ0.out.trans (hb.mono BZ0.out.size))
            obtain ⟨p0, p1, p2⟩ := HK.out z1 BZ1.out
            clear hb
            go_wp2_with fail
            refine (HE.out _ BZ1.out).mono ?_
            rintro e z2 ⟨rfl, hb⟩
            have BZ2 := Lib.hid (BZ1.out.trans (hb.mono BZ1.out.size))
            obtain ⟨p0, p1, p2⟩ := HK.out z2 BZ2.out
            clear hb
            go_wp2_with fail
            refine (HN.out _ BZ2.out).mono ?_
            rintro e z3 ⟨rfl, hb⟩
            have BZ3 := Lib.hid (BZ2.out.trans (hb.mono BZ2.out.size))
            obtain ⟨p0, p1, p2⟩ := HK.out z3 BZ3.out
            clear hb
            go_wp2_with fail
            go_roundw
            case rel => exact ⟨k + 1, by omega, by go_num, HMQ.out.trans (Mv.of_below BZ3.out), HOQ.out.below BZ3.out HOQ.out.lt.2⟩
            case measure => simp [intOf]; omega
        | true =>
          cases p with
          | false =>
            obtain ⟨p0, p1, p2⟩ := HK.out wzb BZ.out
            go_wp2_with fail
            refine (HU.out _ BZ.out).mono ?_
            rintro e z0 ⟨rfl, hb⟩
            have BZ0 := Lib.hid (BZ.out.trans (hb.mono BZ.out.size))
            obtain ⟨p0, p1, p2⟩ := HK.out z0 BZ0.out
            clear hb
            go_wp2_with fail
            refine (HI.out _ BZ0.out).mono ?_
            rintro e z1 ⟨rfl, hb⟩
            have BZ1 := Lib.hid (BZ0.out.trans (hb.mono BZ0.out.size))
            obtain ⟨p0, p1, p2⟩ := HK.out z1 BZ1.out
            clear hb
            go_wp2_with fail
            refine (HE.out _ BZ1.out).mono ?_
            rintro e z2 ⟨rfl, hb⟩
            have BZ2 := Lib.hid (BZ1.out.trans (hb.mono BZ1.out.size))
            obtain ⟨p0, p1, p2⟩ := HK.out z2 BZ2.out
            clear hb
            go_wp2_with fail
            refine (HN.out _ BZ2.out).mono ?_
            rintro e z3 ⟨rfl, hb⟩
            have BZ3 := Lib.hid (BZ2.out.trans (hb.mono BZ2.out.size))
            obtain ⟨p0, p1, p2⟩ := HK.out z3 BZ3.out
            clear hb
            go_wp2_with fail
            go_roundw
            case rel => exact ⟨k + 1, by omega, by go_num, HMQ.out.trans (Mv.of_below BZ3.out), HOQ.out.below BZ3.out HOQ.out.lt.2⟩
            case measure => simp [intOf]; omega
          | true =>
            obtain ⟨p0, p1, p2⟩ := HK.out wzb BZ.out
            go_wp2_with fail
            refine (HU.out _ BZ.out).mono ?_
            rintro e z0 ⟨rfl, hb⟩
            have BZ0 := Lib.hid (BZ.out.trans (hb.mono BZ.out.size))
            obtain ⟨p0, p1, p2⟩ := HK.out z0 BZ0.out
            clear hb
            go_wp2_with fail
            refine (HI.out _ BZ0.out).mono ?_
            rintro e z1 ⟨rfl, hb⟩
            have BZ1 := Lib.hid (BZ0.out.trans (hb.mono BZ0.out.size))
            obtain ⟨p0, p1, p2⟩ := HK.out z1 BZ1.out
            clear hb
            go_wp2_with fail
            refine (HE.out _ BZ1.out).mono ?_
            rintro e z2 ⟨rfl, hb⟩
            have BZ2 := Lib.hid (BZ1.out.trans (hb.mono BZ1.out.size))
            obtain ⟨p0, p1, p2⟩ := HK.out z2 BZ2.out
            clear hb
            go_wp2_with fail
            refine (HN.out _ BZ2.out).mono ?_
            rintro e z3 ⟨rfl, hb⟩
            have BZ3 := Lib.hid (BZ2.out.trans (hb.mono BZ2.out.size))
            obtain ⟨p0, p1, p2⟩ := HK.out z3 BZ3.out
            clear hb
            go_wp2_with fail
            go_roundw
            case rel => exact ⟨k + 1, by omega, by go_num, HMQ.out.trans (Mv.of_below BZ3.out), HOQ.out.below BZ3.out HOQ.out.lt.2⟩
            case measure => simp [intOf]; omega
    · go_wp2_with fail
      have BF : Hid (Below w.heap.size w wr) := Q5.out.trans (HR.out.1.below (by omega) (by omega))
      refine (HBEG.out _).mono ?_
      rintro e z0 ⟨rfl, hb⟩
      have BF0 := Lib.hid (BF.out.trans (hb.mono BF.out.size))
      have BR0 := Lib.hid hb
      clear hb
      have HVU : Hid (∀ W, Below wr.heap.size wr W → Calls Try.prog 11 #[.slice aU U.length cU] W fun e w' => e = .returned (.bool true) ∧ Below W.heap.size W w') := fun W hb => by
        have := iValid_any (.slice aU U.length cU) U W ((GU.out.mvn HR.out.1).below hb).all
        have h2 := CU.out.vld (by decide)
        unfold vldL at h2
        rw [h2] at this
        exact this
      have HVI : Hid (∀ W, Below wr.heap.size wr W → Calls Try.prog 11 #[.slice aI I.length cI] W fun e w' => e = .returned (.bool true) ∧ Below W.heap.size W w') := fun W hb => by
        have := iValid_any (.slice aI I.length cI) I W ((GI.out.mvn HR.out.1).below hb).all
        have h2 := CI.out.vld (by decide)
        unfold vldL at h2
        rw [h2] at this
        exact this
      have HVE : Hid (∀ W, Below wr.heap.size wr W → Calls Try.prog 11 #[.slice aE E.length cE] W fun e w' => e = .returned (.bool true) ∧ Below W.heap.size W w') := fun W hb => by
        have := iValid_any (.slice aE E.length cE) E W ((GE.out.mvn HR.out.1).below hb).all
        have h2 := CE.out.vld (by decide)
        unfold vldL at h2
        rw [h2] at this
        exact this
      have HVN : Hid (∀ W, Below wr.heap.size wr W → Calls Try.prog 11 #[.slice aN N.length cN] W fun e w' => e = .returned (.bool true) ∧ Below W.heap.size W w') := fun W hb => by
        have := iValid_any (.slice aN N.length cN) N W ((GN.out.mvn HR.out.1).below hb).all
        have h2 := CN.out.vld (by decide)
        unfold vldL at h2
        rw [h2] at this
        exact this
      go_wp2_with fail
      refine (HVU.out _ BR0.out).mono ?_
      rintro e z1 ⟨rfl, hb⟩
      have BF1 := Lib.hid (BF0.out.trans (hb.mono BF0.out.size))
      have BR1 := Lib.hid (BR0.out.trans (hb.mono BR0.out.size))
      clear hb
      go_wp2_with fail
      refine (HVI.out _ BR1.out).mono ?_
      rintro e z2 ⟨rfl, hb⟩
      have BF2 := Lib.hid (BF1.out.trans (hb.mono BF1.out.size))
      have BR2 := Lib.hid (BR1.out.trans (hb.mono BR1.out.size))
      clear hb
      go_wp2_with fail
      refine (HVE.out _ BR2.out).mono ?_
      rintro e z3 ⟨rfl, hb⟩
      have BF3 := Lib.hid (BF2.out.trans (hb.mono BF2.out.size))
      have BR3 := Lib.hid (BR2.out.trans (hb.mono BR2.out.size))
      clear hb
      go_wp2_with fail
      refine (HVN.out _ BR3.out).mono ?_
      rintro e z4 ⟨rfl, hb⟩
      have BF4 := Lib.hid (BF3.out.trans (hb.mono BF3.out.size))
      have BR4 := Lib.hid (BR3.out.trans (hb.mono BR3.out.size))
      clear hb
      go_wp2_with fail
      go_ret
      exact ⟨rfl, BF4.out⟩
end Go.Proofs.Ytmhgmlnnipdomaa
