/- Law CodecOne: what was read is written as the bytes it was read from: the call returns true. -/
import Derived.Test.YtkhbephcmcnfjaaBegun2
import Derived.Test.YtkhbephcmcnfjaaCase6
import Derived.Test.YtkhbephcmcnfjaaOnce
import Derived.Test.YtkhbephcmcnfjaaLawCuts
namespace Go.Proofs.Ytkhbephcmcnfjaa
open Go.RowKit Go.Deep

set_option maxHeartbeats 400000 in
theorem cBool_two (bc B : Nat) (w : World) (h : CaseOk bc B w) : Calls Try.prog 52 #[.pointer (some ⟨bc, 0, none⟩), .int .i64 2] w (BoolPost bc B w) := by
  have HI := Lib.hid (cInt_any bc B 2 w (by omega) (by omega) h)
  clear h
  go_enter Try.func52, Try.ntmps52
  go_wp2_with fail
  refine HI.out.mono ?_
  rintro e w1 ⟨r, rfl, hr0, hr1, hm, ho⟩
  clear HI
  go_wp2_with fail
  go_ret
  exact ⟨_, rfl, hm, ho⟩

theorem own_mv {B bc : Nat} {w w' : World} {v : Value} {L : List UInt8} (h : Own B w v L) (hm : Mv bc w w') (hb : bc < B) : Own B w' v L := by
  refine ⟨h.1, ?_⟩
  rcases h.2 with h | ⟨g, cap, cur, e, hg, hh, r⟩
  · exact .inl h
  · exact .inr ⟨g, cap, cur, e, hg, (hm.block g (Array.getElem?_eq_some_iff.1 hh).1 (by omega)).trans hh, r⟩

/-- A byte of one's own buffer, and what is read once it is set. -/
theorem own_byte {B : Nat} {w : World} {v : Value} {L : List UInt8} (h : Own B w v L) (hp : 0 < L.length) : ∃ g cap, v = .slice (some ⟨g, 0, none⟩) L.length cap ∧ B ≤ g ∧ L.length ≤ cap ∧ g < w.heap.size ∧
    ∀ j (hj : j < L.length), w.cell? ⟨g, j, none⟩ = some (.int .u8 (L[j].toNat : Int)) ∧ w.frozen? ⟨g, j, none⟩ = false ∧ ∀ c : UInt8, Reads (w.setCell ⟨g, j, none⟩ (.int .u8 (c.toNat : Int))) v (L.set j c) := by
  have h0 := h
  rcases h.2 with ⟨_, h⟩ | ⟨g, cap, cur, rfl, hg, hh, hc1, hc2, _⟩
  · omega
  have hcell : ∀ i, i < L.length → w.cell? ⟨g, i, none⟩ = (bts L)[i]? := fun i hi => World.ownsRow.cellAt h0 i (by omega)
  refine ⟨g, cap, rfl, hg, hc1, (Array.getElem?_eq_some_iff.1 hh).1, fun j hj => ⟨?_, World.ownsRow.frozenAt h0 j, fun c => ?_⟩⟩
  · rw [hcell j hj]; simp [bts, hj]
  · refine ⟨some ⟨g, 0, none⟩, cap, by rw [List.length_set], by rw [List.length_set]; exact hc1, hc2, by simp, fun p hp i u hi => ?_⟩
    obtain rfl := Option.some.inj hp
    have hil : i < L.length := by
      have h2 := (List.getElem?_eq_some_iff.1 hi).1
      simpa [bts] using h2
    have ha : (⟨g, 0, none⟩ : Addr).add i = ⟨g, i, none⟩ := by unfold Addr.add; split <;> simp_all
    rw [ha]
    by_cases e : i = j
    · subst e
      rw [World.cell?_setCell_same _ _ _ (show w.cell? ⟨g, i, none⟩ = some (.int .u8 (L[i].toNat : Int)) by rw [hcell i hil]; simp [bts, hil])]
      simpa [bts, hil] using hi
    · rw [World.cell?_setCell_other _ _ _ _ (by intro h; simp at h <;> omega), hcell i hil]
      simp only [bts, List.getElem?_map, List.getElem?_set] at hi ⊢
      rw [if_neg (by omega)] at hi
      exact hi

theorem xor_byte (a : UInt8) (y : Nat) (hy : y ≤ 255) : ∃ c : UInt8, bits .xor .u8 (a.toNat : Int) (y : Int) = (c.toNat : Int) := by
  have ha := a.toNat_lt
  refine ⟨UInt8.ofNat (a.toNat ^^^ y), ?_⟩
  have h : a.toNat ^^^ y < 2 ^ 8 := Nat.xor_lt_two_pow (by omega) (by omega)
  rw [u8_xor_nat _ _ (by omega) (by omega), byte_nat _ (by omega)]

set_option maxRecDepth 100000 in
set_option maxHeartbeats 8000000 in
theorem one_walk (cv : Value) (cn : Nat) (dv : Value) (D : List UInt8) (t y : Nat) (w : World) (hcv : BytesAt w cv cn) (hd : Reads w dv D) (ht : t ≤ 255) (hy : y ≤ 255) :
    Calls Try.prog 9 #[cv, dv, .int .u8 t, .int .u8 y] w fun e w' => e = .returned (.bool true) ∧ Below w.heap.size w w' := by
  have hinfo : (Try.prog.info? 5).map (fun i => (i.zero, i.size, i.bytes)) = some (some (.int .u8 0), 1, 1) := by kernel_rfl
  obtain ⟨i0, hi, hz0, hz1, hz2⟩ := info_parts hinfo
  have HI := Lib.hid hi
  have HZ0 := Lib.hid hz0
  have HZ1 := Lib.hid hz1
  have HZ2 := Lib.hid hz2
  have HN := Lib.hid (cNew_any cv cn w hcv)
  have HD := Lib.hid hd
  have hwt : wrap64 (t : Int) = t := by unfold wrap64; omega
  clear hcv hd hi hz0 hz1 hz2 hinfo
  go_enter Try.func9, Try.ntmps9
  go_wp2_with fail
  refine HN.out.mono ?_
  rintro e w1 ⟨bc, rfl, hb1, hbc, hok⟩
  have HB1 := Lib.hid hb1
  have hbl := hok.lt
  have HIN := Lib.hid (cInt_any bc _ 5 w1 (by omega) (by omega) hok)
  clear hok HN hb1
  go_wp2_with fail
  refine HIN.out.mono ?_
  rintro e w2 ⟨r, rfl, hr0, hr1, hm2, hok2⟩
  have hr3 : r ≤ 4 := by omega
  obtain ⟨m, rfl⟩ : ∃ m : Nat, r = m := ⟨r.toNat, by omega⟩
  have HB2 : Hid (Below w.heap.size w w2) := HB1.out.trans (hm2.below hbc HB1.out.size)
  have hbc2 : bc < w2.heap.size := by have := hm2.size; omega
  have hs12 := hm2.size
  have HCL := Lib.hid (cCells_n bc _ m w2 (by omega) hok2)
  clear hm2 hok2 HIN hr0 hr1
  go_wp2_with fail
  refine HCL.out.mono ?_
  rintro e w3 ⟨gv, l, rfl, hll, hlv, hlr, hrt, hm3, hok3⟩
  have HB3 : Hid (Below w.heap.size w w3) := HB2.out.trans (hm3.below hbc HB2.out.size)
  have hbc3 : bc < w3.heap.size := by have := hm3.size; omega
  have hs13 : w1.heap.size ≤ w3.heap.size := Nat.le_trans hs12 hm3.size
  have hw3 : w.heap.size ≤ w3.heap.size := HB3.out.size
  obtain ⟨L, hL⟩ : ∃ L, L = rowOut [] l := ⟨_, rfl⟩
  have hLl : L.length ≤ 1000 := by
    have k4 := leb_len10 l.length (by omega)
    have k5 := encL_len l hlv hlr
    rw [hL]; unfold rowOut
    rw [if_neg (by omega), if_pos hlv, List.nil_append, List.length_append]; omega
  have HC1 : Hid (Calls Try.prog 37 #[.slice none 0 0, gv] w3 fun e w' => ∃ u z, e = .returned (.tuple #[u, .int .i64 z]) ∧ Own w3.heap.size w' u L ∧ Below w3.heap.size w3 w') := by
    have := rARow_any (.slice none 0 0) gv [] l w3 (reads_nil w3) (hrt.rowB.at (Nat.le_refl _)) (by simp) hlr
    rw [← hL] at this
    exact this.mono (fun e w' ⟨u, he, ho, hb, _⟩ => ⟨u, _, he, ho, hb⟩)
  have HOK3 := Lib.hid hok3
  clear hm3 hok3 hlv hlr hll hrt HCL HB1 HB2 hL
  go_wp2_with fail
  refine HC1.out.mono ?_
  rintro e w4 ⟨bv, z, rfl, ho4, hb4⟩
  have HO4 := Lib.hid ho4
  have HB4 : Hid (Below w.heap.size w w4) := HB3.out.trans (hb4.mono HB3.out.size)
  have HBO := Lib.hid (cBool_two bc _ w4 (HOK3.out.below hb4 hs13))
  clear ho4 hb4 HOK3 HC1 HB3
  go_wp2_with fail
  refine HBO.out.mono ?_
  rintro e w5 ⟨x, rfl, hm5, -⟩
  have HB5 : Hid (Below w.heap.size w w5) := HB4.out.trans (hm5.below hbc HB4.out.size)
  have HO5 := Lib.hid (own_mv HO4.out hm5 hbc3)
  have HP := Lib.hid (part_any dv D w5 (HD.out.below HB5.out))
  obtain ⟨P, hP⟩ : ∃ P, P = D.take 200 := ⟨_, rfl⟩
  have hPl : P.length ≤ 200 := by rw [hP, List.length_take]; omega
  rw [← hP] at HP
  obtain ⟨B0, hB0⟩ : ∃ B0, B0 = w3.heap.size := ⟨_, rfl⟩
  rw [← hB0] at HO5 hw3
  clear hm5 HO4 HB4 HBO hP hB0 HD hbc3
  cases x with
  | false =>
    clear HP
    by_cases hpos : 0 < L.length
    · obtain ⟨g, cap, rfl, hg, hgc, hgw, hbyte⟩ := own_byte HO5.out hpos
      obtain ⟨j, hj⟩ : ∃ j, j = t % L.length := ⟨_, rfl⟩
      have hjl : j < L.length := by rw [hj]; exact Nat.mod_lt _ hpos
      have hT : (t : Int).tmod (L.length : Int) = (j : Int) := by rw [hj]; rfl
      have hj0 : (0 : Int) ≤ j := by omega
      have hj1 : (j : Int) < L.length := by omega
      have hz : ((L.length : Int) == 0) = false := by rw [beq_eq_false_iff_ne]; omega
      obtain ⟨c, hxr⟩ := xor_byte L[j] y hy
      clear hj
      obtain ⟨hcell, hfz, hset⟩ := hbyte j hjl
      have HRZ0 := Lib.hid (hset c)
      have HBZ0 : Hid (Below w.heap.size w (w5.setCell ⟨g, j, none⟩ (.int .u8 (c.toNat : Int)))) := Below.setCell HB5.out (by simp; omega) _
      obtain ⟨LZ, hLZ⟩ : ∃ LZ, LZ = L.set j c := ⟨_, rfl⟩
      have hlz : LZ.length = L.length := by rw [hLZ, List.length_set]
      rw [← hLZ] at HRZ0
      clear hbyte hset hLZ hPl HO5 HB5
      go_wp2_with fail
      have HRZ := HRZ0
      have HBZ := HBZ0
      obtain ⟨wz, hwz⟩ : ∃ wz, wz = w5.setCell ⟨g, j, none⟩ (.int .u8 (c.toNat : Int)) := ⟨_, rfl⟩
      rw [← hwz] at HRZ HBZ
      rw [← hwz]
      clear hwz HRZ0 HBZ0 hcell hfz hT hxr
      have HER := Lib.hid (eRow_any (.slice (some ⟨g, 0, none⟩) L.length cap) LZ 0 wz HRZ.out (by omega))
      rcases readR_back LZ with ⟨er, he, hR⟩ | ⟨l2, q, hR, hq, hre, hro, hin⟩
      · rw [hR] at HER
        clear hR
        refine HER.out.mono ?_
        rintro _ x1 ⟨rv, rfl, hrv, b1⟩
        obtain ⟨ra, rc, rfl, -, -⟩ := hrv
        have HX1 : Hid (Below w.heap.size w x1) := HBZ.out.trans (b1.mono HBZ.out.size)
        have HG := Lib.hid (begun2_any x1)
        clear b1 HER HRZ HBZ
        go_wp2_with fail
        refine HG.out.mono ?_
        rintro _ x2 ⟨rfl, b2⟩
        have HX2 : Hid (Below w.heap.size w x2) := HX1.out.trans (b2.mono HX1.out.size)
        clear b2
        go_wp2_with fail
        go_ret
        exact ⟨rfl, HX2.out⟩
      · rw [hR] at HER
        clear hR
        refine HER.out.mono ?_
        rintro _ x1 ⟨rv, rfl, hrv, b1⟩
        have HX1 : Hid (Below wz.heap.size wz x1) := b1
        have HA := Lib.hid (aRow_any (.slice none 0 0) rv [] l2 x1 (reads_nil x1) hrv (by simp) hin)
        rw [hre, hro] at HA
        have hq0 : (0 : Int) ≤ q := by omega
        have hq1 : (q : Int) ≤ L.length := by omega
        have hq2 : (q : Int) ≤ cap := by omega
        clear hre hro hin hrv b1 HER
        go_wp2_with fail
        refine HA.out.mono ?_
        rintro _ x2 ⟨wv, rfl, ho, b2, -⟩
        have HO := Lib.hid ho
        have HX2 := Lib.hid (HX1.out.trans (b2.mono HX1.out.size))
        have HG := Lib.hid (begun2_any x2)
        clear b2 ho HX1
        go_wp2_with fail
        refine HG.out.mono ?_
        rintro _ x3 ⟨rfl, b3⟩
        have HX3 := Lib.hid (HX2.out.trans (b3.mono HX2.out.size))
        have HCUT : Reads wz (.slice (some ⟨g, 0, none⟩) q cap) (LZ.take q) := by
          refine reads_cut ?_ q hq
          rw [hlz]
          exact HRZ.out
        have HSM := Lib.hid (same_any wv (.slice (some ⟨g, 0, none⟩) q cap) (LZ.take q) (LZ.take q) x3 (HO.out.reads.below b3) (HCUT.below HX3.out))
        rw [decide_eq_true rfl] at HSM
        clear b3 HG HO HX2 HA HCUT
        go_wp2_with fail
        refine HSM.out.mono ?_
        rintro _ x4 ⟨rfl, hx4⟩
        subst hx4
        go_wp2_with fail
        go_ret
        exact ⟨rfl, HBZ.out.trans (HX3.out.mono HBZ.out.size)⟩
    · obtain ⟨a4, n4, c4, rfl⟩ := HO5.out.reads.form
      obtain ⟨rfl, hc4, -⟩ := HO5.out.reads.full
      have HRZ := Lib.hid HO5.out.reads
      have HBZ := HB5
      obtain ⟨LZ, hLZ⟩ : ∃ LZ, LZ = L := ⟨_, rfl⟩
      have hlz : LZ.length = L.length := by rw [hLZ]
      have HRZ : Hid (Reads w5 (.slice a4 L.length c4) LZ) := by rw [hLZ]; exact HRZ
      clear hLZ HO5 hPl
      go_wp2_with fail
      have HER := Lib.hid (eRow_any (.slice a4 L.length c4) LZ 0 w5 HRZ.out (by omega))
      rcases readR_back LZ with ⟨er, he, hR⟩ | ⟨l2, q, hR, hq, hre, hro, hin⟩
      · rw [hR] at HER
        clear hR
        refine HER.out.mono ?_
        rintro _ x1 ⟨rv, rfl, hrv, b1⟩
        obtain ⟨ra, rc, rfl, -, -⟩ := hrv
        have HX1 : Hid (Below w.heap.size w x1) := HBZ.out.trans (b1.mono HBZ.out.size)
        have HG := Lib.hid (begun2_any x1)
        clear b1 HER HRZ HBZ
        go_wp2_with fail
        refine HG.out.mono ?_
        rintro _ x2 ⟨rfl, b2⟩
        have HX2 : Hid (Below w.heap.size w x2) := HX1.out.trans (b2.mono HX1.out.size)
        clear b2
        go_wp2_with fail
        go_ret
        exact ⟨rfl, HX2.out⟩
      · rw [hR] at HER
        clear hR
        refine HER.out.mono ?_
        rintro _ x1 ⟨rv, rfl, hrv, b1⟩
        have HX1 : Hid (Below w5.heap.size w5 x1) := b1
        have HA := Lib.hid (aRow_any (.slice none 0 0) rv [] l2 x1 (reads_nil x1) hrv (by simp) hin)
        rw [hre, hro] at HA
        have hq0 : (0 : Int) ≤ q := by omega
        have hq1 : (q : Int) ≤ L.length := by omega
        have hq2 : (q : Int) ≤ c4 := by omega
        clear hre hro hin hrv b1 HER
        go_wp2_with fail
        refine HA.out.mono ?_
        rintro _ x2 ⟨wv, rfl, ho, b2, -⟩
        have HO := Lib.hid ho
        have HX2 := Lib.hid (HX1.out.trans (b2.mono HX1.out.size))
        have HG := Lib.hid (begun2_any x2)
        clear b2 ho HX1
        go_wp2_with fail
        refine HG.out.mono ?_
        rintro _ x3 ⟨rfl, b3⟩
        have HX3 := Lib.hid (HX2.out.trans (b3.mono HX2.out.size))
        have HCUT : Reads w5 (.slice a4 q c4) (LZ.take q) := by
          refine reads_cut ?_ q hq
          rw [hlz]
          exact HRZ.out
        have HSM := Lib.hid (same_any wv (.slice a4 q c4) (LZ.take q) (LZ.take q) x3 (HO.out.reads.below b3) (HCUT.below HX3.out))
        rw [decide_eq_true rfl] at HSM
        clear b3 HG HO HX2 HA HCUT
        go_wp2_with fail
        refine HSM.out.mono ?_
        rintro _ x4 ⟨rfl, hx4⟩
        subst hx4
        go_wp2_with fail
        go_ret
        exact ⟨rfl, HBZ.out.trans (HX3.out.mono HBZ.out.size)⟩
  | true =>
    clear HO5 hw3 hLl
    go_wp2_with fail
    refine HP.out.mono ?_
    rintro _ wx ⟨pv, rfl, hpr, hwx⟩
    subst hwx
    obtain ⟨pa, pn, pc, rfl⟩ := hpr.form
    obtain ⟨rfl, hpc1, hpc2⟩ : pn = P.length ∧ pn ≤ pc ∧ pc ≤ maxLen := by obtain ⟨_, _, e, g1, g2, _⟩ := hpr; simp only [Value.slice.injEq] at e; obtain ⟨rfl, rfl, rfl⟩ := e; exact ⟨rfl, g1, g2⟩
    have L2 : Hid (pa = none → P.length = 0 ∧ pc = 0) := fun h => by
      obtain ⟨_, _, e, _, _, g3, _⟩ := hpr
      simp only [Value.slice.injEq] at e
      obtain ⟨rfl, -, rfl⟩ := e
      have := g3 h
      omega
    have L4 : Hid (∀ p, pa = some p → ∀ j u, (bts P)[j]? = some u → wx.cell? (p.add j) = some u) := by
      obtain ⟨_, _, e, _, _, _, g4⟩ := hpr
      simp only [Value.slice.injEq] at e
      obtain ⟨rfl, -, rfl⟩ := e
      exact g4
    have L3 : Hid ((bts P).length = P.length * 1) := by show _ = _; rw [bts_len]; omega
    have L6 : Hid (P.length ≤ maxLen) := by show _ ≤ _; unfold maxLen; omega
    have L7 : Hid (P.length * 1 ≤ 140737488355328) := by show _ ≤ _; omega
    clear hpr HP
    by_cases hpos : 0 < P.length
    · obtain ⟨j, hj⟩ : ∃ j, j = t % P.length := ⟨_, rfl⟩
      have hjl : j < P.length := by rw [hj]; exact Nat.mod_lt _ hpos
      have hT : (t : Int).tmod (P.length : Int) = (j : Int) := by rw [hj]; rfl
      have hj0 : (0 : Int) ≤ j := by omega
      have hj1 : (j : Int) < P.length := by omega
      have hz : ((P.length : Int) == 0) = false := by rw [beq_eq_false_iff_ne]; omega
      obtain ⟨c, hxr⟩ := xor_byte P[j] y hy
      obtain ⟨LZ, hLZ⟩ : ∃ LZ, LZ = P.set j c := ⟨_, rfl⟩
      have hlz : LZ.length = P.length := by rw [hLZ, List.length_set]
      have HLZ := Lib.hid hLZ
      clear hj hLZ
      go_wp2_with (at_builtin; refine wpList_append_nil rfl _ _ 22 (by rfl) 5 i0 (.int .u8 0) 1 1 Try.underlying22 HI.out HZ0.out HZ1.out HZ2.out rfl (by decide) (by rfl) pa P.length pc (bts P) (by rfl) L2.out L3.out L4.out (bts_one P) L6.out L7.out ?_; intro v1 wq hown1 hba; have hown2 : Own wx.heap.size wq v1 P := hown1; have HBA : Hid (Below w.heap.size w wq) := HB5.out.trans (hba.mono HB5.out.size); clear hown1; obtain ⟨g, cap, rfl, hg, hgc, hgw, hbyte⟩ := own_byte hown2 hpos; obtain ⟨hcell, hfz, hset⟩ := hbyte j hjl; have HRZ0 := Lib.hid (hset c); rw [← HLZ.out] at HRZ0; have HBZ0 : Hid (Below w.heap.size w (wq.setCell ⟨g, j, none⟩ (.int .u8 (c.toNat : Int)))) := Below.setCell HBA.out (Nat.le_trans HB5.out.size hg) _; clear hbyte hset hown2 hba HLZ)
      have HRZ := HRZ0
      have HBZ := HBZ0
      obtain ⟨wz, hwz⟩ : ∃ wz, wz = wq.setCell ⟨g, j, none⟩ (.int .u8 (c.toNat : Int)) := ⟨_, rfl⟩
      rw [← hwz] at HRZ HBZ
      rw [← hwz]
      clear hwz HRZ0 HBZ0 hcell hfz hT hxr
      have HER := Lib.hid (eRow_any (.slice (some ⟨g, 0, none⟩) P.length cap) LZ 0 wz HRZ.out (by omega))
      rcases readR_back LZ with ⟨er, he, hR⟩ | ⟨l2, q, hR, hq, hre, hro, hin⟩
      · rw [hR] at HER
        clear hR
        refine HER.out.mono ?_
        rintro _ x1 ⟨rv, rfl, hrv, b1⟩
        obtain ⟨ra, rc, rfl, -, -⟩ := hrv
        have HX1 : Hid (Below w.heap.size w x1) := HBZ.out.trans (b1.mono HBZ.out.size)
        have HG := Lib.hid (begun2_any x1)
        clear b1 HER HRZ HBZ
        go_wp2_with fail
        refine HG.out.mono ?_
        rintro _ x2 ⟨rfl, b2⟩
        have HX2 : Hid (Below w.heap.size w x2) := HX1.out.trans (b2.mono HX1.out.size)
        clear b2
        go_wp2_with fail
        go_ret
        exact ⟨rfl, HX2.out⟩
      · rw [hR] at HER
        clear hR
        refine HER.out.mono ?_
        rintro _ x1 ⟨rv, rfl, hrv, b1⟩
        have HX1 : Hid (Below wz.heap.size wz x1) := b1
        have HA := Lib.hid (aRow_any (.slice none 0 0) rv [] l2 x1 (reads_nil x1) hrv (by simp) hin)
        rw [hre, hro] at HA
        have hq0 : (0 : Int) ≤ q := by omega
        have hq1 : (q : Int) ≤ P.length := by omega
        have hq2 : (q : Int) ≤ cap := by omega
        clear hre hro hin hrv b1 HER
        go_wp2_with fail
        refine HA.out.mono ?_
        rintro _ x2 ⟨wv, rfl, ho, b2, -⟩
        have HO := Lib.hid ho
        have HX2 := Lib.hid (HX1.out.trans (b2.mono HX1.out.size))
        have HG := Lib.hid (begun2_any x2)
        clear b2 ho HX1
        go_wp2_with fail
        refine HG.out.mono ?_
        rintro _ x3 ⟨rfl, b3⟩
        have HX3 := Lib.hid (HX2.out.trans (b3.mono HX2.out.size))
        have HCUT : Reads wz (.slice (some ⟨g, 0, none⟩) q cap) (LZ.take q) := by
          refine reads_cut ?_ q hq
          rw [hlz]
          exact HRZ.out
        have HSM := Lib.hid (same_any wv (.slice (some ⟨g, 0, none⟩) q cap) (LZ.take q) (LZ.take q) x3 (HO.out.reads.below b3) (HCUT.below HX3.out))
        rw [decide_eq_true rfl] at HSM
        clear b3 HG HO HX2 HA HCUT
        go_wp2_with fail
        refine HSM.out.mono ?_
        rintro _ x4 ⟨rfl, hx4⟩
        subst hx4
        go_wp2_with fail
        go_ret
        exact ⟨rfl, HBZ.out.trans (HX3.out.mono HBZ.out.size)⟩
    · go_wp2_with (at_builtin; refine wpList_append_nil rfl _ _ 22 (by rfl) 5 i0 (.int .u8 0) 1 1 Try.underlying22 HI.out HZ0.out HZ1.out HZ2.out rfl (by decide) (by rfl) pa P.length pc (bts P) (by rfl) L2.out L3.out L4.out (bts_one P) L6.out L7.out ?_; intro v1 wq hown1 hba; have hown2 : Own wx.heap.size wq v1 P := hown1; have HBA : Hid (Below w.heap.size w wq) := HB5.out.trans (hba.mono HB5.out.size); clear hown1; obtain ⟨a4, n4, c4, rfl⟩ := hown2.reads.form; obtain ⟨rfl, hc4, -⟩ := hown2.reads.full; have HRZ0 := Lib.hid hown2.reads; clear hown2 hba)
      have HBZ := HBA
      obtain ⟨LZ, hLZ⟩ : ∃ LZ, LZ = P := ⟨_, rfl⟩
      have hlz : LZ.length = P.length := by rw [hLZ]
      have HRZ : Hid (Reads wq (.slice a4 P.length c4) LZ) := by rw [hLZ]; exact HRZ0
      clear hLZ HRZ0
      have HER := Lib.hid (eRow_any (.slice a4 P.length c4) LZ 0 wq HRZ.out (by omega))
      rcases readR_back LZ with ⟨er, he, hR⟩ | ⟨l2, q, hR, hq, hre, hro, hin⟩
      · rw [hR] at HER
        clear hR
        refine HER.out.mono ?_
        rintro _ x1 ⟨rv, rfl, hrv, b1⟩
        obtain ⟨ra, rc, rfl, -, -⟩ := hrv
        have HX1 : Hid (Below w.heap.size w x1) := HBZ.out.trans (b1.mono HBZ.out.size)
        have HG := Lib.hid (begun2_any x1)
        clear b1 HER HRZ HBZ
        go_wp2_with fail
        refine HG.out.mono ?_
        rintro _ x2 ⟨rfl, b2⟩
        have HX2 : Hid (Below w.heap.size w x2) := HX1.out.trans (b2.mono HX1.out.size)
        clear b2
        go_wp2_with fail
        go_ret
        exact ⟨rfl, HX2.out⟩
      · rw [hR] at HER
        clear hR
        refine HER.out.mono ?_
        rintro _ x1 ⟨rv, rfl, hrv, b1⟩
        have HX1 : Hid (Below wq.heap.size wq x1) := b1
        have HA := Lib.hid (aRow_any (.slice none 0 0) rv [] l2 x1 (reads_nil x1) hrv (by simp) hin)
        rw [hre, hro] at HA
        have hq0 : (0 : Int) ≤ q := by omega
        have hq1 : (q : Int) ≤ P.length := by omega
        have hq2 : (q : Int) ≤ c4 := by omega
        clear hre hro hin hrv b1 HER
        go_wp2_with fail
        refine HA.out.mono ?_
        rintro _ x2 ⟨wv, rfl, ho, b2, -⟩
        have HO := Lib.hid ho
        have HX2 := Lib.hid (HX1.out.trans (b2.mono HX1.out.size))
        have HG := Lib.hid (begun2_any x2)
        clear b2 ho HX1
        go_wp2_with fail
        refine HG.out.mono ?_
        rintro _ x3 ⟨rfl, b3⟩
        have HX3 := Lib.hid (HX2.out.trans (b3.mono HX2.out.size))
        have HCUT : Reads wq (.slice a4 q c4) (LZ.take q) := by
          refine reads_cut ?_ q hq
          rw [hlz]
          exact HRZ.out
        have HSM := Lib.hid (same_any wv (.slice a4 q c4) (LZ.take q) (LZ.take q) x3 (HO.out.reads.below b3) (HCUT.below HX3.out))
        rw [decide_eq_true rfl] at HSM
        clear b3 HG HO HX2 HA HCUT
        go_wp2_with fail
        refine HSM.out.mono ?_
        rintro _ x4 ⟨rfl, hx4⟩
        subst hx4
        go_wp2_with fail
        go_ret
        exact ⟨rfl, HBZ.out.trans (HX3.out.mono HBZ.out.size)⟩
end Go.Proofs.Ytkhbephcmcnfjaa
