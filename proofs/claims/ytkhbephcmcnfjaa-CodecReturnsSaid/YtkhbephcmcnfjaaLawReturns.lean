/- Law CodecReturns: what was written is read back: the call returns true. -/
import Derived.Test.YtkhbephcmcnfjaaBegun2
import Derived.Test.YtkhbephcmcnfjaaCase6
import Derived.Test.YtkhbephcmcnfjaaBack
import Derived.Test.YtkhbephcmcnfjaaLawReads
import Derived.Test.YtkhbephcmcnfjaaDecInt
import Derived.Test.YtkhbephcmcnfjaaRows2
namespace Go.Proofs.Ytkhbephcmcnfjaa
open Go.RowKit Go.Deep

section
variable {w : World} {ops : Array Oper} {rest : List Oper} {o : Oper} {a : Act} {Q : Exit → Act → World → Prop}
theorem wpList_append_reads (hgd : o.guard = none) (s x : Operand)
    (ho : o.op = .call { callee := .builtin .append, args := #[s, x], argTypes := #[22, 22] })
    (i : TypeInfo) (hi : Try.prog.info? 5 = some i) (hz : i.zero = some (.int .u8 0)) (hsize : i.size = 1) (hby : i.bytes = 1)
    (B : Nat) (v : Value) (L : List UInt8) (hb : Own B w v L) (hs : a.eval s = v) (xv : Value) (N : List UInt8) (hr : Reads w xv N) (hx : a.eval x = xv)
    (hlen : L.length + N.length ≤ 140737488355328) (hB : B ≤ w.heap.size)
    (h : ∀ v' w', Own B w' v' (L ++ N) → Below B w w' → wpList Try.prog ops Q rest (a.put o.dst v') w') : wpList Try.prog ops Q (o :: rest) a w := by
  obtain ⟨ad, c, rfl, h1, h2, h3, h4⟩ := hr
  cases ad with
  | none =>
    obtain rfl : c = 0 := h3 rfl
    obtain rfl : N = [] := List.eq_nil_of_length_eq_zero (by omega)
    refine wpList_append_own_none hgd s x 22 ho B 5 i 1 Try.underlying22 hi v L.length (bts L) hs hb hx (h _ _ ?_ (Below.refl _ _))
    simpa using hb
  | some ad =>
    refine wpList_append_own w hgd s x 22 ho B 5 i (.int .u8 0) 1 1 Try.underlying22 hi hz hsize hby rfl (by decide) v L.length (bts L) hs hb ad N.length c (bts N) hx (by rw [bts_len]; omega) (h4 ad rfl) (bts_one N) (by unfold maxLen; omega) (by omega) hB
      (fun v' w' a1 a2 _ => h v' w' ?_ ((Below.refl _ _).grown a2 hB (fun k hk => (World.ownsRow.lt hb k hk).1)))
    unfold Own
    rw [bts_app, List.length_append]
    exact a1
end

theorem readU_at {L M : List UInt8} {p n : Nat} (h : L.drop p = leb n ++ M) (hp : p ≤ L.length) (hn : n ≤ 18446744073709551615) : readU L p = (n, p + (leb n).length, 0) := by
  unfold readU
  rw [if_neg (by omega), Int.toNat_natCast, rdUint_leb h hn]
theorem readI_at {L M : List UInt8} {p : Nat} {m : Int} (h : L.drop p = leb (zz m) ++ M) (hp : p ≤ L.length) (h1 : -9223372036854775808 ≤ m) (h2 : m ≤ 9223372036854775807) : readI L p = (m, p + (leb (zz m)).length, 0) := by
  unfold readI
  rw [if_neg (by omega), Int.toNat_natCast, rdUint_leb h (zz_le m h1 h2)]
  simp only [unzz_zz]
theorem readT_at {L M : List UInt8} {p : Nat} {s : ByteArray} (h : L.drop p = (leb s.size ++ txt s) ++ M) (hp : p ≤ L.length) (hs : s.size ≤ 64) : readT L p 64 = (txt s, p + (leb s.size ++ txt s).length, 0) := by
  unfold readT
  rw [← txt_len s, List.append_assoc] at h
  rw [if_neg (by omega), Int.toNat_natCast, show (64 : Int).toNat = 64 from rfl, rdText_leb h (by rw [txt_len]; exact hs) (by rw [txt_len]; omega), List.length_append, txt_len]
  simp only [Nat.add_assoc]
theorem readR_at {L M : List UInt8} {p : Nat} {l : List V} (h : L.drop p = (leb l.length ++ encL l) ++ M) (hp : p ≤ L.length) (hl : l.length ≤ 12) (hv : vldL l = true) (hr : ∀ v ∈ l, InR v) : readR L p = (l, p + (leb l.length ++ encL l).length, 0) := by
  unfold readR
  rw [List.append_assoc] at h
  rw [if_neg (by omega), Int.toNat_natCast, rdRow_enc h hl hv hr]

set_option maxRecDepth 100000 in
set_option maxHeartbeats 4000000 in
theorem returns_walk (cv : Value) (cn : Nat) (dv : Value) (D : List UInt8) (mv : Value) (D2 : List UInt8) (n : Nat) (q : Int) (w : World) (hcv : BytesAt w cv cn) (hd : Reads w dv D) (hd2 : Reads w mv D2) (hn : n ≤ 18446744073709551615) (hq : -9223372036854775808 ≤ q) (hq' : q ≤ 9223372036854775807) :
    Calls Try.prog 8 #[cv, dv, mv, .int .u64 n, .int .i64 q] w fun e w' => e = .returned (.bool true) ∧ Below w.heap.size w w' := by
  have hinfo : (Try.prog.info? 5).map (fun i => (i.zero, i.size, i.bytes)) = some (some (.int .u8 0), 1, 1) := by kernel_rfl
  obtain ⟨i0, hi, hz0, hz1, hz2⟩ := info_parts hinfo
  have HI := Lib.hid hi
  have HZ0 := Lib.hid hz0
  have HZ1 := Lib.hid hz1
  have HZ2 := Lib.hid hz2
  have HN := Lib.hid (cNew_any cv cn w hcv)
  have HD := Lib.hid hd
  have HD2 := Lib.hid hd2
  clear hcv hd hd2 hi hz0 hz1 hz2 hinfo
  go_enter Try.func8, Try.ntmps8
  go_wp2_with fail
  refine HN.out.mono ?_
  rintro e w1 ⟨bc, rfl, hb1, hbc, hok⟩
  have HB1 := Lib.hid hb1
  have hbl := hok.lt
  have HIN := Lib.hid (cInt_any bc _ 13 w1 (by omega) (by omega) hok)
  clear hok HN hb1
  go_wp2_with fail
  refine HIN.out.mono ?_
  rintro e w2 ⟨r, rfl, hr0, hr1, hm2, hok2⟩
  have hr3 : r ≤ 12 := by omega
  obtain ⟨m, rfl⟩ : ∃ m : Nat, r = m := ⟨r.toNat, by omega⟩
  have HB2 : Hid (Below w.heap.size w w2) := HB1.out.trans (hm2.below hbc HB1.out.size)
  have hbc2 : bc < w2.heap.size := by have := hm2.size; omega
  have HCL := Lib.hid (cCells_n bc _ m w2 (by omega) hok2)
  clear hm2 hok2 HIN hr0 hr1
  go_wp2_with fail
  refine HCL.out.mono ?_
  rintro e w3 ⟨gv, l, rfl, hll, hlv, hlr, hrt, hm3, hok3⟩
  have HB3 : Hid (Below w.heap.size w w3) := HB2.out.trans (hm3.below hbc HB2.out.size)
  have HRT := Lib.hid hrt
  have HLV := Lib.hid hlv
  have HLR := Lib.hid hlr
  have h12 : l.length ≤ 12 := by omega
  have HTX := Lib.hid (cText_any bc _ w3 hok3)
  clear hm3 hok3 hlv hlr hll hrt HCL HB1 HB2
  go_wp2_with fail
  refine HTX.out.mono ?_
  rintro e w4 ⟨s, rfl, hs64, hm4, hok4⟩
  have HB4 : Hid (Below w.heap.size w w4) := HB3.out.trans (hm4.below hbc HB3.out.size)
  have HROW : Hid (∀ W, Below w4.heap.size w4 W → RowAt W gv l) := fun W hW => (((HRT.out.mv hm4 hbc2).rowB).below hW (Nat.le_refl _)).at hW.size
  obtain ⟨P1, hP1⟩ : ∃ P, P = D.take 200 := ⟨_, rfl⟩
  obtain ⟨P2, hP2⟩ : ∃ P, P = D2.take 200 := ⟨_, rfl⟩
  have hl1 : P1.length ≤ 200 := by rw [hP1, List.length_take]; omega
  have hl2 : P2.length ≤ 200 := by rw [hP2, List.length_take]; omega
  have HP1 := Lib.hid (part_any dv D w4 (HD.out.below HB4.out))
  have HP2 := Lib.hid (part_any mv D2 w4 (HD2.out.below HB4.out))
  rw [← hP1] at HP1
  rw [← hP2] at HP2
  clear hm4 hok4 HTX HB3 HRT hbc2 hP1 hP2 HD HD2
  go_wp2_with fail
  refine HP1.out.mono ?_
  rintro e wx ⟨pv, rfl, hp1, hwx⟩
  subst hwx
  go_wp2_with fail
  refine HP2.out.mono ?_
  rintro e wy ⟨tv, rfl, hp2, hwy⟩
  subst hwy
  have HTV := Lib.hid hp2
  obtain ⟨L1, hL1⟩ : ∃ L, L = P1 ++ leb n := ⟨_, rfl⟩
  obtain ⟨L2, hL2⟩ : ∃ L, L = L1 ++ leb (zz q) := ⟨_, rfl⟩
  obtain ⟨L3, hL3⟩ : ∃ L, L = L2 ++ (leb s.size ++ txt s) := ⟨_, rfl⟩
  obtain ⟨L4, hL4⟩ : ∃ L, L = L3 ++ (leb l.length ++ encL l) := ⟨_, rfl⟩
  obtain ⟨LB, hLB⟩ : ∃ L, L = L4 ++ P2 := ⟨_, rfl⟩
  have k1 := leb_len10 n hn
  have k2 := leb_len10 (zz q) (zz_le q hq hq')
  have k3 := leb_len10 s.size (by omega)
  have k4 := leb_len10 l.length (by omega)
  have k5 := encL_len l HLV.out HLR.out
  have z1 : L1.length ≤ 210 := by rw [hL1, List.length_append]; omega
  have z2 : L2.length ≤ 220 := by rw [hL2, List.length_append]; omega
  have z3 : L3.length ≤ 300 := by rw [hL3, List.length_append, List.length_append, txt_len]; omega
  have z4 : L4.length ≤ 1300 := by rw [hL4, List.length_append, List.length_append]; omega
  have z5 : LB.length ≤ 1500 := by rw [hLB, List.length_append]; omega
  have y1 : P1.length + (leb n).length = L1.length := by rw [hL1, List.length_append]
  have y2 : L1.length + (leb (zz q)).length = L2.length := by rw [hL2, List.length_append]
  have y3 : L2.length + (leb s.size ++ txt s).length = L3.length := by rw [hL3]; simp only [List.length_append]
  have y4 : L3.length + (leb l.length ++ encL l).length = L4.length := by rw [hL4]; simp only [List.length_append]
  have y5 : L4.length + P2.length = LB.length := by rw [hLB, List.length_append]
  have d1 : LB.drop P1.length = leb n ++ (leb (zz q) ++ ((leb s.size ++ txt s) ++ ((leb l.length ++ encL l) ++ P2))) := by
    rw [hLB, hL4, hL3, hL2, hL1]
    simp only [List.append_assoc]
    exact List.drop_left
  have d2 := drop_on d1
  rw [y1] at d2
  have d3 := drop_on d2
  rw [y2] at d3
  have d4 := drop_on d3
  rw [y3] at d4
  have RU := Lib.hid (readU_at d1 (by omega) hn)
  have RI := Lib.hid (readI_at d2 (by omega) hq hq')
  have RT := Lib.hid (readT_at d3 (by omega) hs64)
  have RR := Lib.hid (readR_at d4 (by omega) h12 HLV.out HLR.out)
  rw [y1] at RU
  rw [y2] at RI
  rw [y3, ] at RT
  rw [y4] at RR
  have z6 : L4.length + P2.length ≤ 1500 := by omega
  have ho1 : rowOut L3 l = L4 := by unfold rowOut; rw [if_neg (by omega), if_pos HLV.out, hL4]
  have ho2 : rowErr l = 0 := by unfold rowErr; rw [if_neg (by omega), if_pos HLV.out]
  have A1 := Lib.hid (aUint_any pv P1 n wy hp1 (by omega) hn)
  have A2 : Hid (∀ v W, Reads W v L1 → Calls Try.prog 25 #[v, .int .i64 q] W (OutPost W.heap.size W L2)) := fun v W h => by
    have := aInt_any v L1 q W h (by omega) hq hq'
    rwa [← hL2] at this
  have A3 : Hid (∀ v W, Reads W v L2 → Calls Try.prog 27 #[v, .string s] W (OutPost W.heap.size W L3)) := fun v W h => by
    have := aText_any v L2 s W h (by omega) (by omega)
    rwa [← hL3] at this
  have A4 : Hid (∀ v W, Reads W v L3 → RowAt W gv l → Calls Try.prog 36 #[v, gv] W (OutPost2 W.heap.size W L4 0)) := fun v W h hr => by
    have := aRow_any v gv L3 l W h hr (by omega) HLR.out
    rwa [ho1, ho2] at this
  rw [← hL1] at A1
  have HLB := Lib.hid hLB
  have HP1 := Lib.hid hp1
  obtain ⟨pa, pn, pc, rfl⟩ := hp1.form
  obtain ⟨rfl, -, -⟩ := HP1.out.full
  clear k1 k2 k3 k4 k5 y1 y2 y3 y4 y5 d1 d2 d3 d4 hp1 hp2 hL1 hL2 hL3 hL4 hLB ho1 ho2 HP2 HLV HLR HP1 hl1 hl2
  go_wp2_with fail
  refine A1.out.mono ?_
  rintro e w5 ⟨u1, rfl, o1, b1, -⟩
  have HO := Lib.hid o1.reads
  have HB5 := Lib.hid b1
  clear o1 b1 A1
  go_wp2_with fail
  refine (A2.out _ _ HO.out).mono ?_
  rintro e w6 ⟨u2, rfl, o1, b1, -⟩
  have HO := Lib.hid o1.reads
  have HB6 := Lib.hid (HB5.out.trans (b1.mono HB5.out.size))
  clear o1 b1 A2 HB5
  go_wp2_with fail
  refine (A3.out _ _ HO.out).mono ?_
  rintro e w7 ⟨u3, rfl, o1, b1, -⟩
  have HO := Lib.hid o1.reads
  have HB7 := Lib.hid (HB6.out.trans (b1.mono HB6.out.size))
  clear o1 b1 A3 HB6
  go_wp2_with fail
  refine (A4.out _ _ HO.out (HROW.out _ HB7.out)).mono ?_
  rintro e w8 ⟨u4, rfl, o1, b1, -⟩
  have HO := Lib.hid o1
  have HB8 := Lib.hid (HB7.out.trans (b1.mono HB7.out.size))
  have HW8 := Lib.hid b1.size
  have HTV8 := Lib.hid (HTV.out.below HB8.out)
  obtain ⟨a4, n4, c4, rfl⟩ := o1.reads.form
  obtain ⟨rfl, -, -⟩ := o1.reads.full
  have HS7 := Lib.hid HB7.out.size
  clear o1 b1 A4 HB7 HTV
  go_wp2_with (at_builtin; refine wpList_append_reads rfl _ _ (by rfl) i0 HI.out HZ0.out HZ1.out HZ2.out w7.heap.size _ L4 HO.out (by rfl) tv P2 HTV8.out (by rfl) (by omega) HW8.out ?_; intro v9 w9 ho9 hb9; rw [← HLB.out] at ho9; have HR9 := Lib.hid ho9.reads; have HB9 := Lib.hid (HB8.out.trans (hb9.mono (by have := HB8.out.size; exact HS7.out))); obtain ⟨a9, n9, c9, rfl⟩ := HR9.out.form; clear ho9 hb9)
  have HE1 := Lib.hid (eUint_any (.slice a9 n9 c9) LB P1.length w9 HR9.out)
  rw [RU.out] at HE1
  clear RU HO HTV8 HW8 HS7 HB8 HLB
  refine HE1.out.mono ?_
  rintro e x1 ⟨rfl, b1⟩
  have HX1 := Lib.hid b1
  have HE2 := Lib.hid (eInt_any (.slice a9 n9 c9) LB L1.length x1 (HR9.out.below b1))
  rw [RI.out] at HE2
  clear RI HE1 b1
  go_wp2_with fail
  refine HE2.out.mono ?_
  rintro e x2 ⟨rfl, b1⟩
  have HX2 := Lib.hid (HX1.out.trans (b1.mono HX1.out.size))
  have HE3 := Lib.hid (eText_any (.slice a9 n9 c9) LB L2.length 64 x2 (HR9.out.below HX2.out) (by omega) (by omega))
  rw [RT.out] at HE3
  simp only [txt_back] at HE3
  clear RT HE2 b1 HX1
  go_wp2_with fail
  refine HE3.out.mono ?_
  rintro e x3 ⟨rfl, b1⟩
  have HX3 := Lib.hid (HX2.out.trans (b1.mono HX2.out.size))
  have HE4 := Lib.hid (eRow_any (.slice a9 n9 c9) LB L3.length x3 (HR9.out.below HX3.out) (by omega))
  rw [RR.out] at HE4
  clear RR HE3 b1 HX2
  go_wp2_with fail
  refine HE4.out.mono ?_
  rintro e x4 ⟨rv, rfl, hrv, b1⟩
  have HX4 := Lib.hid (HX3.out.trans (b1.mono HX3.out.size))
  have HG := Lib.hid (begun2_any x4)
  have HRV := Lib.hid hrv
  clear HE4 b1 HX3 hrv
  go_wp2_with fail
  refine HG.out.mono ?_
  rintro e x5 ⟨rfl, b1⟩
  have HX5 := Lib.hid (HX4.out.trans (b1.mono HX4.out.size))
  have HW5 : Hid (Below wy.heap.size wy x5) := HB9.out.trans (HX5.out.mono HB9.out.size)
  have HCMP := Lib.hid (rCompareRows_any rv gv l l x5 (HRV.out.below2 b1) (HROW.out _ HW5.out))
  rw [(cmpRows_zero l l).2 rfl] at HCMP
  clear HG b1 HX4 HRV HROW
  go_wp2_with fail
  refine HCMP.out.mono ?_
  rintro e x6 ⟨rfl, hg⟩
  have HW6 : Hid (Below w.heap.size w x6) := HB4.out.trans ((HW5.out.trans (hg.below.mono HW5.out.size)).mono HB4.out.size)
  clear hg
  go_wp2_with fail
  go_ret
  exact ⟨rfl, HW6.out⟩
end Go.Proofs.Ytkhbephcmcnfjaa
