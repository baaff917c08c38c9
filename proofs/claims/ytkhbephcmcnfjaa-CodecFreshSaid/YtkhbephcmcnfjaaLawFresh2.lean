/- Law CodecFresh: what is appended is written into new memory: the call returns true. -/
import Derived.Test.YtkhbephcmcnfjaaBegun2
import Derived.Test.YtkhbephcmcnfjaaCase6
namespace Go.Proofs.Ytkhbephcmcnfjaa
open Go.RowKit Go.Deep

set_option maxRecDepth 100000 in
set_option maxHeartbeats 4000000 in
theorem fresh_walk (cv : Value) (cn : Nat) (dv : Value) (D : List UInt8) (n : Nat) (w : World) (hcv : BytesAt w cv cn) (hd : Reads w dv D) (hn : n ≤ 18446744073709551615) :
    Calls Try.prog 11 #[cv, dv, .int .u64 n] w fun e w' => e = .returned (.bool true) ∧ Below w.heap.size w w' := by
  have hinfo : (Try.prog.info? 5).map (fun i => (i.zero, i.size, i.bytes)) = some (some (.int .u8 0), 1, 1) := by kernel_rfl
  obtain ⟨i0, hi, hz0, hz1, hz2⟩ := info_parts hinfo
  have HI := Lib.hid hi
  have HZ0 := Lib.hid hz0
  have HZ1 := Lib.hid hz1
  have HZ2 := Lib.hid hz2
  have HN := Lib.hid (cNew_any cv cn w hcv)
  have HD := Lib.hid hd
  clear hi hz0 hz1 hz2 hinfo hd hcv
  go_enter Try.func11, Try.ntmps11
  go_wp2_with fail
  refine HN.out.mono ?_
  rintro e w1 ⟨bc, rfl, hb1, hbc, hok⟩
  have HOK := Lib.hid hok
  have HB1 := Lib.hid hb1
  have hbl := hok.lt
  have HIN := Lib.hid (cInt_any bc _ 3 w1 (by omega) (by omega) hok)
  clear hok HN hb1
  go_wp2_with fail
  refine HIN.out.mono ?_
  rintro e w2 ⟨r, rfl, hr0, hr1, hm2, hok2⟩
  have hr3 : r ≤ 2 := by omega
  obtain ⟨m, rfl⟩ : ∃ m : Nat, r = m := ⟨r.toNat, by omega⟩
  have HCL : Hid (Calls Try.prog 34 #[.pointer (some ⟨bc, 0, none⟩), .int .i64 (1 + (m : Int))] w2 (CellsPostN bc w1.heap.size (1 + m) w2)) := by
    rw [show (1 + (m : Int)) = ((1 + m : Nat) : Int) by omega]
    exact cCells_n bc _ (1 + m) w2 (by omega) hok2
  have HB2 : Hid (Below w.heap.size w w2) := HB1.out.trans (hm2.below hbc (by have := HB1.out.size; omega))
  clear hm2 hok2 HIN
  go_wp2_with fail
  refine HCL.out.mono ?_
  rintro e w3 ⟨rv, l, rfl, hll, hlv, hlr, hrt, hm3, hok3⟩
  have HB3 : Hid (Below w.heap.size w w3) := HB2.out.trans (hm3.below hbc HB2.out.size)
  have HROW : Hid (∀ W, Below w3.heap.size w3 W → RowAt W rv l) := fun W hW => (hrt.rowB.below hW (Nat.le_refl _)).at hW.size
  have HLV := Lib.hid hlv
  have HLR := Lib.hid hlr
  have HLL := Lib.hid hll
  have HP := Lib.hid (part_any dv D w3 (HD.out.below HB3.out))
  obtain ⟨P, hP⟩ : ∃ P, P = D.take 200 := ⟨_, rfl⟩
  have hPl : P.length ≤ 200 := by rw [hP, List.length_take]; omega
  rw [← hP] at HP
  clear hrt hm3 hok3 hlv hlr hll HCL HB1 HB2 HD hP HOK
  go_wp2_with fail
  refine HP.out.mono ?_
  rintro e w4 ⟨pv, rfl, hpr, rfl⟩
  obtain ⟨pa, pn, pc, rfl⟩ := hpr.form
  obtain ⟨rfl, hpc1, hpc2⟩ : pn = P.length ∧ pn ≤ pc ∧ pc ≤ maxLen := by obtain ⟨_, _, e, g1, g2, _⟩ := hpr; simp only [Value.slice.injEq] at e; obtain ⟨rfl, rfl, rfl⟩ := e; exact ⟨rfl, g1, g2⟩
  have L2 : Hid (pa = none → P.length = 0 ∧ pc = 0) := fun h => by
    obtain ⟨_, _, e, _, _, g3, _⟩ := hpr
    simp only [Value.slice.injEq] at e
    obtain ⟨rfl, -, rfl⟩ := e
    have := g3 h
    omega
  have L4 : Hid (∀ p, pa = some p → ∀ j u, (bts P)[j]? = some u → w4.cell? (p.add j) = some u) := by
    obtain ⟨_, _, e, _, _, _, g4⟩ := hpr
    simp only [Value.slice.injEq] at e
    obtain ⟨rfl, -, rfl⟩ := e
    exact g4
  have L3 : Hid ((bts P).length = P.length * 1) := by show _ = _; rw [bts_len]; omega
  obtain ⟨T, hT⟩ : ∃ T : List UInt8, T = txt ("................................................................................".toUTF8) := ⟨_, rfl⟩
  have hTl : T.length = 80 := by rw [hT]; rfl
  have LT : Hid (P.length + ("................................................................................".toUTF8).size ≤ 140737488355328) := by
    show _ ≤ _
    have h80 : ("................................................................................".toUTF8).size = 80 := by rfl
    omega
  have L6 : Hid (P.length ≤ maxLen) := by show _ ≤ _; unfold maxLen; omega
  have L7 : Hid (P.length * 1 ≤ 140737488355328) := by show _ ≤ _; omega
  clear hpr HP
  go_wp2_with (first | (at_builtin; refine wpList_append_txt rfl _ _ (by rfl) i0 HI.out HZ0.out HZ1.out HZ2.out w4.heap.size v1 P HOW1.out (by rfl) _ (by rfl) LT.out HBA.out.size ?_; intro v2 wb ho2 hb2 hk2; rw [← hT] at ho2; clear hT; obtain ⟨LL, hLL⟩ : ∃ LL, LL = P ++ T := ⟨_, rfl⟩; rw [← hLL] at ho2; have hrd2 := Own.reads ho2; have cv1 := conv_bytes hrd2; obtain ⟨b0, bn, bcap, rfl⟩ := hrd2.form; obtain ⟨hbn, hbc1, hbnf⟩ := hrd2.full; obtain rfl : bn = P.length + 80 := hbn.trans (by rw [hLL, List.length_append, hTl]); have HR2 := Lib.hid hrd2; have HB4 := Lib.hid (HBA.out.trans (hb2)); have HLL := Lib.hid hLL; clear ho2 hb2 hk2 hrd2 hbn hbnf HOW1 HBA hTl hLL) | (at_builtin; refine wpList_append_nil rfl _ _ 22 (by rfl) 5 i0 (.int .u8 0) 1 1 Try.underlying22 HI.out HZ0.out HZ1.out HZ2.out rfl (by decide) (by rfl) pa P.length pc (bts P) (by rfl) L2.out L3.out L4.out (bts_one P) L6.out L7.out ?_; intro v1 wa hown1 hba; have HOW1 : Hid (Own w4.heap.size wa v1 P) := hown1; have HBA := Lib.hid hba; clear hown1 hba))
  have hrp : Reads wb (.slice b0 P.length bcap) P := by
    obtain ⟨a, c, e, g1, g2, g3, g4⟩ := HR2.out
    simp only [Value.slice.injEq] at e
    obtain ⟨rfl, -, rfl⟩ := e
    refine ⟨b0, bcap, rfl, by omega, g2, g3, fun p hp j u hj => g4 p hp j u ?_⟩
    rw [HLL.out, bts_app, List.getElem?_append_left (Array.getElem?_eq_some_iff.1 (by simpa using hj)).1]
    exact hj
  have HRP : Hid (∀ W, Below wb.heap.size wb W → Reads W (.slice b0 P.length bcap) P) := fun W hW => hrp.below hW
  have HCV : Hid (∀ W, Below wb.heap.size wb W → Sem.run Try.prog (convert 22 9 (.slice b0 (P.length + 80) bcap)) W = .ok (.string ⟨LL.toArray⟩) W) := fun W hW => conv_bytes (HR2.out.below hW)
  refine (aUint_any _ P n wb hrp (by omega) hn).mono ?_
  rintro e w5 ⟨u1, rfl, -, hbu1, -⟩
  have HBU1 := Lib.hid hbu1
  have HC1 : Hid (∀ i, -9223372036854775808 ≤ i → i ≤ 9223372036854775807 → Calls Try.prog 25 #[.slice b0 P.length bcap, .int .i64 i] w5 (OutPost w5.heap.size w5 (P ++ leb (zz i)))) := fun i g1 g2 => aInt_any _ P i w5 (HRP.out _ hbu1) (by omega) g1 g2
  clear hrp hbu1 cv1 L2 L3 L4 L6 L7 LT HR2 HLL
  go_wp2_with fail
  refine (HC1.out _ (by unfold wrap64; omega) (by unfold wrap64; omega)).mono ?_
  rintro e w6 ⟨u2, rfl, -, hbu2, -⟩
  have HBU2 := Lib.hid (HBU1.out.trans (hbu2.mono HBU1.out.size))
  have HC2 : Hid (∀ s : ByteArray, s.size ≤ 10 → Calls Try.prog 27 #[.slice b0 P.length bcap, .string s] w6 (OutPost w6.heap.size w6 (P ++ (leb s.size ++ txt s)))) := fun s g => aText_any _ P s w6 (HRP.out _ HBU2.out) (by omega) (by omega)
  clear hbu2 HC1 HBU1
  go_wp2_with fail
  refine (HC2.out _ (by decide)).mono ?_
  rintro e w7 ⟨u3, rfl, -, hbu3, -⟩
  have HBU3 := Lib.hid (HBU2.out.trans (hbu3.mono HBU2.out.size))
  clear hbu3 HC2 HBU2
  go_wp2_with fail
  obtain ⟨ra, rc, rfl, hrl, hri⟩ := HROW.out wb HB4.out
  have h0 : 0 < l.length := by have : l.length = 1 + m := HLL.out; omega
  obtain ⟨b1, o1, rfl, hb1, hc1⟩ := hri 0 h0
  have h0' : (0 : Int) < l.length := by omega
  obtain ⟨p, hp⟩ : ∃ p, l[0] = p := ⟨_, rfl⟩
  rw [hp, show o1 + 0 * 3 = o1 by omega] at hc1
  have hpr : InR p := HLR.out p (hp ▸ List.getElem_mem h0)
  obtain ⟨p0, p1, p2⟩ := CellsV.below HBU3.out hb1 hc1
  have HS : Hid (∀ W, Below wb.heap.size wb W → W.cell? ⟨b1, o1, none⟩ = some (.int .i64 p.k) ∧ W.cell? ⟨b1, o1 + 1, none⟩ = some (.int .i64 p.n) ∧ W.cell? ⟨b1, o1 + 2, none⟩ = some (.string p.s)) := fun W hW => CellsV.below hW hb1 hc1
  have HC3 : Hid (∀ W, Below wb.heap.size wb W → Calls Try.prog 30 #[.slice b0 P.length bcap, .agg #[.int .i64 p.k, .int .i64 p.n, .string p.s]] W fun e w' => ∃ u j, e = .returned (.tuple #[u, .int .i64 j]) ∧ Below W.heap.size W w') := fun W hW => (aValue_any (.slice b0 P.length bcap) P p.k p.n p.s W (HRP.out _ hW) (by omega) hpr.1 hpr.2).mono (fun e w' ⟨u, he, _, hb, _⟩ => ⟨u, _, he, hb⟩)
  have HC4 : Hid (∀ W, Below wb.heap.size wb W → Calls Try.prog 36 #[.slice b0 P.length bcap, .slice (some ⟨b1, o1, none⟩) l.length rc] W fun e w' => ∃ u j, e = .returned (.tuple #[u, .int .i64 j]) ∧ Below W.heap.size W w') := fun W hW => (aRow_any (.slice b0 P.length bcap) (.slice (some ⟨b1, o1, none⟩) l.length rc) P l W (HRP.out _ hW) (HROW.out _ (HB4.out.trans (hW.mono HB4.out.size))) (by omega) HLR.out).mono (fun e w' ⟨u, he, _, hb, _⟩ => ⟨u, _, he, hb⟩)
  clear hp hpr hri hc1
  have hsl0 : (0 : Int) ≤ P.length := by omega
  have hsl1 : (P.length : Int) ≤ bcap := by omega
  have hbw7 : Below wb.heap.size wb w7 := HBU3.out
  go_region_held3 (fun W => W.cell? ⟨b1, o1, none⟩ = some (.int .i64 p.k) ∧ W.cell? ⟨b1, o1 + 1, none⟩ = some (.int .i64 p.n) ∧ W.cell? ⟨b1, o1 + 2, none⟩ = some (.string p.s))
    (first | exact ⟨q0, q1, q2⟩ | exact ⟨p0, p1, p2⟩)
    (first | (go_at_call 30; (with_reducible refine (HC3.out _ (by (repeat (first | exact Below.refl _ _ | assumption | refine Below.drew ?_ | refine Below.setCell ?_ (by simp; try omega) _ | refine Below.alloc ?_ (by simp; try omega) _)))).mono ?_); rintro e w8 ⟨u4, j4, rfl, hbu4⟩; have HBU4 : Hid (Below wb.heap.size wb w8) := Below.trans (by (repeat (first | exact Below.refl _ _ | assumption | refine Below.drew ?_ | refine Below.setCell ?_ (by simp; try omega) _ | refine Below.alloc ?_ (by simp; try omega) _))) (hbu4.mono HBU3.out.size); obtain ⟨q0, q1, q2⟩ := HS.out w8 HBU4.out; clear hbu4))
  go_wp2_with fail
  refine (HC4.out _ HBU4.out).mono ?_
  rintro e w9 ⟨u5, j5, rfl, hbu5⟩
  have HBU5 : Hid (Below wb.heap.size wb w9) := HBU4.out.trans (hbu5.mono HBU4.out.size)
  have HG := Lib.hid (begun2_any w9)
  clear hbu5 hbw7 q0 q1 q2 p0 p1 p2
  go_wp2_with fail
  refine HG.out.mono ?_
  rintro e w10 ⟨rfl, hbu6⟩
  have hbu7 : Below wb.heap.size wb w10 := HBU5.out.trans (hbu6.mono HBU5.out.size)
  have cv2 := HCV.out _ hbu7
  have HBU7 := Lib.hid hbu7
  clear hbu6 hbu7
  go_wp2_with fail
  go_ret
  refine ⟨by simp, ?_⟩
  exact HB3.out.trans ((HB4.out.trans (HBU7.out.mono HB4.out.size)).mono HB3.out.size)
end Go.Proofs.Ytkhbephcmcnfjaa
