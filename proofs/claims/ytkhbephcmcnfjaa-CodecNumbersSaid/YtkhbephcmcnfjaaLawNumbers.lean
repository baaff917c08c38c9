/- Law CodecNumbers: the encoding of numbers and texts is the reference's: the call returns true. -/
import Derived.Test.YtkhbephcmcnfjaaBegun2
namespace Go.Proofs.Ytkhbephcmcnfjaa
open Go.RowKit Go.Deep

/-- Two buffers that hold the same bytes are the same: the call returns true. -/
theorem same_yes (va vb : Value) (L : List UInt8) (w : World) (ha : Reads w va L) (hb : Reads w vb L) : Calls Try.prog 22 #[va, vb] w fun e w' => e = .returned (.bool true) ∧ w' = w := by
  have h := same_any va vb L L w ha hb
  rwa [decide_eq_true rfl] at h

set_option maxRecDepth 100000 in
set_option maxHeartbeats 4000000 in
theorem numbers_walk (dv : Value) (D : List UInt8) (n : Nat) (m : Int) (s : ByteArray) (w : World) (hd : Reads w dv D) (hn : n ≤ 18446744073709551615) (hm : -9223372036854775808 ≤ m) (hm' : m ≤ 9223372036854775807) (hs : s.size ≤ 140737488351232) :
    Calls Try.prog 4 #[dv, .int .u64 n, .int .i64 m, .string s] w fun e w' => e = .returned (.bool true) ∧ Below w.heap.size w w' := by
  have HP := Lib.hid (part_any dv D w hd)
  obtain ⟨P, hP⟩ : ∃ P, P = D.take 200 := ⟨_, rfl⟩
  have hPl : P.length ≤ 200 := by rw [hP, List.length_take]; omega
  rw [← hP] at HP
  have HBG := Lib.hid (begun2_any w)
  clear hP hd
  go_enter Try.func4, Try.ntmps4
  go_wp2_with fail
  refine HP.out.mono ?_
  rintro e w0 ⟨pv, rfl, hpr, rfl⟩
  have HPR := Lib.hid hpr
  clear hpr
  go_wp2_with fail
  refine HBG.out.mono ?_
  rintro e w1 ⟨rfl, hb1⟩
  have HB1 := Lib.hid hb1
  have HR1 := Lib.hid (HPR.out.below hb1)
  clear hb1
  go_wp2_with fail
  have HA := Lib.hid (aUint_any pv P n w1 HR1.out (by omega) hn)
  refine HA.out.mono ?_
  rintro e w2 ⟨v2, rfl, ho, hb, -⟩
  have HB2 : Hid (Below w0.heap.size w0 w2) := HB1.out.trans (hb.mono HB1.out.size)
  have HR2 := Lib.hid (HR1.out.below hb)
  have HO2 := Lib.hid ho.reads
  clear ho hb HA HB1 HR1
  go_wp2_with fail
  have HA := Lib.hid (rAUint_any pv P n w2 HR2.out (by omega) hn)
  refine HA.out.mono ?_
  rintro e w3 ⟨v3, rfl, ho, hb, -⟩
  have HB3 : Hid (Below w0.heap.size w0 w3) := HB2.out.trans (hb.mono HB2.out.size)
  have HR3 := Lib.hid (HR2.out.below hb)
  have HS := Lib.hid (same_yes v2 v3 _ w3 (HO2.out.below hb) ho.reads)
  clear ho hb HA HB2 HR2 HO2
  go_wp2_with fail
  refine HS.out.mono ?_
  rintro e w9 ⟨rfl, e9⟩
  subst w9
  clear HS
  go_wp2_with fail
  have HA := Lib.hid (aInt_any pv P m w3 HR3.out (by omega) hm hm')
  refine HA.out.mono ?_
  rintro e w4 ⟨v4, rfl, ho, hb, -⟩
  have HB4 : Hid (Below w0.heap.size w0 w4) := HB3.out.trans (hb.mono HB3.out.size)
  have HR4 := Lib.hid (HR3.out.below hb)
  have HO4 := Lib.hid ho.reads
  clear ho hb HA HB3 HR3
  go_wp2_with fail
  have HA := Lib.hid (rAInt_any pv P m w4 HR4.out (by omega) hm hm')
  refine HA.out.mono ?_
  rintro e w5 ⟨v5, rfl, ho, hb, -⟩
  have HB5 : Hid (Below w0.heap.size w0 w5) := HB4.out.trans (hb.mono HB4.out.size)
  have HR5 := Lib.hid (HR4.out.below hb)
  have HS := Lib.hid (same_yes v4 v5 _ w5 (HO4.out.below hb) ho.reads)
  clear ho hb HA HB4 HR4 HO4
  go_wp2_with fail
  refine HS.out.mono ?_
  rintro e w9 ⟨rfl, e9⟩
  subst w9
  clear HS
  go_wp2_with fail
  have HA := Lib.hid (aText_any pv P s w5 HR5.out (by omega) (by omega))
  refine HA.out.mono ?_
  rintro e w6 ⟨v6, rfl, ho, hb, -⟩
  have HB6 : Hid (Below w0.heap.size w0 w6) := HB5.out.trans (hb.mono HB5.out.size)
  have HR6 := Lib.hid (HR5.out.below hb)
  have HO6 := Lib.hid ho.reads
  clear ho hb HA HB5 HR5
  go_wp2_with fail
  have HA := Lib.hid (rAText_any pv P s w6 HR6.out (by omega) (by omega))
  refine HA.out.mono ?_
  rintro e w7 ⟨v7, rfl, ho, hb, -⟩
  have HB7 : Hid (Below w0.heap.size w0 w7) := HB6.out.trans (hb.mono HB6.out.size)
  have HR7 := Lib.hid (HR6.out.below hb)
  have HS := Lib.hid (same_yes v6 v7 _ w7 (HO6.out.below hb) ho.reads)
  clear ho hb HA HB6 HR6 HO6
  go_wp2_with fail
  refine HS.out.mono ?_
  rintro e w9 ⟨rfl, e9⟩
  subst w9
  clear HS
  go_wp2_with fail
  go_ret
  exact ⟨rfl, HB7.out⟩
end Go.Proofs.Ytkhbephcmcnfjaa
