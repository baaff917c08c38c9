/- Law CodecReadsNumbers: what is read as numbers and texts is what the reference reads: the call returns true. -/
import Derived.Test.YtkhbephcmcnfjaaBegun2
import Derived.Test.YtkhbephcmcnfjaaRefText
namespace Go.Proofs.Ytkhbephcmcnfjaa
open Go.RowKit Go.Deep

set_option maxRecDepth 100000 in
set_option maxHeartbeats 4000000 in
theorem readsNumbers_walk (dv : Value) (D : List UInt8) (p most : Int) (w : World) (hd : Reads w dv D) (hp : -9223372036854775808 ≤ p) (hp' : p ≤ 9223372036854775807) (hm' : most ≤ 9223372036854775807) :
    Calls Try.prog 6 #[dv, .int .i64 p, .int .i64 most] w fun e w' => e = .returned (.bool true) ∧ Below w.heap.size w w' := by
  have HP := Lib.hid (part_any dv D w hd)
  obtain ⟨P, hP⟩ : ∃ P, P = D.take 200 := ⟨_, rfl⟩
  have hPl : P.length ≤ 200 := by rw [hP, List.length_take]; omega
  rw [← hP] at HP
  clear hP hd
  obtain ⟨n, i, e1, hU⟩ : ∃ n i e, readU P p = (n, i, e) := ⟨_, _, _, rfl⟩
  obtain ⟨x, y, e2, hI⟩ : ∃ n i e, readI P p = (n, i, e) := ⟨_, _, _, rfl⟩
  obtain ⟨s, q, e3, hT⟩ : ∃ n i e, readT P p most = (n, i, e) := ⟨_, _, _, rfl⟩
  have U1 : Hid (∀ v W, Reads W v P → Calls Try.prog 40 #[v, .int .i64 p] W fun e w' => e = .returned (.tuple #[.int .u64 n, .int .i64 i, .int .i64 e1]) ∧ Below W.heap.size W w') := fun v W h => by
    have := eUint_any v P p W h
    rwa [hU] at this
  have U2 : Hid (∀ v W, Reads W v P → Calls Try.prog 41 #[v, .int .i64 p] W fun e w' => e = .returned (.tuple #[.int .u64 n, .int .i64 i, .int .i64 e1]) ∧ Below W.heap.size W w') := fun v W h => by
    have := fUint_any v P p W h (by omega) hp hp'
    rwa [hU] at this
  have I1 : Hid (∀ v W, Reads W v P → Calls Try.prog 42 #[v, .int .i64 p] W fun e w' => e = .returned (.tuple #[.int .i64 x, .int .i64 y, .int .i64 e2]) ∧ Below W.heap.size W w') := fun v W h => by
    have := eInt_any v P p W h
    rwa [hI] at this
  have I2 : Hid (∀ v W, Reads W v P → Calls Try.prog 43 #[v, .int .i64 p] W fun e w' => e = .returned (.tuple #[.int .i64 x, .int .i64 y, .int .i64 e2]) ∧ Below W.heap.size W w') := fun v W h => by
    have := fInt_any v P p W h (by omega) hp hp'
    rwa [hI] at this
  have T1 : Hid (∀ v W, Reads W v P → Calls Try.prog 44 #[v, .int .i64 p, .int .i64 most] W fun e w' => e = .returned (.tuple #[.string ⟨s.toArray⟩, .int .i64 q, .int .i64 e3]) ∧ Below W.heap.size W w') := fun v W h => by
    have := eText_any v P p most W h (by omega) hm'
    rwa [hT] at this
  have T2 : Hid (∀ v W, Reads W v P → Calls Try.prog 45 #[v, .int .i64 p, .int .i64 most] W fun e w' => e = .returned (.tuple #[.string ⟨s.toArray⟩, .int .i64 q, .int .i64 e3]) ∧ Below W.heap.size W w') := fun v W h => by
    have := fText_any v P p most W h (by omega) hp hp' hm'
    rwa [hT] at this
  clear hU hI hT
  go_enter Try.func6, Try.ntmps6
  go_wp2_with fail
  refine HP.out.mono ?_
  rintro e w0 ⟨pv, rfl, hpr, rfl⟩
  have HR0 := Lib.hid hpr
  have HB0 := Lib.hid (Below.refl w0.heap.size w0)
  clear hpr
  go_wp2_with fail
  have HA := Lib.hid (U1.out pv w0 HR0.out)
  refine HA.out.mono ?_
  rintro e w1 ⟨rfl, hb⟩
  have HB1 : Hid (Below w0.heap.size w0 w1) := HB0.out.trans (hb.mono HB0.out.size)
  have HR1 := Lib.hid (HR0.out.below hb)
  clear hb HA HB0 HR0
  go_wp2_with fail
  have HA := Lib.hid (U2.out pv w1 HR1.out)
  refine HA.out.mono ?_
  rintro e w2 ⟨rfl, hb⟩
  have HB2 : Hid (Below w0.heap.size w0 w2) := HB1.out.trans (hb.mono HB1.out.size)
  have HR2 := Lib.hid (HR1.out.below hb)
  clear hb HA HB1 HR1
  go_wp2_with fail
  have HA := Lib.hid (I1.out pv w2 HR2.out)
  refine HA.out.mono ?_
  rintro e w3 ⟨rfl, hb⟩
  have HB3 : Hid (Below w0.heap.size w0 w3) := HB2.out.trans (hb.mono HB2.out.size)
  have HR3 := Lib.hid (HR2.out.below hb)
  clear hb HA HB2 HR2
  go_wp2_with fail
  have HA := Lib.hid (I2.out pv w3 HR3.out)
  refine HA.out.mono ?_
  rintro e w4 ⟨rfl, hb⟩
  have HB4 : Hid (Below w0.heap.size w0 w4) := HB3.out.trans (hb.mono HB3.out.size)
  have HR4 := Lib.hid (HR3.out.below hb)
  clear hb HA HB3 HR3
  go_wp2_with fail
  have HA := Lib.hid (T1.out pv w4 HR4.out)
  refine HA.out.mono ?_
  rintro e w5 ⟨rfl, hb⟩
  have HB5 : Hid (Below w0.heap.size w0 w5) := HB4.out.trans (hb.mono HB4.out.size)
  have HR5 := Lib.hid (HR4.out.below hb)
  clear hb HA HB4 HR4
  go_wp2_with fail
  have HA := Lib.hid (T2.out pv w5 HR5.out)
  refine HA.out.mono ?_
  rintro e w6 ⟨rfl, hb⟩
  have HB6 : Hid (Below w0.heap.size w0 w6) := HB5.out.trans (hb.mono HB5.out.size)
  have HR6 := Lib.hid (HR5.out.below hb)
  clear hb HA HB5 HR5
  go_wp2_with fail
  have HBG := Lib.hid (begun2_any w6)
  refine HBG.out.mono ?_
  rintro e w7 ⟨rfl, hb⟩
  have HB7 : Hid (Below w0.heap.size w0 w7) := HB6.out.trans (hb.mono HB6.out.size)
  clear hb HBG
  go_wp2_with fail
  go_ret
  exact ⟨rfl, HB7.out⟩
end Go.Proofs.Ytkhbephcmcnfjaa
