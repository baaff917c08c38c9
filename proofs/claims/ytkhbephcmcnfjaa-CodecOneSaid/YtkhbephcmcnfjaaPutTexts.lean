/- Walks of the functions that append a text; the exported functions on numbers and texts, of the program and of the reference. -/
import Derived.Test.YtkhbephcmcnfjaaPutText
namespace Go.Proofs.Ytkhbephcmcnfjaa
open Go.RowKit Go.Deep

set_option maxRecDepth 100000 in
theorem kText_any (B : Nat) (v : Value) (L : List UInt8) (s : ByteArray) (w : World) (hb : Buf B w v L) (hl : L.length ≤ 4398046511104) (hs : L.length + 10 + s.size ≤ 140737488355328) (hB : B ≤ w.heap.size) :
    Calls Try.prog 68 #[v, .string s] w (OutPost B w (L ++ (leb s.size ++ txt s))) := by
  have hinfo : (Try.prog.info? 5).map (fun i => (i.zero, i.size, i.bytes)) = some (some (.int .u8 0), 1, 1) := by kernel_rfl
  obtain ⟨i0, hi, hz0, hz1, hz2⟩ := info_parts hinfo
  have HI := Lib.hid hi
  have HZ0 := Lib.hid hz0
  have HZ1 := Lib.hid hz1
  have HZ2 := Lib.hid hz2
  have h10 := leb_len10 s.size (by omega)
  have HC := Lib.hid (kUint_any B v L s.size w hb (by omega) hl hB)
  clear hi hz0 hz1 hz2 hinfo hb
  go_enter Try.func68, Try.ntmps68
  go_wp2_with fail
  refine HC.out.mono ?_
  rintro e w1 ⟨v1, rfl, ho, hb, hk⟩
  have HO := Lib.hid ho
  have HBB := Lib.hid hb
  have HKK := Lib.hid hk
  have hsz := hb.size
  have hl2 : (L ++ leb s.size).length + s.size ≤ 140737488355328 := by rw [List.length_append]; omega
  clear ho hb hk
  go_wp2_with (at_builtin; refine wpList_append_txt rfl _ _ (by rfl) i0 HI.out HZ0.out HZ1.out HZ2.out B _ _ HO.out (by rfl) s (by rfl) hl2 (by omega) ?_; intro v2 w2 ho2 hb2 hk2; have HO2 := Lib.hid ho2; have HB2 := Lib.hid hb2; have HK2 := Lib.hid hk2; clear ho2 hb2 hk2)
  go_ret
  exact ⟨_, rfl, by rw [← List.append_assoc]; exact HO2.out, HBB.out.trans HB2.out, HKK.out.trans HK2.out⟩

set_option maxRecDepth 100000 in
theorem aUint_any (v : Value) (L : List UInt8) (n : Nat) (w : World) (h : Reads w v L) (hl : L.length ≤ 4398046511104) (hn : n ≤ 18446744073709551615) :
    Calls Try.prog 23 #[v, .int .u64 n] w (OutPost w.heap.size w (L ++ leb n)) := by
  have HF := Lib.hid (fresh_any _ L w h)
  clear h
  go_enter Try.func23, Try.ntmps23
  go_wp2_with fail
  refine HF.out.mono ?_
  rintro e w1 ⟨v1, rfl, ho, rfl⟩
  have HC := Lib.hid (kUint_any w1.heap.size v1 L n w1 (.inr ho) hn hl (Nat.le_refl _))
  clear ho
  go_wp2_with fail
  refine HC.out.mono ?_
  rintro e w2 ⟨v2, rfl, ho, hb, hk⟩
  have HKK := Lib.hid hk
  have HO := Lib.hid ho
  have HBB := Lib.hid hb
  clear ho hb hk
  go_wp2_with fail
  go_ret
  exact ⟨_, rfl, HO.out, HBB.out, HKK.out⟩

set_option maxRecDepth 100000 in
theorem aInt_any (v : Value) (L : List UInt8) (n : Int) (w : World) (h : Reads w v L) (hl : L.length ≤ 4398046511104) (hn : -9223372036854775808 ≤ n) (hn' : n ≤ 9223372036854775807) :
    Calls Try.prog 25 #[v, .int .i64 n] w (OutPost w.heap.size w (L ++ leb (zz n))) := by
  have HF := Lib.hid (fresh_any _ L w h)
  clear h
  go_enter Try.func25, Try.ntmps25
  go_wp2_with fail
  refine HF.out.mono ?_
  rintro e w1 ⟨v1, rfl, ho, rfl⟩
  have HC := Lib.hid (kInt_any w1.heap.size v1 L n w1 (.inr ho) hn hn' hl (Nat.le_refl _))
  clear ho
  go_wp2_with fail
  refine HC.out.mono ?_
  rintro e w2 ⟨v2, rfl, ho, hb, hk⟩
  have HKK := Lib.hid hk
  have HO := Lib.hid ho
  have HBB := Lib.hid hb
  clear ho hb hk
  go_wp2_with fail
  go_ret
  exact ⟨_, rfl, HO.out, HBB.out, HKK.out⟩

set_option maxRecDepth 100000 in
theorem aText_any (v : Value) (L : List UInt8) (s : ByteArray) (w : World) (h : Reads w v L) (hl : L.length ≤ 4398046511104) (hs : L.length + 10 + s.size ≤ 140737488355328) :
    Calls Try.prog 27 #[v, .string s] w (OutPost w.heap.size w (L ++ (leb s.size ++ txt s))) := by
  have HF := Lib.hid (fresh_any _ L w h)
  clear h
  go_enter Try.func27, Try.ntmps27
  go_wp2_with fail
  refine HF.out.mono ?_
  rintro e w1 ⟨v1, rfl, ho, rfl⟩
  have HC := Lib.hid (kText_any w1.heap.size v1 L s w1 (.inr ho) hl hs (Nat.le_refl _))
  clear ho
  go_wp2_with fail
  refine HC.out.mono ?_
  rintro e w2 ⟨v2, rfl, ho, hb, hk⟩
  have HKK := Lib.hid hk
  have HO := Lib.hid ho
  have HBB := Lib.hid hb
  clear ho hb hk
  go_wp2_with fail
  go_ret
  exact ⟨_, rfl, HO.out, HBB.out, HKK.out⟩

set_option maxRecDepth 100000 in
theorem rAUint_any (v : Value) (L : List UInt8) (n : Nat) (w : World) (h : Reads w v L) (hl : L.length ≤ 4398046511104) (hn : n ≤ 18446744073709551615) :
    Calls Try.prog 24 #[v, .int .u64 n] w (OutPost w.heap.size w (L ++ leb n)) := by
  have HF := Lib.hid (rFresh_any _ L w h hl)
  clear h
  go_enter Try.func24, Try.ntmps24
  go_wp2_with fail
  refine HF.out.mono ?_
  rintro e w1 ⟨v1, rfl, ho, hb, hk⟩
  have HKF := Lib.hid hk
  have hs1 := hb.size
  have HBF := Lib.hid hb
  have HC := Lib.hid (rUint_any w.heap.size v1 L n w1 (.inl ho) hn hl hs1)
  clear ho hb hk
  go_wp2_with fail
  refine HC.out.mono ?_
  rintro e w2 ⟨v2, rfl, ho, hb, hk⟩
  have HKK := Lib.hid hk
  have HO := Lib.hid ho
  have HBB := Lib.hid hb
  clear ho hb hk
  go_wp2_with fail
  go_ret
  exact ⟨_, rfl, HO.out, HBF.out.trans HBB.out, HKF.out.trans HKK.out⟩
end Go.Proofs.Ytkhbephcmcnfjaa
