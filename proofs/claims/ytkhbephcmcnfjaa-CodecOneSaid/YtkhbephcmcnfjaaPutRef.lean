/- The reference's AppendRow; the sizes; the reference's functions on numbers and texts. -/
import Derived.Test.YtkhbephcmcnfjaaPutRow
namespace Go.Proofs.Ytkhbephcmcnfjaa
open Go.RowKit Go.Deep

set_option maxRecDepth 100000 in
set_option maxHeartbeats 1000000 in
theorem rARow_any (b rv : Value) (L : List UInt8) (l : List V) (w : World) (h : Reads w b L) (hr : RowAt w rv l) (hl : L.length ≤ 4398046500000) (hok : ∀ v ∈ l, InR v) :
    Calls Try.prog 37 #[b, rv] w (OutPost2 w.heap.size w (rowOut L l) (rowErr l)) := by
  obtain ⟨ra, rc, rfl, hrl, hri⟩ := hr
  by_cases h12 : 12 < l.length
  · have hc : decide ((l.length : Int) > 12) = true := decide_eq_true (by omega)
    have hc2 : decide ((12 : Int) < l.length) = true := decide_eq_true (by omega)
    have hE : rowErr l = 2 := if_pos h12
    have hO : rowOut L l = [] := if_pos h12
    rw [hE, hO]
    clear hri h hok hE hO
    go_enter Try.func37, Try.ntmps37
    go_wp2_with fail
    exact bodyPost_ret (v := .tuple #[.slice none 0 0, .int .i64 2]) (by simp [results, Try.results37, go_sem]) rfl ⟨_, rfl, Own.nil _ _, Below.refl _ _, Keeps.refl _⟩
  · have hc : decide ((l.length : Int) > 12) = false := decide_eq_false (by omega)
    have hc2 : decide ((12 : Int) < l.length) = false := decide_eq_false (by omega)
    have HRI := Lib.hid hri
    have HOK := Lib.hid hok
    have HF : Hid (∀ W, Below w.heap.size w W → Calls Try.prog 66 #[b] W (OutPost W.heap.size W L)) := fun W hb => rFresh_any b L W (h.below hb) (by omega)
    clear hri hok h
    go_enter Try.func37, Try.ntmps37
    go_wp2_with fail
    go_loopg [16] l.length (fun g i wr => ∃ k : Nat, k ≤ l.length ∧ l.length - k ≤ g ∧ i = .int .i64 k ∧ Hid (vldL (l.take k) = true) ∧ Hid (Below w.heap.size w wr) ∧ Hid (Keeps w wr))
    case atStart => exact ⟨0, by omega, by omega, rfl, rfl, Below.refl _ _, Keeps.refl _⟩
    case round =>
      obtain ⟨k, hk, hg, rfl, hv, hb, hkp⟩ := hrel
      have k0 : (0 : Int) ≤ k := by omega
      by_cases i1 : k < l.length
      · obtain ⟨b1, o1, rfl, hb1, hc1⟩ := HRI.out k i1
        obtain ⟨p, hp⟩ : ∃ p, l[k] = p := ⟨_, rfl⟩
        rw [hp] at hc1
        obtain ⟨p0, p1, p2⟩ := CellsV.below hb.out hb1 hc1
        have i1' : (k : Int) < l.length := by omega
        have HP := Lib.hid hp
        obtain ⟨x, hx⟩ : ∃ x, vldB p.k p.n p.s = x := ⟨_, rfl⟩
        have HV := Lib.hid (rValid_any p.k p.n p.s (wr.alloc (.cells #[.int .i64 p.k, .int .i64 p.n, .string p.s] 42)))
        rw [hx] at HV
        have HX := Lib.hid hx
        have HB2 : Hid (Below w.heap.size w (wr.alloc (.cells #[.int .i64 p.k, .int .i64 p.n, .string p.s] 42))) := hb.out.alloc hb.out.size _
        have HK2 : Hid (Keeps w (wr.alloc (.cells #[.int .i64 p.k, .int .i64 p.n, .string p.s] 42))) := hkp.out.trans (Keeps.alloc _ _)
        clear hx hp hc1
        go_wp2_with fail
        refine HV.out.mono ?_
        rintro e w1 ⟨rfl, hgr⟩
        have HB3 : Hid (Below w.heap.size w w1) := HB2.out.trans (hgr.below.mono HB2.out.size)
        have HK3 : Hid (Keeps w w1) := HK2.out.trans (Keeps.below hgr.below)
        clear hgr
        cases x with
        | false =>
          have hE : rowErr l = 10 := by unfold rowErr; rw [if_neg h12, if_neg (vldL_bad l k i1 (by rw [HP.out]; exact HX.out))]
          have hO : rowOut L l = [] := by unfold rowOut; rw [if_neg h12, if_neg (vldL_bad l k i1 (by rw [HP.out]; exact HX.out))]
          have HE := Lib.hid hE
          have HO := Lib.hid hO
          clear hE hO
          go_wp2_with fail
          exact bodyPost_ret (v := .tuple #[.slice none 0 0, .int .i64 10]) (by simp [results, Try.results37, go_sem]) rfl ⟨_, by rw [HE.out], by rw [HO.out]; exact Own.nil _ _, HB3.out, HK3.out⟩
        | true =>
          go_wp2_with fail
          go_roundg (l.length - (k + 1))
          case measure => omega
          case rel => exact ⟨k + 1, by omega, Nat.le_refl _, by go_num, by show _ = _; rw [vldL_take l k i1, hv.out, HP.out, HX.out]; rfl, HB3, HK3⟩
      · have i1' : ¬ (k : Int) < l.length := by omega
        have i2' : decide ((k : Int) < l.length) = false := decide_eq_false i1'
        have hv2 : vldL l = true := by have := hv.out; rwa [List.take_of_length_le (by omega)] at this
        have hE : rowErr l = 0 := by unfold rowErr; rw [if_neg h12, if_pos hv2]
        have hO : rowOut L l = L ++ (leb l.length ++ encL l) := by unfold rowOut; rw [if_neg h12, if_pos hv2]
        have HV := Lib.hid hv2
        have HW := Lib.hid (IntKind.wrap_u64 (l.length : Int))
        have hW2 : (l.length : Int) % 18446744073709551616 = l.length := by omega
        have HE := Lib.hid hE
        have HO := Lib.hid hO
        clear hE hO hv2
        go_wp2_with fail
        refine (HF.out _ hb.out).mono ?_
        rintro e w1 ⟨v1, rfl, ho1, hb1, hk1⟩
        have HB1 : Hid (Below w.heap.size w w1) := hb.out.trans (hb1.mono hb.out.size)
        have HK1 : Hid (Keeps w w1) := hkp.out.trans hk1
        have HU := Lib.hid (rUint_any w.heap.size v1 L l.length w1 (.inl (own_lo ho1 hb.out.size)) (by omega) (by omega) HB1.out.size)
        clear ho1 hb1 hk1
        go_wp2_with fail
        refine HU.out.mono ?_
        rintro e w2 ⟨v2, rfl, ho, hb2, hk2⟩
        have HO2 := Lib.hid ho
        have HB2 : Hid (Below w.heap.size w w2) := HB1.out.trans hb2
        have HK2 : Hid (Keeps w w2) := HK1.out.trans hk2
        clear ho hb2 hk2 HU
        go_wp2_with fail
        go_loopg [8, 32] l.length (fun g b i wr => ∃ k : Nat, k ≤ l.length ∧ l.length - k ≤ g ∧ i = .int .i64 k ∧ Hid (Own w.heap.size wr b (L ++ (leb l.length ++ encL (l.take k)))) ∧ Hid (Below w.heap.size w wr) ∧ Hid (Keeps w wr))
        case atStart => exact ⟨0, by omega, by omega, rfl, by show Own _ _ _ _; simp only [List.take_zero, encL, List.append_nil]; exact HO2.out, HB2, HK2⟩
        case round =>
          obtain ⟨j, hj, hgj, rfl, ho, hb, hkp⟩ := hrel
          have j0 : (0 : Int) ≤ j := by omega
          by_cases i1 : j < l.length
          · obtain ⟨b1, o1, rfl, hb1, hc1⟩ := HRI.out j i1
            obtain ⟨p, hp⟩ : ∃ p, l[j] = p := ⟨_, rfl⟩
            rw [hp] at hc1
            obtain ⟨p0, p1, p2⟩ := CellsV.below hb.out hb1 hc1
            have hpv : vldB p.k p.n p.s = true := by rw [← hp]; exact List.all_eq_true.1 HV.out _ (List.getElem_mem i1)
            have hpr : InR p := by rw [← hp]; exact HOK.out _ (List.getElem_mem i1)
            have i1' : (j : Int) < l.length := by omega
            have HEQ : Hid (L ++ (leb l.length ++ encL (l.take (j + 1))) = L ++ (leb l.length ++ encL (l.take j)) ++ encV ⟨p.k, p.n, p.s⟩) := by
              show _ = _
              rw [List.take_succ_eq_append_getElem i1, encL_app, hp]
              simp [encL]
            have hlen : (L ++ (leb l.length ++ encL (l.take j))).length ≤ 4398046511103 := by
              have h1 := encL_len (l.take j) (List.all_eq_true.2 fun x hx => List.all_eq_true.1 HV.out x (List.mem_of_mem_take hx)) (fun x hx => HOK.out x (List.mem_of_mem_take hx))
              have h2 := leb_len10 l.length (by omega)
              rw [List.length_take] at h1
              simp only [List.length_append]
              omega
            have HB2 : Hid (Below w.heap.size w (wr.alloc (.cells #[.int .i64 p.k, .int .i64 p.n, .string p.s] 42))) := hb.out.alloc hb.out.size _
            have HK2 : Hid (Keeps w (wr.alloc (.cells #[.int .i64 p.k, .int .i64 p.n, .string p.s] 42))) := hkp.out.trans (Keeps.alloc _ _)
            have HV := Lib.hid (rValue_any w.heap.size _ _ p.k p.n p.s (wr.alloc (.cells #[.int .i64 p.k, .int .i64 p.n, .string p.s] 42)) hpv hpr.1 hpr.2 (.inl (World.ownsRow.alloc ho.out _)) hlen HB2.out.size)
            clear hp hc1 hpv hpr hlen
            go_wp2_with fail
            refine HV.out.mono ?_
            rintro e w3 ⟨v3, rfl, ho3, hb3, hk3⟩
            have HO3 := Lib.hid ho3
            have HB3 := Lib.hid hb3
            have HK3 := Lib.hid hk3
            clear ho3 hb3 hk3
            go_wp2_with fail
            go_roundg (l.length - (j + 1))
            case measure => omega
            case rel => exact ⟨j + 1, by omega, Nat.le_refl _, by go_num, by show Own _ _ _ _; rw [HEQ.out]; exact HO3.out, HB2.out.trans HB3.out, HK2.out.trans HK3.out⟩
          · have i1' : ¬ (j : Int) < l.length := by omega
            have i2' : decide ((j : Int) < l.length) = false := decide_eq_false i1'
            have HT : Hid (l.take j = l) := List.take_of_length_le (by omega)
            go_wp2_with fail
            refine bodyPost_ret (by simp [results, Try.results37, go_sem]; rfl) rfl ⟨_, by rw [HE.out], ?_, hb.out, hkp.out⟩
            rw [HO.out]
            have := ho.out
            rw [HT.out] at this
            exact this

theorem reads_nil (w : World) : Reads w (.slice none 0 0) [] := ⟨none, 0, rfl, Nat.le_refl _, by unfold maxLen; omega, fun _ => rfl, fun p h => by simp at h⟩

set_option maxRecDepth 100000 in
theorem aSize_any (k n : Int) (s : ByteArray) (w : World) (hn : -9223372036854775808 ≤ n) (hn' : n ≤ 9223372036854775807) :
    Calls Try.prog 32 #[.agg #[.int .i64 k, .int .i64 n, .string s]] w fun e w' => e = .returned (.int .i64 (((if vldB k n s then [] ++ encV ⟨k, n, s⟩ else []) : List UInt8).length : Int)) ∧ Below w.heap.size w w' := by
  have HC : Hid (∀ W, Calls Try.prog _ _ W _) := fun W => aValue_any (.slice none 0 0) [] k n s W (reads_nil W) (by simp) hn hn'
  have HB0 : Hid (Below w.heap.size w (w.alloc (.cells #[.int .i64 k, .int .i64 n, .string s] 42))) := (Below.refl _ _).alloc (Nat.le_refl _) _
  obtain ⟨O, hO⟩ : ∃ O, O = (if vldB k n s then [] ++ encV ⟨k, n, s⟩ else []) := ⟨_, rfl⟩
  rw [← hO] at HC ⊢
  obtain ⟨er, hE⟩ : ∃ er : Int, er = (if vldB k n s then 0 else 10) := ⟨_, rfl⟩
  rw [← hE] at HC
  clear hn hn' hO hE
  go_enter Try.func32, Try.ntmps32
  go_wp2_with fail
  refine (HC.out _).mono ?_
  rintro e w1 ⟨v1, rfl, ho, hb, -⟩
  obtain ⟨a1, c1, rfl, -⟩ := ho.reads
  have HB := Lib.hid (HB0.out.trans (hb.mono HB0.out.size))
  clear ho hb HC
  go_wp2_with fail
  go_ret
  exact ⟨rfl, HB.out⟩

set_option maxRecDepth 100000 in
theorem rSize_any (k n : Int) (s : ByteArray) (w : World) (hn : -9223372036854775808 ≤ n) (hn' : n ≤ 9223372036854775807) :
    Calls Try.prog 33 #[.agg #[.int .i64 k, .int .i64 n, .string s]] w fun e w' => e = .returned (.int .i64 (((if vldB k n s then [] ++ encV ⟨k, n, s⟩ else []) : List UInt8).length : Int)) ∧ Below w.heap.size w w' := by
  have HC : Hid (∀ W, Calls Try.prog _ _ W _) := fun W => rAValue_any (.slice none 0 0) [] k n s W (reads_nil W) (by simp) hn hn'
  have HB0 : Hid (Below w.heap.size w (w.alloc (.cells #[.int .i64 k, .int .i64 n, .string s] 42))) := (Below.refl _ _).alloc (Nat.le_refl _) _
  obtain ⟨O, hO⟩ : ∃ O, O = (if vldB k n s then [] ++ encV ⟨k, n, s⟩ else []) := ⟨_, rfl⟩
  rw [← hO] at HC ⊢
  obtain ⟨er, hE⟩ : ∃ er : Int, er = (if vldB k n s then 0 else 10) := ⟨_, rfl⟩
  rw [← hE] at HC
  clear hn hn' hO hE
  go_enter Try.func33, Try.ntmps33
  go_wp2_with fail
  refine (HC.out _).mono ?_
  rintro e w1 ⟨v1, rfl, ho, hb, -⟩
  obtain ⟨a1, c1, rfl, -⟩ := ho.reads
  have HB := Lib.hid (HB0.out.trans (hb.mono HB0.out.size))
  clear ho hb HC
  go_wp2_with fail
  go_ret
  exact ⟨rfl, HB.out⟩

set_option maxRecDepth 100000 in
theorem aRowSize_any (rv : Value) (l : List V) (w : World) (hr : RowAt w rv l) (hok : ∀ v ∈ l, InR v) :
    Calls Try.prog 38 #[rv] w fun e w' => e = .returned (.int .i64 ((rowOut [] l).length : Int)) ∧ Below w.heap.size w w' := by
  have HC := Lib.hid (aRow_any (.slice none 0 0) rv [] l w (reads_nil w) hr (by simp) hok)
  obtain ⟨O, hO⟩ : ∃ O, O = rowOut [] l := ⟨_, rfl⟩
  rw [← hO] at HC ⊢
  clear hr hok hO
  go_enter Try.func38, Try.ntmps38
  go_wp2_with fail
  refine HC.out.mono ?_
  rintro e w1 ⟨v1, rfl, ho, hb, -⟩
  obtain ⟨a1, c1, rfl, -⟩ := ho.reads
  have HB := Lib.hid hb
  clear ho hb HC
  go_wp2_with fail
  go_ret
  exact ⟨rfl, HB.out⟩

set_option maxRecDepth 100000 in
theorem rRowSize_any (rv : Value) (l : List V) (w : World) (hr : RowAt w rv l) (hok : ∀ v ∈ l, InR v) :
    Calls Try.prog 39 #[rv] w fun e w' => e = .returned (.int .i64 ((rowOut [] l).length : Int)) ∧ Below w.heap.size w w' := by
  have HC := Lib.hid (rARow_any (.slice none 0 0) rv [] l w (reads_nil w) hr (by simp) hok)
  obtain ⟨O, hO⟩ : ∃ O, O = rowOut [] l := ⟨_, rfl⟩
  rw [← hO] at HC ⊢
  clear hr hok hO
  go_enter Try.func39, Try.ntmps39
  go_wp2_with fail
  refine HC.out.mono ?_
  rintro e w1 ⟨v1, rfl, ho, hb, -⟩
  obtain ⟨a1, c1, rfl, -⟩ := ho.reads
  have HB := Lib.hid hb
  clear ho hb HC
  go_wp2_with fail
  go_ret
  exact ⟨rfl, HB.out⟩

set_option maxRecDepth 100000 in
theorem rAInt_any (v : Value) (L : List UInt8) (n : Int) (w : World) (h : Reads w v L) (hl : L.length ≤ 4398046511104) (hn : -9223372036854775808 ≤ n) (hn' : n ≤ 9223372036854775807) :
    Calls Try.prog 26 #[v, .int .i64 n] w (OutPost w.heap.size w (L ++ leb (zz n))) := by
  have HF := Lib.hid (rFresh_any _ L w h hl)
  clear h
  go_enter Try.func26, Try.ntmps26
  go_wp2_with fail
  refine HF.out.mono ?_
  rintro e w1 ⟨v1, rfl, ho, hb, hk⟩
  have HKF := Lib.hid hk
  have hs1 := hb.size
  have HBF := Lib.hid hb
  have HC := Lib.hid (rUint_any w.heap.size v1 L (zz n) w1 (.inl ho) (zz_le n hn hn') hl hs1)
  clear ho hb hk
  go_wp2_with fail
  rw [zz_bits n hn hn' _ _ (by simp only [IntKind.wrap_u64]; omega) (by simp only [IntKind.wrap_u64])]
  refine HC.out.mono ?_
  rintro e w2 ⟨v2, rfl, ho, hb, hk⟩
  have HKK := Lib.hid hk
  have HO := Lib.hid ho
  have HBB := Lib.hid hb
  clear ho hb hk
  go_wp2_with fail
  go_ret
  exact ⟨_, rfl, HO.out, HBF.out.trans HBB.out, HKF.out.trans HKK.out⟩

set_option maxRecDepth 100000 in
theorem rAText_any (v : Value) (L : List UInt8) (s : ByteArray) (w : World) (h : Reads w v L) (hl : L.length ≤ 4398046511104) (hs : L.length + 10 + s.size ≤ 140737488355328) :
    Calls Try.prog 28 #[v, .string s] w (OutPost w.heap.size w (L ++ (leb s.size ++ txt s))) := by
  have hinfo : (Try.prog.info? 5).map (fun i => (i.zero, i.size, i.bytes)) = some (some (.int .u8 0), 1, 1) := by kernel_rfl
  obtain ⟨i0, hi, hz0, hz1, hz2⟩ := info_parts hinfo
  have HI := Lib.hid hi
  have HZ0 := Lib.hid hz0
  have HZ1 := Lib.hid hz1
  have HZ2 := Lib.hid hz2
  have HF := Lib.hid (rFresh_any _ L w h hl)
  have h10 := leb_len10 s.size (by omega)
  clear h hi hz0 hz1 hz2 hinfo
  go_enter Try.func28, Try.ntmps28
  go_wp2_with fail
  refine HF.out.mono ?_
  rintro e w1 ⟨v1, rfl, ho, hb, hk⟩
  have HKF := Lib.hid hk
  have hs1 := hb.size
  have HBF := Lib.hid hb
  have HC := Lib.hid (rUint_any w.heap.size v1 L s.size w1 (.inl ho) (by omega) hl hs1)
  clear ho hb hk
  go_wp2_with fail
  refine HC.out.mono ?_
  rintro e w2 ⟨v2, rfl, ho, hb, hk⟩
  have HKK := Lib.hid hk
  have HO := Lib.hid ho
  have HBB := Lib.hid hb
  have hs2 := hb.size
  have hl2 : (L ++ leb s.size).length + s.size ≤ 140737488355328 := by rw [List.length_append]; omega
  clear ho hb hk
  go_wp2_with (at_builtin; refine wpList_append_txt rfl _ _ (by rfl) i0 HI.out HZ0.out HZ1.out HZ2.out w.heap.size _ _ HO.out (by rfl) s (by rfl) hl2 (by omega) ?_; intro v3 w3 ho3 hb3 hk3; have HO3 := Lib.hid ho3; have HB3 := Lib.hid hb3; have HK3 := Lib.hid hk3; clear ho3 hb3 hk3)
  go_ret
  exact ⟨_, rfl, by rw [← List.append_assoc]; exact HO3.out, (HBF.out.trans HBB.out).trans HB3.out, (HKF.out.trans HKK.out).trans HK3.out⟩
end Go.Proofs.Ytkhbephcmcnfjaa
