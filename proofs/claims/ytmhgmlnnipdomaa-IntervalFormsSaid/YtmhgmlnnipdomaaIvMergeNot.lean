
/- interval.merge with not. -/
import Derived.Test.YtmhgmlnnipdomaaIvMerge

namespace Go.Proofs.Ytmhgmlnnipdomaa

open Go.RowKit Go.Deep

set_option maxRecDepth 100000 in
set_option maxHeartbeats 2000000 in
theorem iMerge_not (va vb : Value) (A B : List IV) (w : World)
    (ha : Ivs w va A) (hb : Ivs w vb B) (hA : Ord A) (hB : Ord B) (la : A.length ≤ 64) (lb : B.length ≤ 64) : Calls Try.prog 57 #[va, vb, .func (.func 56) #[] #[]] w (MergePost (fun x y => x && !y) A B w) := by
  have hk : (fun x y => x && !y) false false = false := rfl
  obtain ⟨s, hs⟩ : ∃ s, s = w.heap.size := ⟨_, rfl⟩
  have HW : Hid (∀ W, W.heap.size = s → Calls Try.prog 68 #[va, vb] W fun e w' => e = .returned (.func (.func 73) #[] #[.pointer (some ⟨s, 0, none⟩), .pointer (some ⟨s + 2, 0, none⟩), .pointer (some ⟨s + 1, 0, none⟩), .pointer (some ⟨s + 3, 0, none⟩)]) ∧
      WSt s va vb 0 0 w' ∧ Below W.heap.size W w' ∧ w'.heap.size = s + 4) := fun W hW => by
    subst hW
    obtain ⟨a1, c1, rfl⟩ := ha.shape
    obtain ⟨a2, c2, rfl⟩ := hb.shape
    exact iWalk_any _ _ W rfl rfl ⟨_, _, _, rfl⟩ ⟨_, _, _, rfl⟩
  have HST : Hid (∀ pa pb W qk qn qs pa' pb' oa ob ok, Pend A B pa pb ⟨qk, qn, qs⟩ pa' pb' oa ob ok → pa ≤ 4398046511104 → pb ≤ 4398046511104 → WSt s va vb pa pb W → Below w.heap.size w W → Calls Try.prog 73 #[.pointer (some ⟨s, 0, none⟩), .pointer (some ⟨s + 2, 0, none⟩), .pointer (some ⟨s + 1, 0, none⟩), .pointer (some ⟨s + 3, 0, none⟩)] W
      fun e w' => e = .returned (.tuple #[.agg #[.int .i64 qk, .int .i64 qn, .string qs], .bool oa, .bool ob, .bool ok]) ∧ WSt s va vb pa' pb' w' ∧ Mv2 (s + 2) (s + 3) W w') := fun pa pb W qk qn qs pa' pb' oa ob ok hp h1 h2 h3 h4 =>
    iStep_pend hp (ha.below h4) (hb.below h4) h1 h2 h3
  obtain ⟨aa, ac, hva⟩ := ha.shape
  obtain ⟨ba, bc, hvb⟩ := hb.shape
  have HO := Lib.hid (And.intro hA hB)
  have HLN := Lib.hid (And.intro la lb)
  have HK0 := Lib.hid hk
  have HSW := Lib.hid hs
  have hinfo : (Try.prog.info? 59).map (fun i => (i.zero, i.size, i.bytes)) = some (some (.agg #[.int .i64 0, .int .i64 0, .string ⟨#[]⟩, .int .i64 0, .int .i64 0, .string ⟨#[]⟩, .bool false]), 7, 72) := by kernel_rfl
  obtain ⟨i0, hi, hz0, hz1, hz2⟩ := info_parts hinfo
  have HI := Lib.hid hi
  have HZ0 := Lib.hid hz0
  have HZ1 := Lib.hid hz1
  have HZ2 := Lib.hid hz2
  obtain ⟨n, hn⟩ : ∃ n, n = 2 * A.length + 2 * B.length + 1 := ⟨_, rfl⟩
  have HN := Lib.hid hn
  obtain ⟨⟨qk, qn, qs⟩, pa', pb', oa, ob, ok, hp0⟩ := pend_ex A B 0 0
  have HP0 := Lib.hid hp0
  obtain ⟨ln1, hl1⟩ : ∃ l, A.length = l := ⟨_, rfl⟩
  obtain ⟨ln2, hl2⟩ : ∃ l, B.length = l := ⟨_, rfl⟩
  rw [hl1] at hva
  rw [hl2] at hvb
  rw [hva, hvb] at HW HST ⊢
  clear ha hb hA hB hi hz0 hz1 hz2 hinfo la lb hk hn hp0 hva hvb hl1 hl2 hs
  go_enter Try.func57, Try.ntmps57
  go_wp2_with fail
  refine (HW.out w HSW.out.symm).mono ?_
  rintro e w1 ⟨rfl, hst, hb1, hsz⟩
  clear HW
  go_wp2_with fail
  refine (HST.out 0 0 w1 qk qn qs pa' pb' oa ob ok HP0.out (by omega) (by omega) hst hb1).mono ?_
  rintro e w2 ⟨rfl, hst2, hmv⟩
  have hs2 : w1.heap.size ≤ w2.heap.size := hmv.size
  have hs := HSW.out
  have hb2 : Below w.heap.size w w2 := hb1.trans (hmv.below (by omega) (by omega) (by omega))
  have HST2 := Lib.hid hst2
  have HB2 := Lib.hid hb2
  have HSZ : Hid (s + 4 ≤ w2.heap.size) := by show _ ≤ _; omega
  clear hst hb1 hmv hst2 hb2 hs
  go_wp2_with fail
  go_loopg [7, 8, 10, 11, 12, 13] n (fun g m ins pt ia ib okv wr => ∃ (M : List IV) (pa pb pa' pb' bp : Nat) (q : V) (i oa ob ok : Bool), ins = .bool i ∧ pt = .pointer (some ⟨bp, 0, none⟩) ∧ ia = .bool oa ∧ ib = .bool ob ∧ okv = .bool ok ∧
    Hid (LJ (fun x y => x && !y) A B s (s + 4) (.slice aa ln1 ac) (.slice ba ln2 bc) w m wr M pa pb pa' pb' bp q i oa ob ok g))
  case atStart =>
    refine ⟨[], 0, 0, pa', pb', _, ⟨qk, qn, qs⟩, false, oa, ob, ok, rfl, rfl, rfl, rfl, rfl, ⟨MI.init HK0.out HO.out.1 HO.out.2, ⟨by simp [ivCells], .inl ⟨rfl, rfl⟩⟩, HP0.out, ?_, ?_, ?_, ?_, ?_⟩⟩
    · exact HST2.out.alloc _
    · exact heap_alloc_new w2 _
    · exact HSZ.out
    · exact HB2.out.alloc HB2.out.size _
    · have := HN.out; omega
  case round =>
    obtain ⟨M, pa, pb, pa2, pb2, bp, ⟨uk, un, us⟩, i, xa, xb, xo, rfl, rfl, rfl, rfl, rfl, HJ⟩ := hrel
    obtain ⟨mv, mc, rfl⟩ := own_slice HJ.out.own
    obtain ⟨nm, hnm⟩ : ∃ n, M.length = n := ⟨_, rfl⟩
    rw [hnm] at HJ ⊢
    have HNM := Lib.hid hnm
    clear hnm HST2 HB2 HSZ HP0
    have hbp : bp < wr.heap.size := by by_cases h : bp < wr.heap.size; · exact h
                                       · have := HJ.out.pt; rw [Array.getElem?_eq_none (by omega)] at this; simp at this
    have p0 : wr.cell? ⟨bp, 0, none⟩ = some (.int .i64 uk) := by rw [cell_of_row wr bp 0 _ _ (0, 0) HJ.out.pt]; rfl
    have p1 : wr.cell? ⟨bp, 1, none⟩ = some (.int .i64 un) := by rw [cell_of_row wr bp 1 _ _ (0, 0) HJ.out.pt]; rfl
    have p2 : wr.cell? ⟨bp, 2, none⟩ = some (.string us) := by rw [cell_of_row wr bp 2 _ _ (0, 0) HJ.out.pt]; rfl
    have hnm2 : nm ≤ 129 := by have := HJ.out.mi.len.1; have := HJ.out.mi.leA; have := HJ.out.mi.leB; have := HLN.out; have := HNM.out; omega
    cases xo with
    | false =>
      go_wp2_with fail
      go_ret
      have h1 := HJ.out.mi.done (by have := HJ.out.pend.ok; revert this; cases passA (bdV A pa) (bdV B pb) <;> simp) (by have := HJ.out.pend.ok; revert this; cases passA (bdV B pb) (bdV A pa) <;> simp)
      refine ⟨.slice mv nm mc, M, rfl, ?_, h1.1, h1.2, HJ.out.below⟩
      have h2 := HJ.out.own
      have h3 : (s + 4) = s + 4 := rfl
      rw [← HNM.out] at h2 ⊢
      exact (ivs_own h2 (by have := HNM.out; omega)).lo (by have := HSW.out; omega)
    | true =>
      obtain ⟨kk, hkk⟩ : ∃ kk, (fun x y => x && !y) xa xb = kk := ⟨_, rfl⟩
      have HKX : Hid (∀ W, Calls Try.prog 56 #[.bool xa, .bool xb] W fun e w' => e = .returned (.bool kk) ∧ W = w') := fun W => by rw [← hkk]; exact inot_any xa xb W
      have HKK := Lib.hid hkk
      obtain ⟨⟨rk, rn, rs⟩, pa3, pb3, ya, yb, yo, hp3⟩ := pend_ex A B pa2 pb2
      have HP3 := Lib.hid hp3
      have HLE := Lib.hid (HJ.out.pend.le HJ.out.mi HJ.out.meas)
      have hpa2 : pa2 ≤ 4398046511104 := by have := HLE.out; have := HLN.out; omega
      have hpb2 : pb2 ≤ 4398046511104 := by have := HLE.out; have := HLN.out; omega
      clear hkk hp3
      by_cases hki : kk = i
      · subst hki
        have HM := Lib.hid (HJ.out.pend.same HO.out.1 HO.out.2 HJ.out.mi HKK.out)
        go_wp2_with fail
        refine (HKX.out _).mono ?_
        rintro e w3 ⟨rfl, rfl⟩
        go_wp2_with fail
        have HWST : Hid (WSt s (.slice aa ln1 ac) (.slice ba ln2 bc) pa2 pb2 wr) := HJ.out.wst
        have HBEL : Hid (Below w.heap.size w wr) := HJ.out.below
        refine (HST.out pa2 pb2 _ rk rn rs pa3 pb3 ya yb yo HP3.out hpa2 hpb2 (HWST.out.alloc _) (HBEL.out.alloc HBEL.out.size _)).mono ?_
        rintro e w5 ⟨rfl, hst5, hmv5⟩
        have z5 : wr.heap.size < w5.heap.size := by have := hmv5.size; simp only [World.size_alloc] at this; omega
        have hlw : s + 3 < wr.heap.size := HWST.out.lt
        have c5 : ∀ o, w5.cell? ⟨wr.heap.size, o, none⟩ = _ := fun o => hmv5.cell (x := ⟨wr.heap.size, o, none⟩) (show wr.heap.size < _ by simp) (show wr.heap.size ≠ s + 2 by omega) (show wr.heap.size ≠ s + 3 by omega)
        have f5 : ∀ o, w5.frozen? ⟨wr.heap.size, o, none⟩ = _ := fun o => hmv5.frozen (x := ⟨wr.heap.size, o, none⟩) (show wr.heap.size < _ by simp) (show wr.heap.size ≠ s + 2 by omega) (show wr.heap.size ≠ s + 3 by omega)
        have HST5 := Lib.hid hst5
        have HMV5 := Lib.hid hmv5
        clear hst5 hmv5
        go_wp2_with fail
        go_roundg (2 * A.length + 2 * B.length + 1 - (pa2 + pb2))
        case measure => have := HLE.out; omega
        case rel => exact ⟨M, pa2, pb2, pa3, pb3, wr.heap.size, ⟨rk, rn, rs⟩, kk, ya, yb, yo, rfl, rfl, rfl, rfl, rfl, LJ.tail HM.out HJ.out.own HP3.out HST5.out HMV5.out HBEL.out HSW.out hlw (by omega)⟩
      · have hki2 : (kk == i) = false := by cases kk <;> cases i <;> first | rfl | exact absurd rfl hki
        cases i with
        | false =>
          obtain rfl : kk = true := by cases kk <;> first | rfl | exact absurd rfl hki
          have HM := Lib.hid (HJ.out.pend.more HO.out.1 HO.out.2 HJ.out.mi HKK.out)
          have hne : Value.ownBlock (.slice mv nm mc) ≠ some bp := own_ne HJ.out.own HJ.out.pt (by decide)
          have hkr := HJ.out.own.lt
          have A1 : Hid (nm + 1 ≤ maxLen) := by show _ ≤ _; unfold maxLen; omega
          have A2 : Hid ((nm + 1) * 72 ≤ 140737488355328) := by show _ ≤ _; omega
          have A3 : Hid (∀ O : Obj, s + 4 ≤ (wr.alloc O).heap.size) := fun O => by have := HJ.out.wst.lt; simp only [World.size_alloc]; omega
          have A4 : Hid (∀ t (j : Nat) (u : Value), ([.int .i64 uk, .int .i64 un, .string us, .int .i64 0, .int .i64 0, .string ⟨#[]⟩, .bool true] : List Value)[j]? = some u → (wr.alloc (.cells #[.int .i64 uk, .int .i64 un, .string us, .int .i64 0, .int .i64 0, .string ⟨#[]⟩, .bool true] t)).cell? ((⟨wr.heap.size, 0, none⟩ : Addr).add j) = some u) := by
            intro t j u hj
            have ha : (⟨wr.heap.size, 0, none⟩ : Addr).add j = ⟨wr.heap.size, j, none⟩ := by unfold Addr.add; split <;> simp_all
            rw [ha]
            refine (World.cell?_alloc_mark wr #[.int .i64 uk, .int .i64 un, .string us, .int .i64 0, .int .i64 0, .string ⟨#[]⟩, .bool true] t (0, 0) j).trans ?_
            rw [← hj]; simp
          have A5 : Hid (∀ u ∈ ([.int .i64 uk, .int .i64 un, .string us, .int .i64 0, .int .i64 0, .string ⟨#[]⟩, .bool true] : List Value), u.oneCell' = true) := by
            intro u hu
            simp only [List.mem_cons, List.not_mem_nil, or_false] at hu
            rcases hu with rfl | rfl | rfl | rfl | rfl | rfl | rfl <;> rfl
          go_wp2_with fail
          refine (HKX.out _).mono ?_
          rintro e w3 ⟨rfl, rfl⟩
          go_wp2_with (at_builtin; refine wpList_append_own _ (by rfl) _ _ 23 (by rfl) (s + 4) 59 i0 (.agg #[.int .i64 0, .int .i64 0, .string ⟨#[]⟩, .int .i64 0, .int .i64 0, .string ⟨#[]⟩, .bool false]) 7 72 Try.underlying23 HI.out HZ0.out HZ1.out HZ2.out rfl (by decide) (.slice mv nm mc) nm (ivCells M) (by rfl) (HJ.out.own' HNM.out _) ⟨wr.heap.size, 0, none⟩ 1 1 [.int .i64 uk, .int .i64 un, .string us, .int .i64 0, .int .i64 0, .string ⟨#[]⟩, .bool true] (by rfl) (by rfl) (A4.out _) A5.out A1.out A2.out (A3.out _) ?_; intro v' w3 hown2 hgr _; have HOWN := Lib.hid hown2; have HGR := Lib.hid hgr; have r0 : w3.cell? ⟨bp, 0, none⟩ = _ := (grown_cell hgr hne (by simp; omega) 0).trans ((World.cell?_alloc_lt _ _ _ hbp).trans p0); have r1 : w3.cell? ⟨bp, 1, none⟩ = _ := (grown_cell hgr hne (by simp; omega) 1).trans ((World.cell?_alloc_lt _ _ _ hbp).trans p1); have r2 : w3.cell? ⟨bp, 2, none⟩ = _ := (grown_cell hgr hne (by simp; omega) 2).trans ((World.cell?_alloc_lt _ _ _ hbp).trans p2); clear hown2 hgr)
          have HWST : Hid (WSt s (.slice aa ln1 ac) (.slice ba ln2 bc) pa2 pb2 w3) := (HJ.out.wst.alloc _).other HGR.out.size fun k hk => HGR.out.block _ (by have := HJ.out.wst.lt; simp only [World.size_alloc]; omega) (fun e => by have := (hkr _ e.symm).1; omega)
          have HBEL : Hid (Below w.heap.size w w3) := (HJ.out.below.alloc HJ.out.below.size _).grown HGR.out (by have := HJ.out.below.size; simp only [World.size_alloc]; omega) (fun k e => by have := (hkr k e).1; have := HSW.out; omega)
          clear hkr hne p0 p1 p2 r0 r1 r2 A1 A2 A3 A4 A5
          refine (HST.out pa2 pb2 _ rk rn rs pa3 pb3 ya yb yo HP3.out hpa2 hpb2 (HWST.out.alloc _) (HBEL.out.alloc HBEL.out.size _)).mono ?_
          rintro e w5 ⟨rfl, hst5, hmv5⟩
          have z5 : w3.heap.size < w5.heap.size := by have := hmv5.size; simp only [World.size_alloc] at this; omega
          have hlw : s + 3 < w3.heap.size := HWST.out.lt
          have c5 : ∀ o, w5.cell? ⟨w3.heap.size, o, none⟩ = _ := fun o => hmv5.cell (x := ⟨w3.heap.size, o, none⟩) (show w3.heap.size < _ by simp) (show w3.heap.size ≠ s + 2 by omega) (show w3.heap.size ≠ s + 3 by omega)
          have f5 : ∀ o, w5.frozen? ⟨w3.heap.size, o, none⟩ = _ := fun o => hmv5.frozen (x := ⟨w3.heap.size, o, none⟩) (show w3.heap.size < _ by simp) (show w3.heap.size ≠ s + 2 by omega) (show w3.heap.size ≠ s + 3 by omega)
          have HST5 := Lib.hid hst5
          have HMV5 := Lib.hid hmv5
          clear hst5 hmv5
          go_wp2_with fail
          go_roundg (2 * A.length + 2 * B.length + 1 - (pa2 + pb2))
          case measure => have := HLE.out; omega
          case rel => exact ⟨M ++ [⟨⟨uk, un, us⟩, z0, true⟩], pa2, pb2, pa3, pb3, w3.heap.size, ⟨rk, rn, rs⟩, true, ya, yb, yo, rfl, rfl, rfl, rfl, rfl, LJ.tail HM.out (by rw [ivCells_snoc, List.length_append, HNM.out]; exact HOWN.out) HP3.out HST5.out HMV5.out HBEL.out HSW.out hlw (by omega)⟩
        | true =>
          obtain rfl : kk = false := by cases kk <;> first | rfl | exact absurd rfl hki
          obtain ⟨M0, x, hM⟩ : ∃ M0 x, M = M0 ++ [x] := by
            rcases List.eq_nil_or_concat M with h | ⟨M0, x, h⟩
            · exact absurd h (HJ.out.mi.some rfl)
            · exact ⟨M0, x, by rw [h, List.concat_eq_append]⟩
          subst hM
          have HM := Lib.hid (HJ.out.pend.shut HO.out.1 HO.out.2 HJ.out.mi HKK.out)
          obtain ⟨m0, hm0⟩ : ∃ m, M0.length = m := ⟨_, rfl⟩
          have hnm0 : nm = m0 + 1 := by rw [← HNM.out, List.length_append, hm0]; rfl
          have hw0 := HJ.out.own
          rw [HNM.out] at hw0
          obtain ⟨g0, cap, hv, hown⟩ := own_some (by omega) hw0
          simp only [Value.slice.injEq] at hv
          obtain ⟨rfl, -, rfl⟩ := hv
          have hcx : ∀ j, j < 7 → wr.cell? ⟨g0, m0 * 7 + j, none⟩ = (x.cells)[j]? := fun j hj => by
            rw [hown.cellAt (m0 * 7 + j) (by omega), ivCells_at (M0 ++ [x]) m0 (by rw [List.length_append, hm0]; simp) j hj]
            simp [← hm0]
          have s3 : wr.cell? ⟨g0, m0 * 7 + 3, none⟩ = some (.int .i64 x.t.k) := hcx 3 (by omega)
          have s4 : wr.cell? ⟨g0, m0 * 7 + 4, none⟩ = some (.int .i64 x.t.n) := hcx 4 (by omega)
          have s5 : wr.cell? ⟨g0, m0 * 7 + 5, none⟩ = some (.string x.t.s) := hcx 5 (by omega)
          have s6 : wr.cell? ⟨g0, m0 * 7 + 6, none⟩ = some (.bool x.o) := hcx 6 (by omega)
          have f3 : ∀ j, wr.frozen? ⟨g0, j, none⟩ = false := fun j => hown.frozenAt j
          have hne : g0 ≠ bp := fun e => own_ne HJ.out.own HJ.out.pt (by decide) (by rw [← e]; rfl)
          have hne2 : bp ≠ g0 := fun e => hne e.symm
          have hg0 := hown.lt g0 rfl
          have hgl : g0 < wr.heap.size := hg0.2
          have hgs : s + 3 < g0 := by omega
          have hm1 : (m0 : Int) < nm := by omega
          have hm2 : (0 : Int) ≤ m0 := by omega
          have hm3 : IntKind.i64.wrap ((nm : Int) - 1) = m0 := by rw [IntKind.wrap_i64]; omega
          have hm4 : (nm : Int) - 1 = m0 := by omega
          have HOWN := Lib.hid hown
          have HM0 := Lib.hid hm0
          have HNM0 := Lib.hid hnm0
          clear hcx hown hw0 hm0 hnm0
          go_wp2_with fail
          refine (HKX.out _).mono ?_
          rintro e w3 ⟨rfl, rfl⟩
          go_wp2_with fail
          obtain ⟨w3, hw3⟩ : ∃ w3, w3 = (((wr.setCell ⟨g0, m0 * 7 + 3, none⟩ (.int .i64 uk)).setCell ⟨g0, m0 * 7 + 3 + 1, none⟩ (.int .i64 un)).setCell ⟨g0, m0 * 7 + 3 + 2, none⟩ (.string us)).setCell ⟨g0, m0 * 7 + 6, none⟩ (.bool false) := ⟨_, rfl⟩
          rw [← hw3]
          have hz3 : wr.heap.size = w3.heap.size := by rw [hw3]; simp
          have HOWN3 : Hid (w3.ownsRow (s + 4) 59 7 (.slice (some ⟨g0, 0, none⟩) nm mc) nm (ivCells (M0 ++ [⟨x.f, ⟨uk, un, us⟩, false⟩]))) := by
            show w3.ownsRow _ _ _ _ _ _
            rw [hw3, ← ivCells_shut M0 x ⟨uk, un, us⟩, HM0.out]
            exact ((((HOWN.out.stored (m0 * 7 + 3) (.int .i64 uk)).1.stored (m0 * 7 + 4) (.int .i64 un)).1.stored (m0 * 7 + 5) (.string us)).1.stored (m0 * 7 + 6) (.bool false)).1
          have HWST : Hid (WSt s (.slice aa ln1 ac) (.slice ba ln2 bc) pa2 pb2 w3) := by
            show WSt _ _ _ _ _ _
            rw [hw3]
            exact (((HJ.out.wst.setFar hgs _ _).setFar hgs _ _).setFar hgs _ _).setFar hgs _ _
          have HBEL : Hid (Below w.heap.size w w3) := by
            show Below _ _ _
            have hwg : w.heap.size ≤ g0 := by have := HSW.out; omega
            rw [hw3]
            exact (((HJ.out.below.setCell hwg _).setCell hwg _).setCell hwg _).setCell hwg _
          have HLN3 : Hid ((M0 ++ [(⟨x.f, ⟨uk, un, us⟩, false⟩ : IV)]).length = nm) := by show _ = _; rw [List.length_append, HM0.out, HNM0.out]; rfl
          rw [hz3]
          clear hw3 hz3 s3 s4 s5 s6 f3 hne hne2 hg0 hgl hgs p0 p1 p2 hbp hm1 hm2 hm3 hm4
          refine (HST.out pa2 pb2 _ rk rn rs pa3 pb3 ya yb yo HP3.out hpa2 hpb2 (HWST.out.alloc _) (HBEL.out.alloc HBEL.out.size _)).mono ?_
          rintro e w5 ⟨rfl, hst5, hmv5⟩
          have z5 : w3.heap.size < w5.heap.size := by have := hmv5.size; simp only [World.size_alloc] at this; omega
          have hlw : s + 3 < w3.heap.size := HWST.out.lt
          have c5 : ∀ o, w5.cell? ⟨w3.heap.size, o, none⟩ = _ := fun o => hmv5.cell (x := ⟨w3.heap.size, o, none⟩) (show w3.heap.size < _ by simp) (show w3.heap.size ≠ s + 2 by omega) (show w3.heap.size ≠ s + 3 by omega)
          have f5 : ∀ o, w5.frozen? ⟨w3.heap.size, o, none⟩ = _ := fun o => hmv5.frozen (x := ⟨w3.heap.size, o, none⟩) (show w3.heap.size < _ by simp) (show w3.heap.size ≠ s + 2 by omega) (show w3.heap.size ≠ s + 3 by omega)
          have HST5 := Lib.hid hst5
          have HMV5 := Lib.hid hmv5
          clear hst5 hmv5
          go_wp2_with fail
          go_roundg (2 * A.length + 2 * B.length + 1 - (pa2 + pb2))
          case measure => have := HLE.out; omega
          case rel => exact ⟨M0 ++ [⟨x.f, ⟨uk, un, us⟩, false⟩], pa2, pb2, pa3, pb3, w3.heap.size, ⟨rk, rn, rs⟩, false, ya, yb, yo, rfl, rfl, rfl, rfl, rfl, LJ.tail HM.out (by rw [HLN3.out]; exact HOWN3.out) HP3.out HST5.out HMV5.out HBEL.out HSW.out hlw (by omega)⟩
end Go.Proofs.Ytmhgmlnnipdomaa
