/- Law IntervalMakes. -/
import Derived.Test.YtkkhepfokjogpaaIvBegun
import Derived.Test.YtkkhepfokjogpaaIvRefMake
import Derived.Test.YtkkhepfokjogpaaIvSame
import Derived.Test.YtkkhepfokjogpaaCase5
namespace Go.Proofs.Ytkkhepfokjogpaa
open Go.RowKit Go.Deep

/-- Values stand one behind the other in a block. -/
def ValsL (w : World) (b : Nat) (vs : List V) : Prop := b < w.heap.size ∧ ∀ i (h : i < vs.length), CellsV w b (i * 3) vs[i]
theorem ValsL.same {w w' : World} {b : Nat} {vs : List V} (h : ValsL w b vs) (hs : w.heap.size ≤ w'.heap.size) (hb : w'.heap[b]? = w.heap[b]?) : ValsL w' b vs := ⟨Nat.lt_of_lt_of_le h.1 hs, fun i hi => (h.2 i hi).same hb⟩
theorem two_makes (fk fn : Int) (fs : ByteArray) (tk tn : Int) (ts : ByteArray) : ∃ L er, (∀ W, Calls Try.prog 21 #[.agg #[.int .i64 fk, .int .i64 fn, .string fs], .agg #[.int .i64 tk, .int .i64 tn, .string ts]] W (IvOut2 W L er)) ∧
    ∀ W, Calls Try.prog 22 #[.agg #[.int .i64 fk, .int .i64 fn, .string fs], .agg #[.int .i64 tk, .int .i64 tn, .string ts]] W (IvOut2 W L er) :=
  ⟨_, _, fun W => iBetween_any fk fn fs tk tn ts W, fun W => rBetween_any fk fn fs tk tn ts W⟩
theorem two_ones (fk fn : Int) (fs : ByteArray) (h0 : -9223372036854775808 ≤ fn) (h1 : fn ≤ 9223372036854775807) : ∃ L er, (∀ W, Calls Try.prog 24 #[.agg #[.int .i64 fk, .int .i64 fn, .string fs]] W (IvOut2 W L er)) ∧
    ∀ W, Calls Try.prog 25 #[.agg #[.int .i64 fk, .int .i64 fn, .string fs]] W (IvOut2 W L er) := ⟨_, _, fun W => iOne_any fk fn fs W h0, fun W => rOne_any fk fn fs W h0 h1⟩
theorem two_froms (fk fn : Int) (fs : ByteArray) : ∃ L er, (∀ W, Calls Try.prog 26 #[.agg #[.int .i64 fk, .int .i64 fn, .string fs]] W (IvOut2 W L er)) ∧
    ∀ W, Calls Try.prog 27 #[.agg #[.int .i64 fk, .int .i64 fn, .string fs]] W (IvOut2 W L er) := ⟨_, _, fun W => iFrom_any fk fn fs W, fun W => rFrom_any fk fn fs W⟩
theorem two_kinds (k : Int) : ∃ L er, (∀ W, Calls Try.prog 28 #[.int .i64 k] W (IvOut2 W L er)) ∧ ∀ W, Calls Try.prog 29 #[.int .i64 k] W (IvOut2 W L er) := ⟨_, _, fun W => iOfKind_any k W, fun W => rOfKind_any k W⟩
theorem same_self (va vb : Value) (L : List IV) (w : World) (ha : Ivs w va L) (hb : Ivs w vb L) : Calls Try.prog 23 #[va, vb] w fun e w' => e = .returned (.bool true) ∧ Below w.heap.size w w' := by
  have h := rSameL_any va vb L L w ha hb
  rw [show decide (L = L) = true by simp] at h
  exact h

set_option maxRecDepth 100000 in
set_option maxHeartbeats 6000000 in
theorem makes_walk (cv : Value) (cn : Nat) (ka na : Int) (sa : ByteArray) (kind : Int) (w : World) (hcv : BytesAt w cv cn) (hva : -9223372036854775808 ≤ ka ∧ ka ≤ 9223372036854775807 ∧ -9223372036854775808 ≤ na ∧ na ≤ 9223372036854775807) :
    Calls Try.prog 4 #[cv, .agg #[.int .i64 ka, .int .i64 na, .string sa], .int .i64 kind] w fun e w' => e = .returned (.bool true) ∧ Below w.heap.size w w' := by
  have HN : Hid (∀ O1, Calls Try.prog 10 #[cv, .int .i64 90] (w.alloc O1) (NewPost (w.alloc O1))) := fun O1 => cNew_any cv cn _ (hcv.below (by (repeat (first | exact Below.refl _ _ | assumption | refine Below.drew ?_ | refine Below.setCell ?_ (by simp; try omega) _ | refine Below.alloc ?_ (by simp; try omega) _))))
  obtain ⟨qa, qc, rfl, _⟩ := hcv
  have HB : Hid (∀ W, Calls Try.prog 20 #[] W fun e w' => e = .returned (.bool true) ∧ Below W.heap.size W w') := begun3_any
  go_enter Try.func4, Try.ntmps4
  go_wp2_with fail
  refine (HN.out _).mono ?_
  rintro e w1 ⟨bc, rfl, hb1, hbc, hok⟩
  have hs1 := hb1.size
  simp only [World.size_alloc] at hs1 hbc hb1
  have a0 : w1.cell? ⟨w.heap.size, 0, none⟩ = some (.int .i64 ka) := (hb1.cell (p := ⟨w.heap.size, 0, none⟩) (by simp only; omega)).trans (by go_simp)
  have a1 : w1.cell? ⟨w.heap.size, 1, none⟩ = some (.int .i64 na) := (hb1.cell (p := ⟨w.heap.size, 1, none⟩) (by simp only; omega)).trans (by go_simp)
  have a2 : w1.cell? ⟨w.heap.size, 2, none⟩ = some (.string sa) := (hb1.cell (p := ⟨w.heap.size, 2, none⟩) (by simp only; omega)).trans (by go_simp)
  have BW : Hid (Below w.heap.size w w1) := Below.trans (by (repeat (first | exact Below.refl _ _ | assumption | refine Below.drew ?_ | refine Below.setCell ?_ (by simp; try omega) _ | refine Below.alloc ?_ (by simp; try omega) _))) (hb1.mono (by omega))
  have hbcl := hok.lt.1
  have HK : Hid (∀ W, Mv bc w1 W → W.cell? ⟨w.heap.size, 0, none⟩ = some (.int .i64 ka) ∧ W.cell? ⟨w.heap.size, 1, none⟩ = some (.int .i64 na) ∧ W.cell? ⟨w.heap.size, 2, none⟩ = some (.string sa)) := fun W hm =>
    ⟨(hm.cell (p := ⟨w.heap.size, 0, none⟩) (show w.heap.size < _ by omega) (show w.heap.size ≠ bc by omega)).trans a0, (hm.cell (p := ⟨w.heap.size, 1, none⟩) (show w.heap.size < _ by omega) (show w.heap.size ≠ bc by omega)).trans a1, (hm.cell (p := ⟨w.heap.size, 2, none⟩) (show w.heap.size < _ by omega) (show w.heap.size ≠ bc by omega)).trans a2⟩
  clear hb1 HN
  go_wp2_with fail
  go_region_held3 (fun W => W.cell? ⟨w.heap.size, 0, none⟩ = some (.int .i64 ka) ∧ W.cell? ⟨w.heap.size, 1, none⟩ = some (.int .i64 na) ∧ W.cell? ⟨w.heap.size, 2, none⟩ = some (.string sa))
    (first | exact ⟨a0d, a1d, a2d⟩ | exact ⟨a0, a1, a2⟩ | exact HK.out _ (Mv.alloc (by assumption) _))
    (first | (go_at_call 17; (with_reducible refine (cAny_any bc w1.heap.size _ (by first | exact hok | exact CaseOk.below hok (Below.drew (Below.refl _ _)) (Nat.le_refl _))).mono ?_); rintro e wzd ⟨kd, nd, sd, rfl, hvd, hld, hud, hmd0, hokd⟩; have hmd : Mv bc w1 wzd := (by first | exact hmd0 | exact ((Mv.refl bc w1).drewN 1).trans hmd0); obtain ⟨a0d, a1d, a2d⟩ := HK.out wzd hmd; clear hvd hmd0))
  go_wp2_with fail
  obtain ⟨sb, hsb⟩ : ∃ sb, wzd.heap.size = sb := ⟨_, rfl⟩
  have V0 : ValsL (wzd.alloc (.cells #[.int .i64 ka, .int .i64 na, .string sa, .int .i64 kd, .int .i64 nd, .string sd] 25)) sb [⟨ka, na, sa⟩, ⟨kd, nd, sd⟩] := by
    subst hsb
    refine ⟨by simp, fun i hi => ?_⟩
    have hi2 : i < 2 := hi
    have hc : i = 0 ∨ i = 1 := by omega
    rcases hc with rfl | rfl <;> (refine ⟨?_, ?_, ?_⟩ <;> go_simp)
  have HMD : Hid (Mv bc w1 (wzd.alloc (.cells #[.int .i64 ka, .int .i64 na, .string sa, .int .i64 kd, .int .i64 nd, .string sd] 25))) := hmd.alloc _
  have HOK : Hid (CaseOk bc w1.heap.size (wzd.alloc (.cells #[.int .i64 ka, .int .i64 na, .string sa, .int .i64 kd, .int .i64 nd, .string sd] 25))) := hokd.alloc _
  have HRG : Hid (∀ x ∈ ([⟨ka, na, sa⟩, ⟨kd, nd, sd⟩] : List V), -9223372036854775808 ≤ x.n ∧ x.n ≤ 9223372036854775807) := by
    intro x hx
    simp only [List.mem_cons, List.not_mem_nil, or_false] at hx
    rcases hx with rfl | rfl
    · exact ⟨hva.2.2.1, hva.2.2.2⟩
    · exact ⟨hld, hud⟩
  have hsb1 : w1.heap.size ≤ sb := by have := hmd.size; omega
  have HVS := Lib.hid V0
  obtain ⟨vs, hvs⟩ : ∃ vs : List V, vs = [⟨ka, na, sa⟩, ⟨kd, nd, sd⟩] := ⟨_, rfl⟩
  have hvl : Hid (vs.length = 2) := by rw [hvs]; rfl
  rw [← hvs] at HVS HRG
  rw [hsb]
  generalize wzd.alloc (.cells #[.int .i64 ka, .int .i64 na, .string sa, .int .i64 kd, .int .i64 nd, .string sd] 25) = wL at *
  clear V0 hvs hsb hmd hokd a0d a1d a2d hld hud a0 a1 a2 hok
  have hbsb : bc < sb := by omega
  go_loopw [35] (fun i wr => ∃ k : Nat, k ≤ 2 ∧ i = .int .i64 k ∧ Hid (Mv bc wL wr ∧ CaseOk bc w1.heap.size wr)) (fun i _ => 2 - (intOf i).toNat)
  case atStart => exact ⟨0, by omega, rfl, Mv.refl _ _, HOK.out⟩
  case round =>
    obtain ⟨k, hk, rfl, HR⟩ := hrel
    have HMW : Hid (Mv bc w1 wr) := HMD.out.trans HR.out.1
    by_cases hlt : k < 2
    · have hlt' : (k : Int) < 2 := by omega
      have hkL : k < vs.length := by rw [hvl.out]; exact hlt
      have hx0 := HVS.out.2 k hkL
      have hrg := HRG.out _ (List.getElem_mem hkL)
      have hsw : sb < wr.heap.size := Nat.lt_of_lt_of_le HVS.out.1 HR.out.1.size
      have hx1 := hx0.same (HR.out.1.block sb HVS.out.1 (by omega))
      generalize vs[k] = x at hx1 hrg
      obtain ⟨pk, pn, ps⟩ := x
      obtain ⟨e0, e1, e2⟩ := hx1
      simp only at e0 e1 e2 hrg
      clear hx0 hkL
      go_wp2_with fail
      obtain ⟨bp, hbp⟩ : ∃ bp, wr.heap.size = bp := ⟨_, rfl⟩
      have p0 : (wr.alloc (.cells #[.int .i64 pk, .int .i64 pn, .string ps] 25)).cell? ⟨bp, 0, none⟩ = some (.int .i64 pk) := by subst hbp; exact World.cell?_alloc_mark wr #[.int .i64 pk, .int .i64 pn, .string ps] 25 (0, 0) 0
      have p1 : (wr.alloc (.cells #[.int .i64 pk, .int .i64 pn, .string ps] 25)).cell? ⟨bp, 1, none⟩ = some (.int .i64 pn) := by subst hbp; exact World.cell?_alloc_mark wr #[.int .i64 pk, .int .i64 pn, .string ps] 25 (0, 0) 1
      have p2 : (wr.alloc (.cells #[.int .i64 pk, .int .i64 pn, .string ps] 25)).cell? ⟨bp, 2, none⟩ = some (.string ps) := by subst hbp; exact World.cell?_alloc_mark wr #[.int .i64 pk, .int .i64 pn, .string ps] 25 (0, 0) 2
      have HM5 : Hid (Mv bc wL (wr.alloc (.cells #[.int .i64 pk, .int .i64 pn, .string ps] 25))) := HR.out.1.alloc _
      have HM51 : Hid (Mv bc w1 (wr.alloc (.cells #[.int .i64 pk, .int .i64 pn, .string ps] 25))) := HMW.out.alloc _
      have hok5 : CaseOk bc w1.heap.size (wr.alloc (.cells #[.int .i64 pk, .int .i64 pn, .string ps] 25)) := HR.out.2.alloc _
      have hz5 : bp < (wr.alloc (.cells #[.int .i64 pk, .int .i64 pn, .string ps] 25)).heap.size := by subst hbp; simp
      have hbpc : bp ≠ bc := by omega
      rw [hbp]
      generalize wr.alloc (.cells #[.int .i64 pk, .int .i64 pn, .string ps] 25) = w5 at *
      obtain ⟨g0, g1, g2⟩ := HK.out w5 HM51.out
      have HK5 : Hid (∀ W, Mv bc w5 W → (W.cell? ⟨w.heap.size, 0, none⟩ = some (.int .i64 ka) ∧ W.cell? ⟨w.heap.size, 1, none⟩ = some (.int .i64 na) ∧ W.cell? ⟨w.heap.size, 2, none⟩ = some (.string sa)) ∧ W.cell? ⟨bp, 0, none⟩ = some (.int .i64 pk) ∧ W.cell? ⟨bp, 1, none⟩ = some (.int .i64 pn) ∧ W.cell? ⟨bp, 2, none⟩ = some (.string ps)) := fun W hm =>
        ⟨HK.out W (HM51.out.trans hm), (hm.cell (p := ⟨bp, 0, none⟩) hz5 hbpc).trans p0, (hm.cell (p := ⟨bp, 1, none⟩) hz5 hbpc).trans p1, (hm.cell (p := ⟨bp, 2, none⟩) hz5 hbpc).trans p2⟩
      clear e0 e1 e2 hsw
      go_region_held3 (fun W => (W.cell? ⟨w.heap.size, 0, none⟩ = some (.int .i64 ka) ∧ W.cell? ⟨w.heap.size, 1, none⟩ = some (.int .i64 na) ∧ W.cell? ⟨w.heap.size, 2, none⟩ = some (.string sa)) ∧ W.cell? ⟨bp, 0, none⟩ = some (.int .i64 pk) ∧ W.cell? ⟨bp, 1, none⟩ = some (.int .i64 pn) ∧ W.cell? ⟨bp, 2, none⟩ = some (.string ps))
        (first | exact HSd.out | exact ⟨⟨g0, g1, g2⟩, p0, p1, p2⟩ | exact HK5.out _ (Mv.alloc (by assumption) _))
        (first | (go_at_call 17; (with_reducible refine (cAny_any bc w1.heap.size _ (by first | exact hok5 | exact CaseOk.below hok5 (Below.drew (Below.refl _ _)) (Nat.le_refl _))).mono ?_); rintro e wzd ⟨kd, nd, sd, rfl, hvd, hld, hud, hmd0, hokd⟩; have hmd : Mv bc w5 wzd := (by first | exact hmd0 | exact ((Mv.refl bc w5).drewN 1).trans hmd0); have HSd := Lib.hid (HK5.out wzd hmd); clear hvd hmd0))
      go_wp2_with fail
      obtain ⟨sb2, hsb2⟩ : ∃ sb2, wzd.heap.size = sb2 := ⟨_, rfl⟩
      have V2 : ValsL (wzd.alloc (.cells #[.int .i64 ka, .int .i64 na, .string sa, .int .i64 kd, .int .i64 nd, .string sd, .int .i64 pk, .int .i64 pn, .string ps] 25)) sb2 [⟨ka, na, sa⟩, ⟨kd, nd, sd⟩, ⟨pk, pn, ps⟩] := by
        subst hsb2
        refine ⟨by simp, fun i hi => ?_⟩
        have hi3 : i < 3 := hi
        have hc : i = 0 ∨ i = 1 ∨ i = 2 := by omega
        rcases hc with rfl | rfl | rfl <;> (refine ⟨?_, ?_, ?_⟩ <;> go_simp)
      have hz6 : bp < wzd.heap.size := Nat.lt_of_lt_of_le hz5 hmd.size
      have HM6 : Hid (Mv bc wL (wzd.alloc (.cells #[.int .i64 ka, .int .i64 na, .string sa, .int .i64 kd, .int .i64 nd, .string sd, .int .i64 pk, .int .i64 pn, .string ps] 25))) := (HM5.out.trans hmd).alloc _
      have HOK6 : Hid (CaseOk bc w1.heap.size (wzd.alloc (.cells #[.int .i64 ka, .int .i64 na, .string sa, .int .i64 kd, .int .i64 nd, .string sd, .int .i64 pk, .int .i64 pn, .string ps] 25))) := hokd.alloc _
      have HB6 := (Below.refl wzd.heap.size wzd).alloc (Nat.le_refl _) (.cells #[.int .i64 ka, .int .i64 na, .string sa, .int .i64 kd, .int .i64 nd, .string sd, .int .i64 pk, .int .i64 pn, .string ps] 25)
      have r0 := (HB6.cell (p := ⟨bp, 0, none⟩) hz6).trans HSd.out.2.1
      have r1 := (HB6.cell (p := ⟨bp, 1, none⟩) hz6).trans HSd.out.2.2.1
      have r2 := (HB6.cell (p := ⟨bp, 2, none⟩) hz6).trans HSd.out.2.2.2
      have hz7 : bp < (wzd.alloc (.cells #[.int .i64 ka, .int .i64 na, .string sa, .int .i64 kd, .int .i64 nd, .string sd, .int .i64 pk, .int .i64 pn, .string ps] 25)).heap.size := by simp only [World.size_alloc]; omega
      obtain ⟨vs2, hvs2⟩ : ∃ vs2 : List V, vs2 = [⟨ka, na, sa⟩, ⟨kd, nd, sd⟩, ⟨pk, pn, ps⟩] := ⟨_, rfl⟩
      have hvl2 : Hid (vs2.length = 3) := by rw [hvs2]; rfl
      rw [← hvs2] at V2
      rw [hsb2]
      generalize wzd.alloc (.cells #[.int .i64 ka, .int .i64 na, .string sa, .int .i64 kd, .int .i64 nd, .string sd, .int .i64 pk, .int .i64 pn, .string ps] 25) = w6 at *
      have HV2 := Lib.hid V2
      have HPK : Hid (∀ W, Below w6.heap.size w6 W → W.cell? ⟨bp, 0, none⟩ = some (.int .i64 pk) ∧ W.cell? ⟨bp, 1, none⟩ = some (.int .i64 pn) ∧ W.cell? ⟨bp, 2, none⟩ = some (.string ps)) := fun W hb =>
        ⟨(hb.cell (p := ⟨bp, 0, none⟩) hz7).trans r0, (hb.cell (p := ⟨bp, 1, none⟩) hz7).trans r1, (hb.cell (p := ⟨bp, 2, none⟩) hz7).trans r2⟩
      clear V2 hvs2 HB6 r0 r1 r2 hsb2 hmd hokd HSd HK5 hok5 p0 p1 p2 g0 g1 g2 hld hud
      go_loopw [45] (fun i wr6 => ∃ j : Nat, j ≤ 3 ∧ i = .int .i64 j ∧ Hid (Below w6.heap.size w6 wr6)) (fun i _ => 3 - (intOf i).toNat)
      case atStart => exact ⟨0, by omega, rfl, Below.refl _ _⟩
      case round =>
        obtain ⟨j, hj, rfl, HRJ⟩ := hrel
        have hw6r : w6.heap.size ≤ wr.heap.size := HRJ.out.size
        by_cases hjt : j < 3
        · have hjt' : (j : Int) < 3 := by omega
          have hjL : j < vs2.length := by rw [hvl2.out]; exact hjt
          have hy0 := (HV2.out.2 j hjL).same (HRJ.out.block sb2 HV2.out.1)
          generalize vs2[j] = y at hy0
          obtain ⟨qk, qn, qs⟩ := y
          obtain ⟨f0, f1, f2⟩ := hy0
          simp only at f0 f1 f2
          obtain ⟨s0, s1, s2⟩ := HPK.out wr HRJ.out
          have hzr : bp < wr.heap.size := by omega
          obtain ⟨LB, eB, hk1, hk2⟩ := two_makes pk pn ps qk qn qs
          have HK1 := Lib.hid hk1
          have HK2 := Lib.hid hk2
          have n0 : (eB != eB) = false := by simp
          clear hk1 hk2 hjL
          go_wp2_with fail
          refine (HK1.out _).mono ?_
          rintro e w7 ⟨va, rfl, hva, hb7⟩
          obtain ⟨a3, c3, rfl⟩ := hva.shape
          have hq : ∀ o, w7.cell? ⟨wr.heap.size, o, none⟩ = _ := fun o => hb7.cell (p := ⟨wr.heap.size, o, none⟩) (show wr.heap.size < _ by simp only [World.size_alloc]; omega)
          have hs7 := hb7.size
          simp only [World.size_alloc] at hs7
          have b7 : Below w6.heap.size w6 w7 := HRJ.out.trans (((Below.refl wr.heap.size wr).alloc (Nat.le_refl _) _ |>.trans (hb7.mono (by simp only [World.size_alloc]; omega))).mono hw6r)
          obtain ⟨t0, t1, t2⟩ := HPK.out w7 b7
          clear s0 s1 s2 f0 f1 f2 hb7
          go_wp2_with fail
          refine (HK2.out _).mono ?_
          rintro e w8 ⟨vb, rfl, hvb, hb8⟩
          obtain ⟨a4, c4, rfl⟩ := hvb.shape
          have b8 : Below w6.heap.size w6 w8 := b7.trans (hb8.mono b7.size)
          have HSM := Lib.hid (same_self _ _ LB w8 (hva.below hb8).all hvb.all)
          clear t0 t1 t2 hq hva hvb hb8 b7
          go_wp2_with fail
          refine HSM.out.mono ?_
          rintro e w9 ⟨rfl, hb9⟩
          go_wp2_with fail
          go_roundw
          case rel => exact ⟨j + 1, by omega, by go_num, b8.trans (hb9.mono b8.size)⟩
          case measure => simp [intOf]; omega
        · have hj3 : decide ((j : Int) < 3) = false := by simp; omega
          obtain ⟨s0, s1, s2⟩ := HPK.out wr HRJ.out
          obtain ⟨LB, eB, hk1, hk2⟩ := two_ones pk pn ps hrg.1 hrg.2
          obtain ⟨LC, eC, hk3, hk4⟩ := two_froms pk pn ps
          have HK1 := Lib.hid hk1
          have HK2 := Lib.hid hk2
          have HK3 := Lib.hid hk3
          have HK4 := Lib.hid hk4
          have n0 : (eB != eB) = false := by simp
          have n1 : (eC != eC) = false := by simp
          clear hk1 hk2 hk3 hk4
          go_wp2_with fail
          refine (HK1.out _).mono ?_
          rintro e w7 ⟨va, rfl, hva, hb7⟩
          obtain ⟨a3, c3, rfl⟩ := hva.shape
          have b7 : Below w6.heap.size w6 w7 := HRJ.out.trans (hb7.mono hw6r)
          obtain ⟨t0, t1, t2⟩ := HPK.out w7 b7
          clear s0 s1 s2
          go_wp2_with fail
          refine (HK2.out _).mono ?_
          rintro e w8 ⟨vb, rfl, hvb, hb8⟩
          obtain ⟨a4, c4, rfl⟩ := hvb.shape
          have b8 : Below w6.heap.size w6 w8 := b7.trans (hb8.mono b7.size)
          obtain ⟨s0, s1, s2⟩ := HPK.out w8 b8
          have hva8 := hva.below hb8
          clear t0 t1 t2 hva hb8
          go_wp2_with fail
          refine (HK3.out _).mono ?_
          rintro e w9 ⟨vx, rfl, hvx, hb9⟩
          obtain ⟨a5, c5, rfl⟩ := hvx.shape
          have b9 : Below w6.heap.size w6 w9 := b8.trans (hb9.mono b8.size)
          obtain ⟨t0, t1, t2⟩ := HPK.out w9 b9
          have hva9 := hva8.below hb9
          have hvb9 := hvb.below hb9
          clear s0 s1 s2 hva8 hvb hb9
          go_wp2_with fail
          refine (HK4.out _).mono ?_
          rintro e w10 ⟨vy, rfl, hvy, hb10⟩
          obtain ⟨a6, c6, rfl⟩ := hvy.shape
          have b10 : Below w6.heap.size w6 w10 := b9.trans (hb10.mono b9.size)
          have HSM := Lib.hid (same_self _ _ LB w10 (hva9.below hb10).all (hvb9.below hb10).all)
          have HSN : Hid (∀ W, Below w10.heap.size w10 W → Calls Try.prog 23 #[.slice a5 LC.length c5, .slice a6 LC.length c6] W fun e w' => e = .returned (.bool true) ∧ Below W.heap.size W w') := fun W hb => same_self _ _ LC W ((hvx.below hb10).below hb).all (hvy.below hb).all
          clear t0 t1 t2 hva9 hvb9 hvx hvy hb10
          go_wp2_with fail
          refine HSM.out.mono ?_
          rintro e w11 ⟨rfl, hb11⟩
          go_wp2_with fail
          refine (HSN.out w11 hb11).mono ?_
          rintro e w12 ⟨rfl, hb12⟩
          have b12 : Below w6.heap.size w6 w12 := b10.trans ((hb11.mono b10.size).trans (hb12.mono (Nat.le_trans b10.size hb11.size)))
          go_wp2_with fail
          go_roundw
          case rel => exact ⟨k + 1, by omega, by go_num, HM6.out.trans (Mv.of_below b12), HOK6.out.below b12 HOK6.out.lt.2⟩
          case measure => simp [intOf]; omega
    · go_wp2_with fail
      have BF : Below w.heap.size w wr := BW.out.trans (HMW.out.below (by omega) (by omega))
      obtain ⟨LK, eK, hk1, hk2⟩ := two_kinds kind
      have HK1 := Lib.hid hk1
      have HK2 := Lib.hid hk2
      have n0 : (eK == eK) = true := by simp
      clear hk1 hk2
      refine (HK1.out _).mono ?_
      rintro e w3 ⟨va, rfl, hva, hb3⟩
      obtain ⟨a3, c3, rfl⟩ := hva.shape
      go_wp2_with fail
      refine (HK2.out _).mono ?_
      rintro e w4 ⟨vb, rfl, hvb, hb4⟩
      obtain ⟨a4, c4, rfl⟩ := hvb.shape
      have b4 : Below w.heap.size w w4 := BF.trans ((hb3.mono BF.size).trans (hb4.mono (Nat.le_trans BF.size hb3.size)))
      have HVA : Ivs w4 (.slice a3 LK.length c3) LK := (hva.below hb4).all
      have HVB : Ivs w4 (.slice a4 LK.length c4) LK := hvb.all
      clear hva hvb hb3 hb4 BF
      go_wp2_with fail
      refine (HB.out _).mono ?_
      rintro e w7 ⟨rfl, hb7⟩
      have HSM := Lib.hid (same_self _ _ LK w7 (HVA.below hb7) (HVB.below hb7))
      have b7 : Below w.heap.size w w7 := b4.trans (hb7.mono b4.size)
      clear HVA HVB hb7 b4
      go_wp2_with fail
      refine HSM.out.mono ?_
      rintro e w8 ⟨rfl, hb8⟩
      have b8 : Below w.heap.size w w8 := b7.trans (hb8.mono b7.size)
      clear hb8 b7 HSM
      go_wp2_with fail
      refine (iAll_any w8).mono ?_
      rintro e w9 ⟨vx, rfl, hvx, hb9⟩
      obtain ⟨a5, c5, rfl⟩ := hvx.shape
      have b9 : Below w.heap.size w w9 := b8.trans (hb9.mono b8.size)
      clear hb9 b8
      go_wp2_with fail
      refine (rAll_any w9).mono ?_
      rintro e w10 ⟨vy, rfl, hvy, hb10⟩
      obtain ⟨a6, c6, rfl⟩ := hvy.shape
      have b10 : Below w.heap.size w w10 := b9.trans (hb10.mono b9.size)
      have HSM := Lib.hid (same_self _ _ _ w10 (hvx.below hb10).all hvy.all)
      clear hvx hvy hb10 b9
      go_wp2_with fail
      refine HSM.out.mono ?_
      rintro e w11 ⟨rfl, hb11⟩
      go_wp2_with fail
      go_ret
      exact ⟨rfl, b10.trans (hb11.mono b10.size)⟩
end Go.Proofs.Ytkkhepfokjogpaa
