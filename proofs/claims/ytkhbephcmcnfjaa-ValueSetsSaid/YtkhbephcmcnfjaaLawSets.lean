/- Law ValueSets. -/
import Derived.Test.YtkhbephcmcnfjaaRSet
import Derived.Test.YtkhbephcmcnfjaaBegun
import Derived.Test.YtkhbephcmcnfjaaHas
namespace Go.Proofs.Ytkhbephcmcnfjaa
open Go.RowKit Go.Deep

set_option maxRecDepth 100000 in
set_option maxHeartbeats 4000000 in
theorem sets_walk (cv : Value) (cn : Nat) (la : Option Addr) (ln lc : Nat) (xs : List E) (rv : Value) (rr : List V) (w : World) (hcv : BytesAt w cv cn) (hl : HeadAt w la ln lc xs) (hrr : RowAt w rv rr) : Calls Try.prog 3 #[cv, .slice la ln lc, rv] w fun e w' => e = .returned (.bool true) ∧ Below w.heap.size w w' := by
  have hinfo : (Try.prog.info? 25).map (fun i => (i.zero, i.size, i.bytes)) = some (some (.slice none 0 0), 1, 24) := by kernel_rfl
  obtain ⟨i0, hi, hz0, hz1, hz2⟩ := info_parts hinfo
  have HI := Lib.hid hi
  have HZ0 := Lib.hid hz0
  have HZ1 := Lib.hid hz1
  have HZ2 := Lib.hid hz2
  have HN := Lib.hid (cNew_any cv cn w hcv)
  obtain ⟨qa, qc, rfl, _⟩ := hcv
  have HB : Hid (∀ W, Calls Try.prog 19 #[] W fun e w' => e = .returned (.bool true) ∧ Below W.heap.size W w') := begun_any
  have HL := Lib.hid hl
  have HRR := Lib.hid hrr
  have hlc := hl.hcap
  have hlm := hl.hmax
  clear hi hz0 hz1 hz2 hinfo hl hrr
  obtain ⟨m, hm⟩ : ∃ m, m = min ln 8 := ⟨_, rfl⟩
  go_enter Try.func3, Try.ntmps3
  go_wp2_with fail
  refine HN.out.mono ?_
  rintro e w1 ⟨bc, rfl, hb1, hbc, hok⟩
  have hs1 := hb1.size
  have HOK := Lib.hid hok
  have HB1 := Lib.hid hb1
  have hbl := hok.lt
  clear hok HN hb1
  have L1 : Hid (xs.length = (min (ln : Int) 8).toNat) := by have := HL.out.len; show _ = _; omega
  have L2 : Hid (la = none → (min (ln : Int) 8).toNat = 0 ∧ lc = 0) := fun h => by have := HL.out.nil h; omega
  have L3 : Hid ((xs.map (·.1)).length = (min (ln : Int) 8).toNat * 1) := by have := L1.out; show _ = _; simpa using this
  have L4 : Hid (∀ p, la = some p → ∀ j u, (xs.map (·.1))[j]? = some u → w1.cell? (p.add j) = some u) := by
    rintro p rfl j u hj
    have hjl : j < xs.length := by simpa using (List.getElem?_eq_some_iff.1 hj).1
    obtain ⟨b, off, e, hb, hc⟩ := HL.out.cells j hjl
    simp only [Option.some.injEq] at e
    subst e
    rw [add_form _ rfl, HB1.out.cell (p := ⟨b, off + j, none⟩) hb, hc, ← hj]
    simp [List.getElem?_eq_getElem hjl]
  have L5 : Hid (∀ u ∈ xs.map (·.1), u.oneCell' = true) := fun u hu => by
    obtain ⟨x, hx, rfl⟩ := List.mem_map.1 hu
    obtain ⟨_, _, e, _⟩ := HL.out.rows x hx
    rw [e]; rfl
  have L6 : Hid ((min (ln : Int) 8).toNat ≤ maxLen) := by show _ ≤ _; unfold maxLen; omega
  have L7 : Hid ((min (ln : Int) 8).toNat * 24 ≤ 140737488355328) := by show _ ≤ _; omega
  go_wp2_with (at_builtin; refine wpList_append_nil rfl _ _ 23 rfl 25 i0 (.slice none 0 0) 1 24 Try.underlying23 HI.out HZ0.out HZ1.out HZ2.out rfl (by decide) rfl la (min (ln : Int) 8).toNat lc (xs.map (·.1)) rfl L2.out L3.out L4.out L5.out L6.out L7.out ?_; intro v1 wa hown1 hba; have HOW1 := Lib.hid hown1; have HBA := Lib.hid hba; clear hown1 hba)
  have hs2 := HBA.out.size
  have HR := Lib.hid (lRows_any bc w1.heap.size wa (HOK.out.below HBA.out (Nat.le_refl _)))
  refine HR.out.mono ?_
  rintro e w2 ⟨v, L, rfl, hL6, hinv⟩
  have HINV := Lib.hid hinv
  have hs3 : wa.heap.size ≤ w2.heap.size := hinv.mv.size
  have HOW2 := Lib.hid (own_mv HOW1.out hinv.mv hbl.1)
  clear HR hinv HOW1
  have M1 : Hid (∀ u ∈ L.map (·.1), u.oneCell' = true) := fun u hu => by
    obtain ⟨x, hx, rfl⟩ := List.mem_map.1 hu
    obtain ⟨_, _, e, _⟩ := HINV.out.rows x hx
    rw [e]; rfl
  have M2 : Hid ((min (ln : Int) 8).toNat + L.length ≤ maxLen) := by show _ ≤ _; unfold maxLen; omega
  have M3 : Hid (((min (ln : Int) 8).toNat + L.length) * 24 ≤ 140737488355328) := by show _ ≤ _; omega
  have M4 : Hid (w1.heap.size ≤ w2.heap.size) := by show _ ≤ _; omega
  go_wp2_with (at_builtin; refine wpList_append_two rfl _ _ 23 rfl 25 i0 (.slice none 0 0) 24 Try.underlying23 HI.out HZ0.out HZ1.out HZ2.out rfl w1.heap.size v1 _ _ rfl HOW2.out wa.heap.size v L.length _ rfl HINV.out.own M1.out M2.out M3.out M4.out ?_; intro v3 w5 hown2 hgr; have HOWN := Lib.hid hown2; have HGR := Lib.hid hgr; clear hown2 hgr)
  obtain ⟨LL, hLL⟩ : ∃ LL : List E, LL = xs ++ L := ⟨_, rfl⟩
  have hkr1 := HOW2.out.lt
  have B25 : Below w1.heap.size w2 w5 := (Below.refl _ _).grown HGR.out (by omega) (fun k e => (hkr1 k e).1)
  have BW : Hid (Below w.heap.size w w5) :=
    HB1.out.trans ((HBA.out.mono hs1).trans ((HINV.out.mv.below hbc (by omega)).trans (B25.mono hs1)))
  have hll : LL.length = (min (ln : Int) 8).toNat + L.length := by have := L1.out; rw [hLL, List.length_append]; omega
  have hl14 : LL.length ≤ 14 := by omega
  have HOWL : Hid (w5.ownsRow w1.heap.size 25 1 v3 LL.length (LL.map (·.1))) := by
    show World.ownsRow _ _ _ _ _ _ _
    have := HOWN.out
    rw [hll, hLL]
    simpa using this
  have hs5 : w2.heap.size ≤ w5.heap.size := HGR.out.size
  have HRB : Hid (∀ x ∈ LL, RowB w5.heap.size w5 x.1 x.2) := by
    intro x hx
    rw [hLL, List.mem_append] at hx
    rcases hx with hx | hx
    · exact ((HL.out.rows x hx).below BW.out (Nat.le_refl _)).mono BW.out.size
    · exact (rowT_grown (HINV.out.rows x hx) HOW2.out HGR.out).rowB
  have hrl : RowsB w5.heap.size w5 v3 LL := rowsB_own HOWL.out HRB.out (by omega)
  have HRC := Lib.hid (rowsC_own HOWL.out HRB.out (by omega))
  have HRL := Lib.hid hrl
  have hws5 : w.heap.size ≤ w5.heap.size := BW.out.size
  have hw15 : w1.heap.size ≤ w5.heap.size := by omega
  clear L1 L2 L3 L4 L5 L6 L7 M1 M2 M3 M4 HINV HOW2 HOWN HGR B25 HBA HB1 HOK HL hkr1 hLL hll hL6
  have HS := Lib.hid (setOut v3 LL w5 hrl)
  clear hrl
  refine HS.out.mono ?_
  rintro e w6 ⟨sv, ys, rfl, hrs, hrel, hmem, hyl, hb6⟩
  have HRS := Lib.hid hrs
  have HREL := Lib.hid hrel
  have HMEM := Lib.hid hmem
  have HB6 := Lib.hid hb6
  have hs6 := hb6.size
  clear HS hrs hrel hmem hb6
  have HT := Lib.hid (rSet_any v3 LL w6 ((HRC.out.below HB6.out (Nat.le_refl _)).mono hs6))
  have HLW : Hid (∀ W, Below w6.heap.size w6 W → RowsB W.heap.size W v3 LL) := fun W hW => (HRL.out.below (HB6.out.trans (hW.mono hs6)) (Nat.le_refl _)).mono (Nat.le_trans hs6 hW.size)
  have HSW : Hid (∀ W, Below w6.heap.size w6 W → RowsB W.heap.size W sv ys) := fun W hW => (HRS.out.below hW (Nat.le_refl _)).mono hW.size
  have HB06 : Hid (Below w.heap.size w w6) := BW.out.trans (HB6.out.mono hws5)
  have hs06 : w.heap.size ≤ w6.heap.size := HB06.out.size
  have HRW : Hid (∀ W, Below w6.heap.size w6 W → RowAt W rv rr) := fun W hW => by
    obtain ⟨a, c, e, hn, hi⟩ := HRR.out
    refine ⟨a, c, e, hn, fun i h => ?_⟩
    obtain ⟨b, off, ea, hlt, hc⟩ := hi i h
    have hb := HB06.out.trans (hW.mono hs06)
    exact ⟨b, off, ea, Nat.lt_of_lt_of_le hlt hb.size, CellsV.below hb hlt hc⟩
  obtain ⟨b0, hb0⟩ : ∃ b0, b0 = decide (rr ∈ LL.map (·.2)) := ⟨_, rfl⟩
  have HVL : Hid (∀ W, Below w6.heap.size w6 W → Calls Try.prog 17 #[v3, rv] W fun e w' => e = .returned (.bool b0) ∧ Gr W w') := fun W hW => by
    have := vHas_any v3 rv LL rr W (HLW.out W hW) (HRW.out W hW)
    rwa [← hb0] at this
  have HRLH : Hid (∀ W, Below w6.heap.size w6 W → Calls Try.prog 18 #[v3, rv] W fun e w' => e = .returned (.bool b0) ∧ Gr W w') := fun W hW => by
    have := rHas_any v3 rv LL rr W (HLW.out W hW) (HRW.out W hW)
    rwa [← hb0] at this
  have HVS : Hid (∀ W, Below w6.heap.size w6 W → Calls Try.prog 17 #[sv, rv] W fun e w' => e = .returned (.bool b0) ∧ Gr W w') := fun W hW => by
    have := vHas_any sv rv ys rr W (HSW.out W hW) (HRW.out W hW)
    rw [show decide (rr ∈ ys.map (·.2)) = b0 by rw [hb0]; exact decide_eq_decide.2 (HMEM.out rr)] at this
    exact this
  have HXL : Hid (∀ W, Below w6.heap.size w6 W → ∀ xv xl, RowAt W xv xl → xl ∈ LL.map (·.2) → Calls Try.prog 17 #[v3, xv] W fun e w' => e = .returned (.bool true) ∧ Gr W w') := fun W hW xv xl hx hm => by
    have := vHas_any v3 xv LL xl W (HLW.out W hW) hx
    rwa [decide_eq_true hm] at this
  have HXS : Hid (∀ W, Below w6.heap.size w6 W → ∀ xv xl, RowAt W xv xl → xl ∈ LL.map (·.2) → Calls Try.prog 17 #[sv, xv] W fun e w' => e = .returned (.bool true) ∧ Gr W w') := fun W hW xv xl hx hm => by
    have := vHas_any sv xv ys xl W (HSW.out W hW) hx
    rwa [decide_eq_true ((HMEM.out xl).2 hm)] at this
  have HREL2 : Hid (∀ (M : List E), Rel (M.map (·.2)) → (∀ r, r ∈ M.map (·.2) ↔ r ∈ LL.map (·.2)) → decide (ys.map (·.2) = M.map (·.2)) = true) := fun M h1 h2 => decide_eq_true (rel_unique _ _ HREL.out h1 (fun r => (HMEM.out r).trans (h2 r).symm))
  clear hb0 HRW HRR HRL HRS HMEM HREL HB6 BW HRC
  go_wp2_with fail
  refine HT.out.mono ?_
  rintro e w7 ⟨tv, ts, rfl, hrs, hrel, hmem, _, hb7⟩
  have HSM := Lib.hid (rSame_any sv tv ys ts w7 (HSW.out w7 hb7) hrs)
  rw [HREL2.out ts hrel hmem] at HSM
  have HB7 := Lib.hid hb7
  clear hb7 hrs hrel hmem HREL2 HT HSW
  go_wp2_with fail
  refine HSM.out.mono ?_
  rintro e w8 ⟨rfl, hg⟩
  have HB8 := Lib.hid (HB7.out.trans (hg.below.mono HB7.out.size))
  clear hg HSM HB7
  go_wp2_with fail
  refine (HVL.out _ HB8.out).mono ?_
  rintro e w9 ⟨rfl, hg⟩
  have HB9 := Lib.hid (HB8.out.trans (hg.below.mono HB8.out.size))
  clear hg HB8
  go_wp2_with fail
  refine (HRLH.out _ HB9.out).mono ?_
  rintro e wA ⟨rfl, hg⟩
  have HBA := Lib.hid (HB9.out.trans (hg.below.mono HB9.out.size))
  clear hg HB9 HRLH
  obtain ⟨la3, lc3, hv3⟩ := own_slice HOWL.out
  subst hv3
  obtain ⟨n, hn⟩ : ∃ n, LL.length = n := ⟨_, rfl⟩
  have HN := Lib.hid hn
  rw [hn] at HVL HXL HLW hl14
  rw [hn]
  clear hn HOWL HRB
  go_wp2_with fail
  go_loopg [40] n (fun g i wr => ∃ k : Nat, k ≤ n ∧ n - k ≤ g ∧ i = .int .i64 k ∧ Hid (Below w6.heap.size w6 wr))
  case atStart => exact ⟨0, by omega, by omega, rfl, HBA⟩
  case round =>
    obtain ⟨k, hk, hkg, rfl, hbk⟩ := hrel
    by_cases hlt : k < n
    · have hlt' : (k : Int) < n := by omega
      have hk0 : (0 : Int) ≤ k := by omega
      have hkl : k < LL.length := by rw [HN.out]; exact hlt
      obtain ⟨_, _, ee, -, hxr, hxi⟩ := HLW.out wr hbk.out
      simp only [Value.slice.injEq] at ee
      obtain ⟨rfl, -, rfl⟩ := ee
      obtain ⟨b1, o1, rfl, hb1, hc1⟩ := hxi k hkl
      have hr1 := hxr _ (List.getElem_mem hkl)
      have hmm : LL[k].2 ∈ LL.map (·.2) := List.mem_map_of_mem (List.getElem_mem hkl)
      generalize LL[k] = p at hc1 hr1 hmm
      obtain ⟨xv, xl⟩ := p
      simp only at hc1 hr1 hmm
      obtain ⟨xa, xc, hxv⟩ : ∃ a c, xv = .slice a xl.length c := by obtain ⟨a, c, e, _⟩ := hr1; exact ⟨a, c, e⟩
      subst hxv
      have C1 : Hid (∀ W, Below wr.heap.size wr W → Calls Try.prog _ _ W _) := fun W hW => HXS.out W (hbk.out.trans (hW.mono hbk.out.size)) _ xl ((hr1.below hW (Nat.le_refl _)).at hW.size) hmm
      have C2 : Hid (∀ W, Below wr.heap.size wr W → Calls Try.prog _ _ W _) := fun W hW => HXL.out W (hbk.out.trans (hW.mono hbk.out.size)) _ xl ((hr1.below hW (Nat.le_refl _)).at hW.size) hmm
      clear hxr hxi hr1 hmm
      go_wp2_with fail
      refine (C1.out _ (Below.refl _ _)).mono ?_
      rintro e wb ⟨rfl, hg⟩
      have HG1 := Lib.hid hg.below
      clear hg C1
      go_wp2_with fail
      refine (C2.out _ HG1.out).mono ?_
      rintro e wc ⟨rfl, hg⟩
      have HG2 := Lib.hid (HG1.out.trans (hg.below.mono HG1.out.size))
      clear hg C2
      go_wp2_with fail
      go_roundg (n - (k + 1))
      case measure => omega
      case rel => exact ⟨k + 1, by omega, Nat.le_refl _, by go_num, Lib.hid (hbk.out.trans (HG2.out.mono hbk.out.size))⟩
    · have hd : decide ((k : Int) < n) = false := decide_eq_false (by omega)
      clear HXL HXS HBA
      go_wp2_with fail
      refine (HB.out wr).mono ?_
      rintro e wb ⟨rfl, hg⟩
      have HG1 := Lib.hid (hbk.out.trans (hg.mono hbk.out.size))
      clear hg
      go_wp2_with fail
      refine (HVS.out _ HG1.out).mono ?_
      rintro e wc ⟨rfl, hg⟩
      have HG2 := Lib.hid (HG1.out.trans (hg.below.mono HG1.out.size))
      clear hg
      go_wp2_with fail
      refine (HVL.out _ HG2.out).mono ?_
      rintro e wd ⟨rfl, hg⟩
      have HG3 := Lib.hid (HG2.out.trans (hg.below.mono HG2.out.size))
      clear hg
      go_wp2_with fail
      go_ret
      exact ⟨by first | rfl | simp | (cases b0 <;> rfl), HB06.out.trans (HG3.out.mono hs06)⟩
end Go.Proofs.Ytkhbephcmcnfjaa
