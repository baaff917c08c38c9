/- Law IntervalCombines. -/
import Derived.Test.YtmhgmlnnipdomaaIvSpoilt
import Derived.Test.YtmhgmlnnipdomaaIvLists
import Derived.Test.YtmhgmlnnipdomaaCase5
namespace Go.Proofs.Ytmhgmlnnipdomaa
open Go.RowKit Go.Deep

set_option maxRecDepth 100000 in
set_option maxHeartbeats 8000000 in
theorem intervalCombines_walk (cv : Value) (cn : Nat) (raw : Value) (R : List IV) (w : World) (hcv : BytesAt w cv cn) (hraw : Ivs w raw R) :
    Calls Try.prog 4 #[cv, raw] w fun e w' => e = .returned (.bool true) ∧ Below w.heap.size w w' := by
  have HN := Lib.hid (cNew_120 cv cn w hcv)
  obtain ⟨qa, qc, rfl, _⟩ := hcv
  obtain ⟨ra, rc, m, R', rfl, hm, hm1, hm2, hm3, hrl, hr⟩ := hraw.cut80
  have HRR := Lib.hid hr
  have HRL := Lib.hid hrl
  clear hraw hr hrl
  generalize R.length = rn at *
  have hmA : (0 : Int) ≤ (m : Int) := by omega
  have hmB : (m : Int) ≤ (rc : Int) := by omega
  have HBEG : Hid (∀ W, Calls Try.prog 18 #[] W fun e w' => e = .returned (.bool true) ∧ Below W.heap.size W w') := begun3_any
  go_enter Try.func4, Try.ntmps4
  go_wp2_with fail
  refine HN.out.mono ?_
  rintro e d0 ⟨bc, rfl, hb1, hbc, hok⟩
  have B0 := Lib.hid hb1
  have K0 := Lib.hid hok
  have hbl := hok.lt.1
  have hs0 : w.heap.size ≤ d0.heap.size := hb1.size
  have G0 : Hid (IvsAt (fun b => b ≠ bc) d0 (.slice ra m rc) R') := (HRR.out.below hb1).weak (fun b h => by omega)
  clear hb1 hok HN HRR
  go_upto_region 2 with fail
  go_cut [6] (fun s6 wx => ∃ sb LL, s6 = .slice (some ⟨sb, 0, none⟩) 4 4 ∧ Hid (LL.length = 4 ∧ LNe bc wx sb LL ∧ Mv bc d0 wx))
  case first =>
    have h80 : ((¬ (80 : Int) < rn ∧ ¬ 80 < rn) ∧ rn = m) ∨ ((80 : Int) < rn ∧ m = 80) := by omega
    rcases h80 with ⟨⟨h80, h80n⟩, rfl⟩ | ⟨h80, rfl⟩
    · have hq : ((80 : Int) < rn) = False := by simpa using h80
      go_wp2_with fail
      refine wp_region_held_drew (S := fun _ => True) (by kernel_rfl) trivial (fun hHeld => ?_)
      refine wpAnyH_takeD (i := 0) (d := 33) (v := ?_) rfl rfl (by kernel_rfl) (by kernel_rfl) (by kernel_rfl) (fun _ _ _ h => h) (Or.inl ⟨by rfl, ?_⟩) (by assumption) ?_; rotate_left
      · intro W hSw; (try dsimp only at hSw); go_simp; (try with_reducible rfl)
      (try simp only [List.set_cons_zero, List.set_cons_succ])
      refine wpAnyH_takeD (i := 2) (d := 35) (v := ?_) rfl rfl (by kernel_rfl) (by kernel_rfl) (by kernel_rfl) (fun _ _ _ h => h) (Or.inl ⟨by rfl, ?_⟩) (by assumption) ?_; rotate_left
      · intro W hSw; (try dsimp only at hSw); go_simp; (try with_reducible rfl)
      (try simp only [List.set_cons_zero, List.set_cons_succ])
      refine wpAnyH_takeD (i := 4) (d := 37) (v := ?_) rfl rfl (by kernel_rfl) (by kernel_rfl) (by kernel_rfl) (fun _ _ _ h => h) (Or.inl ⟨by rfl, ?_⟩) (by assumption) ?_; rotate_left
      · intro W hSw; (try dsimp only at hSw); go_simp; (try with_reducible rfl)
      (try simp only [List.set_cons_zero, List.set_cons_succ])
      refine wpAnyH_takeD (i := 6) (d := 39) (v := ?_) rfl rfl (by kernel_rfl) (by kernel_rfl) (by kernel_rfl) (fun _ _ _ h => h) (Or.inl ⟨by rfl, ?_⟩) (by assumption) ?_; rotate_left
      · intro W hSw; (try dsimp only at hSw); go_simp; (try with_reducible rfl)
      (try simp only [List.set_cons_zero, List.set_cons_succ])
      refine wpAnyH_takeD (i := 7) (d := 40) (v := ?_) rfl rfl (by kernel_rfl) (by kernel_rfl) (by kernel_rfl) (fun _ _ _ h => h) (Or.inl ⟨by rfl, ?_⟩) (by assumption) ?_; rotate_left
      · intro W hSw; (try dsimp only at hSw); go_simp; (try with_reducible rfl)
      (try simp only [List.set_cons_zero, List.set_cons_succ])
      refine wpAnyH_takeD (i := 8) (d := 41) (v := ?_) rfl rfl (by kernel_rfl) (by kernel_rfl) (by kernel_rfl) (fun _ _ _ h => h) (Or.inl ⟨by rfl, ?_⟩) (by assumption) ?_; rotate_left
      · intro W hSw; (try dsimp only at hSw); go_simp; (try with_reducible rfl)
      (try simp only [List.set_cons_zero, List.set_cons_succ])
      refine wpAnyH_takeD (i := 9) (d := 42) (v := ?_) rfl rfl (by kernel_rfl) (by kernel_rfl) (by kernel_rfl) (fun _ _ _ h => h) (Or.inl ⟨by rfl, ?_⟩) (by assumption) ?_; rotate_left
      · intro W hSw; (try dsimp only at hSw); go_simp; (try with_reducible rfl)
      (try simp only [List.set_cons_zero, List.set_cons_succ])
      refine wpAnyH_takeD (i := 10) (d := 43) (v := ?_) rfl rfl (by kernel_rfl) (by kernel_rfl) (by kernel_rfl) (fun _ _ _ h => h) (Or.inl ⟨by rfl, ?_⟩) (by assumption) ?_; rotate_left
      · intro W hSw; (try dsimp only at hSw); go_simp; (try with_reducible rfl)
      (try simp only [List.set_cons_zero, List.set_cons_succ])
      refine wpAnyH_ready (rs := [1]) (by kernel_rfl) (by simp) ?_
      refine AllReadyH.cons rfl (fun K hK => ?_) AllReadyH.nil
      go_simp
      go_at_call 9
      refine (cInterval_any bc d0.heap.size _ (by first | exact K0.out | exact K0.out.drew)).mono ?_
      rintro e d1 ⟨v, A, rfl, hv, ho, hl, hm0, hk⟩
      obtain ⟨aA, cA, rfl⟩ := hv.shape
      have M01 : Hid (Mv bc d0 d1) := (by first | exact hm0 | exact (Mv.refl bc d0).drew.trans hm0)
      have M1 : Hid (Mv bc d0 d1) := M01.out
      have hd1 : d0.heap.size ≤ d1.heap.size := M1.out.size
      have GA := Lib.hid (IvsAt.ne (bc := bc) hv (by first | omega | (simp; omega)))
      have K1 := Lib.hid hk
      clear hv ho hl hm0 hk
      clear hHeld
      refine hK.out _ _ trivial (fun hHeld => ?_)
      clear hK K
      (try simp only [List.set_cons_zero, List.set_cons_succ])
      refine wpAnyH_ready (rs := [3]) (by kernel_rfl) (by simp) ?_
      refine AllReadyH.cons rfl (fun K hK => ?_) AllReadyH.nil
      go_simp
      go_at_call 9
      refine (cInterval_any bc d0.heap.size _ (by first | exact K1.out | exact K1.out.drew)).mono ?_
      rintro e d2 ⟨v, B, rfl, hv, ho, hl, hm0, hk⟩
      obtain ⟨aB, cB, rfl⟩ := hv.shape
      have M12 : Hid (Mv bc d1 d2) := (by first | exact hm0 | exact (Mv.refl bc d1).drew.trans hm0)
      have M2 : Hid (Mv bc d0 d2) := M1.out.trans M12.out
      have hd2 : d0.heap.size ≤ d2.heap.size := M2.out.size
      have GB := Lib.hid (IvsAt.ne (bc := bc) hv (by first | omega | (simp; omega)))
      have K2 := Lib.hid hk
      clear hv ho hl hm0 hk
      clear hHeld
      refine hK.out _ _ trivial (fun hHeld => ?_)
      clear hK K
      (try simp only [List.set_cons_zero, List.set_cons_succ])
      refine wpAnyH_ready (rs := [5]) (by kernel_rfl) (by simp) ?_
      refine AllReadyH.cons rfl (fun K hK => ?_) AllReadyH.nil
      go_simp
      go_at_call 10
      refine (spoilt_any bc d0.heap.size _ (by first | exact K2.out | exact K2.out.drew)).mono ?_
      rintro e d3 ⟨v, C, rfl, hv, hm0, hk⟩
      obtain ⟨aC, cC, rfl⟩ := hv.shape
      have M23 : Hid (Mv bc d2 d3) := (by first | exact hm0 | exact (Mv.refl bc d2).drew.trans hm0)
      have M3 : Hid (Mv bc d0 d3) := M2.out.trans M23.out
      have hd3 : d0.heap.size ≤ d3.heap.size := M3.out.size
      have GC := Lib.hid (IvsAt.ne (bc := bc) hv (by first | omega | (simp; omega)))
      have K3 := Lib.hid hk
      clear hv hm0 hk
      clear hHeld
      refine hK.out _ _ trivial (fun hHeld => ?_)
      clear hK K
      (try simp only [List.set_cons_zero, List.set_cons_succ])
      refine wpAnyH_ready (rs := [11]) (by kernel_rfl) (by simp) ?_
      refine AllReadyH.cons rfl (fun K hK => ?_) AllReadyH.nil
      go_simp
      clear hHeld
      refine hK.out _ _ trivial (fun hHeld => ?_)
      clear hK K
      (try simp only [List.set_cons_zero, List.set_cons_succ])
      refine wpAnyH_takeD (i := 12) (d := 6) (v := ?_) rfl rfl (by kernel_rfl) (by kernel_rfl) (by kernel_rfl) (fun _ _ _ h => h) (Or.inl ⟨by rfl, ?_⟩) (by assumption) ?_; rotate_left
      · intro W hSw; (try dsimp only at hSw); go_simp; (try with_reducible rfl)
      (try simp only [List.set_cons_zero, List.set_cons_succ])
      refine wpAnyH_done (by kernel_rfl) ?_ _
      go_wp2_with fail
      go_meet
      refine ⟨_, [(.slice aA A.length cA, A), (.slice aB B.length cB, B), (.slice aC C.length cC, C), (.slice ra rn rc, R')], rfl, rfl, ?_, ?_⟩
      · exact LNe.new4 ((GA.out.mvn M12.out).mvn M23.out) (GB.out.mvn M23.out) GC.out (G0.out.mvn M3.out) (by omega) _
      · exact M3.out.alloc _
    · have hq : (80 : Int) ≤ rc := by omega
      go_wp2_with fail
      refine wp_region_held_drew (S := fun _ => True) (by kernel_rfl) trivial (fun hHeld => ?_)
      refine wpAnyH_takeD (i := 0) (d := 33) (v := ?_) rfl rfl (by kernel_rfl) (by kernel_rfl) (by kernel_rfl) (fun _ _ _ h => h) (Or.inl ⟨by rfl, ?_⟩) (by assumption) ?_; rotate_left
      · intro W hSw; (try dsimp only at hSw); go_simp; (try with_reducible rfl)
      (try simp only [List.set_cons_zero, List.set_cons_succ])
      refine wpAnyH_takeD (i := 2) (d := 35) (v := ?_) rfl rfl (by kernel_rfl) (by kernel_rfl) (by kernel_rfl) (fun _ _ _ h => h) (Or.inl ⟨by rfl, ?_⟩) (by assumption) ?_; rotate_left
      · intro W hSw; (try dsimp only at hSw); go_simp; (try with_reducible rfl)
      (try simp only [List.set_cons_zero, List.set_cons_succ])
      refine wpAnyH_takeD (i := 4) (d := 37) (v := ?_) rfl rfl (by kernel_rfl) (by kernel_rfl) (by kernel_rfl) (fun _ _ _ h => h) (Or.inl ⟨by rfl, ?_⟩) (by assumption) ?_; rotate_left
      · intro W hSw; (try dsimp only at hSw); go_simp; (try with_reducible rfl)
      (try simp only [List.set_cons_zero, List.set_cons_succ])
      refine wpAnyH_takeD (i := 6) (d := 39) (v := ?_) rfl rfl (by kernel_rfl) (by kernel_rfl) (by kernel_rfl) (fun _ _ _ h => h) (Or.inl ⟨by rfl, ?_⟩) (by assumption) ?_; rotate_left
      · intro W hSw; (try dsimp only at hSw); go_simp; (try with_reducible rfl)
      (try simp only [List.set_cons_zero, List.set_cons_succ])
      refine wpAnyH_takeD (i := 7) (d := 40) (v := ?_) rfl rfl (by kernel_rfl) (by kernel_rfl) (by kernel_rfl) (fun _ _ _ h => h) (Or.inl ⟨by rfl, ?_⟩) (by assumption) ?_; rotate_left
      · intro W hSw; (try dsimp only at hSw); go_simp; (try with_reducible rfl)
      (try simp only [List.set_cons_zero, List.set_cons_succ])
      refine wpAnyH_takeD (i := 8) (d := 41) (v := ?_) rfl rfl (by kernel_rfl) (by kernel_rfl) (by kernel_rfl) (fun _ _ _ h => h) (Or.inl ⟨by rfl, ?_⟩) (by assumption) ?_; rotate_left
      · intro W hSw; (try dsimp only at hSw); go_simp; (try with_reducible rfl)
      (try simp only [List.set_cons_zero, List.set_cons_succ])
      refine wpAnyH_takeD (i := 9) (d := 42) (v := ?_) rfl rfl (by kernel_rfl) (by kernel_rfl) (by kernel_rfl) (fun _ _ _ h => h) (Or.inl ⟨by rfl, ?_⟩) (by assumption) ?_; rotate_left
      · intro W hSw; (try dsimp only at hSw); go_simp; (try with_reducible rfl)
      (try simp only [List.set_cons_zero, List.set_cons_succ])
      refine wpAnyH_takeD (i := 10) (d := 43) (v := ?_) rfl rfl (by kernel_rfl) (by kernel_rfl) (by kernel_rfl) (fun _ _ _ h => h) (Or.inl ⟨by rfl, ?_⟩) (by assumption) ?_; rotate_left
      · intro W hSw; (try dsimp only at hSw); go_simp; (try with_reducible rfl)
      (try simp only [List.set_cons_zero, List.set_cons_succ])
      refine wpAnyH_ready (rs := [1]) (by kernel_rfl) (by simp) ?_
      refine AllReadyH.cons rfl (fun K hK => ?_) AllReadyH.nil
      go_simp
      go_at_call 9
      refine (cInterval_any bc d0.heap.size _ (by first | exact K0.out | exact K0.out.drew)).mono ?_
      rintro e d1 ⟨v, A, rfl, hv, ho, hl, hm0, hk⟩
      obtain ⟨aA, cA, rfl⟩ := hv.shape
      have M01 : Hid (Mv bc d0 d1) := (by first | exact hm0 | exact (Mv.refl bc d0).drew.trans hm0)
      have M1 : Hid (Mv bc d0 d1) := M01.out
      have hd1 : d0.heap.size ≤ d1.heap.size := M1.out.size
      have GA := Lib.hid (IvsAt.ne (bc := bc) hv (by first | omega | (simp; omega)))
      have K1 := Lib.hid hk
      clear hv ho hl hm0 hk
      clear hHeld
      refine hK.out _ _ trivial (fun hHeld => ?_)
      clear hK K
      (try simp only [List.set_cons_zero, List.set_cons_succ])
      refine wpAnyH_ready (rs := [3]) (by kernel_rfl) (by simp) ?_
      refine AllReadyH.cons rfl (fun K hK => ?_) AllReadyH.nil
      go_simp
      go_at_call 9
      refine (cInterval_any bc d0.heap.size _ (by first | exact K1.out | exact K1.out.drew)).mono ?_
      rintro e d2 ⟨v, B, rfl, hv, ho, hl, hm0, hk⟩
      obtain ⟨aB, cB, rfl⟩ := hv.shape
      have M12 : Hid (Mv bc d1 d2) := (by first | exact hm0 | exact (Mv.refl bc d1).drew.trans hm0)
      have M2 : Hid (Mv bc d0 d2) := M1.out.trans M12.out
      have hd2 : d0.heap.size ≤ d2.heap.size := M2.out.size
      have GB := Lib.hid (IvsAt.ne (bc := bc) hv (by first | omega | (simp; omega)))
      have K2 := Lib.hid hk
      clear hv ho hl hm0 hk
      clear hHeld
      refine hK.out _ _ trivial (fun hHeld => ?_)
      clear hK K
      (try simp only [List.set_cons_zero, List.set_cons_succ])
      refine wpAnyH_ready (rs := [5]) (by kernel_rfl) (by simp) ?_
      refine AllReadyH.cons rfl (fun K hK => ?_) AllReadyH.nil
      go_simp
      go_at_call 10
      refine (spoilt_any bc d0.heap.size _ (by first | exact K2.out | exact K2.out.drew)).mono ?_
      rintro e d3 ⟨v, C, rfl, hv, hm0, hk⟩
      obtain ⟨aC, cC, rfl⟩ := hv.shape
      have M23 : Hid (Mv bc d2 d3) := (by first | exact hm0 | exact (Mv.refl bc d2).drew.trans hm0)
      have M3 : Hid (Mv bc d0 d3) := M2.out.trans M23.out
      have hd3 : d0.heap.size ≤ d3.heap.size := M3.out.size
      have GC := Lib.hid (IvsAt.ne (bc := bc) hv (by first | omega | (simp; omega)))
      have K3 := Lib.hid hk
      clear hv hm0 hk
      clear hHeld
      refine hK.out _ _ trivial (fun hHeld => ?_)
      clear hK K
      (try simp only [List.set_cons_zero, List.set_cons_succ])
      refine wpAnyH_ready (rs := [11]) (by kernel_rfl) (by simp) ?_
      refine AllReadyH.cons rfl (fun K hK => ?_) AllReadyH.nil
      go_simp
      clear hHeld
      refine hK.out _ _ trivial (fun hHeld => ?_)
      clear hK K
      (try simp only [List.set_cons_zero, List.set_cons_succ])
      refine wpAnyH_takeD (i := 12) (d := 6) (v := ?_) rfl rfl (by kernel_rfl) (by kernel_rfl) (by kernel_rfl) (fun _ _ _ h => h) (Or.inl ⟨by rfl, ?_⟩) (by assumption) ?_; rotate_left
      · intro W hSw; (try dsimp only at hSw); go_simp; (try with_reducible rfl)
      (try simp only [List.set_cons_zero, List.set_cons_succ])
      refine wpAnyH_done (by kernel_rfl) ?_ _
      go_wp2_with fail
      go_meet
      refine ⟨_, [(.slice aA A.length cA, A), (.slice aB B.length cB, B), (.slice aC C.length cC, C), (.slice ra 80 rc, R')], rfl, rfl, ?_, ?_⟩
      · exact LNe.new4 ((GA.out.mvn M12.out).mvn M23.out) (GB.out.mvn M23.out) GC.out (G0.out.mvn M3.out) (by omega) _
      · exact M3.out.alloc _
  case rest =>
    obtain ⟨sb, LL, rfl, HCUT⟩ := hcut
    have HLL : Hid (LNe bc wc sb LL) := HCUT.out.2.1
    have LEN : Hid (LL.length = 4) := HCUT.out.1
    have BW : Hid (Below w.heap.size w wc) := B0.out.trans (HCUT.out.2.2.below (by omega) hs0)
    clear HCUT B0 K0 G0 HRL
    go_wp2_with fail
    go_loopw [47] (fun i wr => ∃ k : Nat, k ≤ 4 ∧ i = .int .i64 k ∧ Hid (Below wc.heap.size wc wr)) (fun i _ => 4 - (intOf i).toNat)
    case atStart => exact ⟨0, by omega, rfl, Below.refl _ _⟩
    case round =>
      obtain ⟨k, hk, rfl, HR⟩ := hrel
      by_cases hlt : k < 4
      · have hlt' : (k : Int) < 4 := by omega
        have hkL : k < LL.length := by rw [LEN.out]; exact hlt
        have hcell := (HLL.out.mv (Mv.of_below HR.out)).get k hkL
        generalize LL[k] = x at hcell
        obtain ⟨va, A⟩ := x
        obtain ⟨c0, hA⟩ := hcell
        simp only at c0 hA
        obtain ⟨aA, cA, rfl⟩ := hA.shape
        have HA := Lib.hid hA.all
        clear hA hkL
        have Q0 := Lib.hid HR.out
        go_wp2_with fail
        refine (iComplement_any _ A wr HA.out).mono ?_
        rintro e ya1 ⟨v, X0, eX0, rfl, hv, hr1, hb⟩
        obtain ⟨aX0, cX0, rfl⟩ := hv.shape
        have Q1 := Lib.hid (Q0.out.trans (hb.mono Q0.out.size))
        clear Q0
        have HA' := Lib.hid (HA.out.below hb)
        clear HA
        have HA := Lib.hid HA'.out
        clear HA'
        have HX0 := Lib.hid hv.all
        have RX0 := Lib.hid hr1
        clear hv hr1 hb
        go_wp2_with fail
        refine (rComplement_any _ A ya1 HA.out).mono ?_
        rintro e ya2 ⟨v, L', er', rfl, hv, hr2, hb⟩
        obtain ⟨rfl, rfl⟩ := RX0.out.same hr2
        obtain ⟨bX0, gX0, rfl⟩ := hv.shape
        have Q2 := Lib.hid (Q1.out.trans (hb.mono Q1.out.size))
        clear Q1
        have HA' := Lib.hid (HA.out.below hb)
        clear HA
        have HA := Lib.hid HA'.out
        clear HA'
        have HX0' := Lib.hid (HX0.out.below hb)
        clear HX0
        have HX0 := Lib.hid HX0'.out
        clear HX0'
        have HX0z := Lib.hid hv.all
        clear RX0 hv hr2 hb
        have nX0 : (eX0 != eX0) = false := by simp
        go_wp2_with fail
        refine (sameL_eq _ _ X0 X0 ya2 HX0.out HX0z.out rfl).mono ?_
        rintro e ya3 ⟨rfl, hb⟩
        clear HX0 HX0z
        have Q3 := Lib.hid (Q2.out.trans (hb.mono Q2.out.size))
        clear Q2
        have HA' := Lib.hid (HA.out.below hb)
        clear HA
        have HA := Lib.hid HA'.out
        clear HA'
        clear hb
        go_wp2_with fail
        have QK := Lib.hid Q3.out
        have hzw : wc.heap.size ≤ ya3.heap.size := Q3.out.size
        clear Q3 nX0 c0
        go_loopw [72] (fun i wr2 => ∃ k2 : Nat, k2 ≤ 4 ∧ i = .int .i64 k2 ∧ Hid (Below ya3.heap.size ya3 wr2)) (fun i _ => 4 - (intOf i).toNat)
        case atStart => exact ⟨0, by omega, rfl, Below.refl _ _⟩
        case round =>
          obtain ⟨k2, hk2, rfl, HR2⟩ := hrel
          by_cases hlt2 : k2 < 4
          · have hlt2' : (k2 : Int) < 4 := by omega
            have hkL : k2 < LL.length := by rw [LEN.out]; exact hlt2
            have hcell := (HLL.out.mv (Mv.of_below (QK.out.trans (HR2.out.mono hzw)))).get k2 hkL
            generalize LL[k2] = x at hcell
            obtain ⟨vb, B⟩ := x
            obtain ⟨c0, hB⟩ := hcell
            simp only at c0 hB
            obtain ⟨aB, cB, rfl⟩ := hB.shape
            have HB := Lib.hid hB.all
            have HAz := Lib.hid (HA.out.below HR2.out)
            clear HA
            have HA := Lib.hid HAz.out
            clear HAz
            clear hB hkL
            have Q3 := Lib.hid HR2.out
            go_wp2_with fail
            refine (iUnion_any _ _ A B wr HA.out HB.out).mono ?_
            rintro e yb1 ⟨v, X1, eX1, rfl, hv, hr1, hb⟩
            obtain ⟨aX1, cX1, rfl⟩ := hv.shape
            have Q4 := Lib.hid (Q3.out.trans (hb.mono Q3.out.size))
            clear Q3
            have HA' := Lib.hid (HA.out.below hb)
            clear HA
            have HA := Lib.hid HA'.out
            clear HA'
            have HB' := Lib.hid (HB.out.below hb)
            clear HB
            have HB := Lib.hid HB'.out
            clear HB'
            have HX1 := Lib.hid hv.all
            have RX1 := Lib.hid hr1
            clear hv hr1 hb
            go_wp2_with fail
            refine (rUnion_any _ _ A B yb1 HA.out HB.out).mono ?_
            rintro e yb2 ⟨v, L', er', rfl, hv, hr2, hb⟩
            obtain ⟨rfl, rfl⟩ := RX1.out.same hr2
            obtain ⟨bX1, gX1, rfl⟩ := hv.shape
            have Q5 := Lib.hid (Q4.out.trans (hb.mono Q4.out.size))
            clear Q4
            have HA' := Lib.hid (HA.out.below hb)
            clear HA
            have HA := Lib.hid HA'.out
            clear HA'
            have HB' := Lib.hid (HB.out.below hb)
            clear HB
            have HB := Lib.hid HB'.out
            clear HB'
            have HX1' := Lib.hid (HX1.out.below hb)
            clear HX1
            have HX1 := Lib.hid HX1'.out
            clear HX1'
            have HX1z := Lib.hid hv.all
            clear RX1 hv hr2 hb
            have nX1 : (eX1 != eX1) = false := by simp
            go_wp2_with fail
            refine (iIntersect_any _ _ A B yb2 HA.out HB.out).mono ?_
            rintro e yc1 ⟨v, X2, eX2, rfl, hv, hr1, hb⟩
            obtain ⟨aX2, cX2, rfl⟩ := hv.shape
            have Q6 := Lib.hid (Q5.out.trans (hb.mono Q5.out.size))
            clear Q5
            have HA' := Lib.hid (HA.out.below hb)
            clear HA
            have HA := Lib.hid HA'.out
            clear HA'
            have HB' := Lib.hid (HB.out.below hb)
            clear HB
            have HB := Lib.hid HB'.out
            clear HB'
            have HX1' := Lib.hid (HX1.out.below hb)
            clear HX1
            have HX1 := Lib.hid HX1'.out
            clear HX1'
            have HX1z' := Lib.hid (HX1z.out.below hb)
            clear HX1z
            have HX1z := Lib.hid HX1z'.out
            clear HX1z'
            have HX2 := Lib.hid hv.all
            have RX2 := Lib.hid hr1
            clear hv hr1 hb
            go_wp2_with fail
            refine (rIntersect_any _ _ A B yc1 HA.out HB.out).mono ?_
            rintro e yc2 ⟨v, L', er', rfl, hv, hr2, hb⟩
            obtain ⟨rfl, rfl⟩ := RX2.out.same hr2
            obtain ⟨bX2, gX2, rfl⟩ := hv.shape
            have Q7 := Lib.hid (Q6.out.trans (hb.mono Q6.out.size))
            clear Q6
            have HA' := Lib.hid (HA.out.below hb)
            clear HA
            have HA := Lib.hid HA'.out
            clear HA'
            have HB' := Lib.hid (HB.out.below hb)
            clear HB
            have HB := Lib.hid HB'.out
            clear HB'
            have HX1' := Lib.hid (HX1.out.below hb)
            clear HX1
            have HX1 := Lib.hid HX1'.out
            clear HX1'
            have HX1z' := Lib.hid (HX1z.out.below hb)
            clear HX1z
            have HX1z := Lib.hid HX1z'.out
            clear HX1z'
            have HX2' := Lib.hid (HX2.out.below hb)
            clear HX2
            have HX2 := Lib.hid HX2'.out
            clear HX2'
            have HX2z := Lib.hid hv.all
            clear RX2 hv hr2 hb
            have nX2 : (eX2 != eX2) = false := by simp
            go_wp2_with fail
            refine (iMinus_any _ _ A B yc2 HA.out HB.out).mono ?_
            rintro e yd1 ⟨v, X3, eX3, rfl, hv, hr1, hb⟩
            obtain ⟨aX3, cX3, rfl⟩ := hv.shape
            have Q8 := Lib.hid (Q7.out.trans (hb.mono Q7.out.size))
            clear Q7
            have HA' := Lib.hid (HA.out.below hb)
            clear HA
            have HA := Lib.hid HA'.out
            clear HA'
            have HB' := Lib.hid (HB.out.below hb)
            clear HB
            have HB := Lib.hid HB'.out
            clear HB'
            have HX1' := Lib.hid (HX1.out.below hb)
            clear HX1
            have HX1 := Lib.hid HX1'.out
            clear HX1'
            have HX1z' := Lib.hid (HX1z.out.below hb)
            clear HX1z
            have HX1z := Lib.hid HX1z'.out
            clear HX1z'
            have HX2' := Lib.hid (HX2.out.below hb)
            clear HX2
            have HX2 := Lib.hid HX2'.out
            clear HX2'
            have HX2z' := Lib.hid (HX2z.out.below hb)
            clear HX2z
            have HX2z := Lib.hid HX2z'.out
            clear HX2z'
            have HX3 := Lib.hid hv.all
            have RX3 := Lib.hid hr1
            clear hv hr1 hb
            go_wp2_with fail
            refine (rMinus_any _ _ A B yd1 HA.out HB.out).mono ?_
            rintro e yd2 ⟨v, L', er', rfl, hv, hr2, hb⟩
            obtain ⟨rfl, rfl⟩ := RX3.out.same hr2
            obtain ⟨bX3, gX3, rfl⟩ := hv.shape
            have Q9 := Lib.hid (Q8.out.trans (hb.mono Q8.out.size))
            clear Q8
            have HA' := Lib.hid (HA.out.below hb)
            clear HA
            have HA := Lib.hid HA'.out
            clear HA'
            have HB' := Lib.hid (HB.out.below hb)
            clear HB
            have HB := Lib.hid HB'.out
            clear HB'
            have HX1' := Lib.hid (HX1.out.below hb)
            clear HX1
            have HX1 := Lib.hid HX1'.out
            clear HX1'
            have HX1z' := Lib.hid (HX1z.out.below hb)
            clear HX1z
            have HX1z := Lib.hid HX1z'.out
            clear HX1z'
            have HX2' := Lib.hid (HX2.out.below hb)
            clear HX2
            have HX2 := Lib.hid HX2'.out
            clear HX2'
            have HX2z' := Lib.hid (HX2z.out.below hb)
            clear HX2z
            have HX2z := Lib.hid HX2z'.out
            clear HX2z'
            have HX3' := Lib.hid (HX3.out.below hb)
            clear HX3
            have HX3 := Lib.hid HX3'.out
            clear HX3'
            have HX3z := Lib.hid hv.all
            clear RX3 hv hr2 hb
            have nX3 : (eX3 != eX3) = false := by simp
            go_wp2_with fail
            refine (iCovers_any _ _ A B yd2 HA.out HB.out).mono ?_
            rintro e ye1 ⟨p, ep, rfl, hr1, hb⟩
            have Q10 := Lib.hid (Q9.out.trans (hb.mono Q9.out.size))
            clear Q9
            have HA' := Lib.hid (HA.out.below hb)
            clear HA
            have HA := Lib.hid HA'.out
            clear HA'
            have HB' := Lib.hid (HB.out.below hb)
            clear HB
            have HB := Lib.hid HB'.out
            clear HB'
            have HX1' := Lib.hid (HX1.out.below hb)
            clear HX1
            have HX1 := Lib.hid HX1'.out
            clear HX1'
            have HX1z' := Lib.hid (HX1z.out.below hb)
            clear HX1z
            have HX1z := Lib.hid HX1z'.out
            clear HX1z'
            have HX2' := Lib.hid (HX2.out.below hb)
            clear HX2
            have HX2 := Lib.hid HX2'.out
            clear HX2'
            have HX2z' := Lib.hid (HX2z.out.below hb)
            clear HX2z
            have HX2z := Lib.hid HX2z'.out
            clear HX2z'
            have HX3' := Lib.hid (HX3.out.below hb)
            clear HX3
            have HX3 := Lib.hid HX3'.out
            clear HX3'
            have HX3z' := Lib.hid (HX3z.out.below hb)
            clear HX3z
            have HX3z := Lib.hid HX3z'.out
            clear HX3z'
            have RP := Lib.hid hr1
            clear hr1 hb
            go_wp2_with fail
            refine (rCovers_any _ _ A B ye1 HA.out HB.out).mono ?_
            rintro e ye2 ⟨p', ep', rfl, hr2, hb⟩
            obtain ⟨rfl, rfl⟩ := RP.out.uniq hr2
            have Q11 := Lib.hid (Q10.out.trans (hb.mono Q10.out.size))
            clear Q10
            have HA' := Lib.hid (HA.out.below hb)
            clear HA
            have HA := Lib.hid HA'.out
            clear HA'
            have HB' := Lib.hid (HB.out.below hb)
            clear HB
            have HB := Lib.hid HB'.out
            clear HB'
            have HX1' := Lib.hid (HX1.out.below hb)
            clear HX1
            have HX1 := Lib.hid HX1'.out
            clear HX1'
            have HX1z' := Lib.hid (HX1z.out.below hb)
            clear HX1z
            have HX1z := Lib.hid HX1z'.out
            clear HX1z'
            have HX2' := Lib.hid (HX2.out.below hb)
            clear HX2
            have HX2 := Lib.hid HX2'.out
            clear HX2'
            have HX2z' := Lib.hid (HX2z.out.below hb)
            clear HX2z
            have HX2z := Lib.hid HX2z'.out
            clear HX2z'
            have HX3' := Lib.hid (HX3.out.below hb)
            clear HX3
            have HX3 := Lib.hid HX3'.out
            clear HX3'
            have HX3z' := Lib.hid (HX3z.out.below hb)
            clear HX3z
            have HX3z := Lib.hid HX3z'.out
            clear HX3z'
            clear RP hr2 hb
            have nP : (ep != ep) = false := by simp
            have nQ : (p != p) = false := by simp
            clear HA HB
            go_wp2_with fail
            refine (sameL_eq _ _ X1 X1 ye2 HX1.out HX1z.out rfl).mono ?_
            rintro e yf1 ⟨rfl, hb⟩
            clear HX1 HX1z
            have Q12 := Lib.hid (Q11.out.trans (hb.mono Q11.out.size))
            clear Q11
            have HX2' := Lib.hid (HX2.out.below hb)
            clear HX2
            have HX2 := Lib.hid HX2'.out
            clear HX2'
            have HX2z' := Lib.hid (HX2z.out.below hb)
            clear HX2z
            have HX2z := Lib.hid HX2z'.out
            clear HX2z'
            have HX3' := Lib.hid (HX3.out.below hb)
            clear HX3
            have HX3 := Lib.hid HX3'.out
            clear HX3'
            have HX3z' := Lib.hid (HX3z.out.below hb)
            clear HX3z
            have HX3z := Lib.hid HX3z'.out
            clear HX3z'
            clear hb
            go_wp2_with fail
            refine (sameL_eq _ _ X2 X2 yf1 HX2.out HX2z.out rfl).mono ?_
            rintro e yf2 ⟨rfl, hb⟩
            clear HX2 HX2z
            have Q13 := Lib.hid (Q12.out.trans (hb.mono Q12.out.size))
            clear Q12
            have HX3' := Lib.hid (HX3.out.below hb)
            clear HX3
            have HX3 := Lib.hid HX3'.out
            clear HX3'
            have HX3z' := Lib.hid (HX3z.out.below hb)
            clear HX3z
            have HX3z := Lib.hid HX3z'.out
            clear HX3z'
            clear hb
            go_wp2_with fail
            refine (sameL_eq _ _ X3 X3 yf2 HX3.out HX3z.out rfl).mono ?_
            rintro e yf3 ⟨rfl, hb⟩
            clear HX3 HX3z
            have Q14 := Lib.hid (Q13.out.trans (hb.mono Q13.out.size))
            clear Q13
            clear hb
            go_wp2_with fail
            go_roundw
            case rel => exact ⟨k2 + 1, by omega, by go_num, Q14.out⟩
            case measure => simp [intOf]; omega
          · go_wp2_with fail
            go_roundw
            case rel => exact ⟨k + 1, by omega, by go_num, QK.out.trans (HR2.out.mono hzw)⟩
            case measure => simp [intOf]; omega
      · go_wp2_with fail
        refine (HBEG.out _).mono ?_
        rintro e z0 ⟨rfl, hb⟩
        have BF := Lib.hid (BW.out.trans ((HR.out.mono BW.out.size).trans (hb.mono (BW.out.trans (HR.out.mono BW.out.size)).size)))
        clear hb
        go_wp2_with fail
        go_ret
        exact ⟨rfl, BF.out⟩
end Go.Proofs.Ytmhgmlnnipdomaa
